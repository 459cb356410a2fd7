import PyProof.Rows.All
import Wide.All
import OpenK.AllK
import Wide.FinOn
import Lean
import PyProof.EqAt
import PyProof.EqKinds
import PyProof.TupleCall
import PyProof.NeData
import PyProof.P3Eq
import PyProof.EnumMake
import PyProof.EnumFor
import PyProof.ConsumeWalk
import PyProof.ListRange
import PyProof.ZipIter
import KE.IntBitsLaws
import KE.RegMulBits
import PyProof.ExcArgs
import PyProof.DictWalks
import KE.KRevSl
import PyProof.DictItems
import PyProof.DictDisplay
import PyProof.SeqI3
import PyProof.NsDelKeeps
import PyProof.StrWalks
import PyProof.StrBlockH
import PyProof.StrBlock2
import KE.KMinKey
import PyProof.Rows.CallKwBuiltin
import KE.KIntText
import PyProof.StrCalls2
import PyProof.StrLawsTight
import PyProof.Rows.StrItems
import PyProof.FactsAll.tuple_1
import PyProof.FactsAll.tuple_2
import PyProof.FString5
import PyProof.Rows.RuleC_int
import PyProof.Rows.SortRunsK
import PyProof.StrLawsOcc
import PyProof.StrLawsFirst
import PySem.Challenge.RW_foreverrows_k22_words_that_stand
set_option Elab.async false
set_option linter.all false
set_option maxRecDepth 100000
open List (mem_filter mem_range mem_cons_self mem_cons_of_mem mem_cons mem_append mem_append_left mem_append_right size_toArray append_nil nodup_cons length_take length_append length_map length_drop map_cons all_cons any_cons length_cons mem_map all_eq_true any_eq_true mem_singleton length_set nodup_nil nodup_append mem_of_mem_drop mem_of_mem_take length_range append_assoc map_append map_map take_append_drop drop_drop mem_iff_getElem? take_length length_filter_le)
namespace L2
open PySem PySem.Spec PyProof.Rows
abbrev Key:=Sum Int Str
def keyIs:Key->Value->Bool
 | .inl k,v=>Value.isInt k v
 | .inr x,v=>Value.isStrOf x v
def keyH (w:World):Key->Int
 | .inl k=>hashInt k
 | .inr x=>hashStr w x
theorem keyIs_shape:∀ {k:Key} {v:Value},keyIs k v=true->(∃ i t,k=Sum.inl i/\v=Value.int i t)\/(∃ x t,k=Sum.inr x/\v=Value.str x t)
 | .inl i,v,h=>by
  obtain ⟨t,e⟩:=Value.isInt_shape (k:=i) (v:=v) h
  exact .inl ⟨i,t,rfl,e⟩
 | .inr x,v,h=>by
  obtain ⟨t,e⟩:=Value.isStrOf_shape (x:=x) (v:=v) h
  exact .inr ⟨x,t,rfl,e⟩
theorem keyIs_int (i:Int) (t:Tok):keyIs (.inl i) (.int i t)=true:=by simp [keyIs,Value.isInt]
theorem keyIs_str (x:Str) (t:Tok):keyIs (.inr x) (.str x t)=true:=by simp [keyIs,Value.isStrOf]
theorem key_ll (a b:Int):decide ((Sum.inl a:Key)=Sum.inl b)=(a==b):=by
 by_cases e:a=b
 ·subst e;simp
 ·have h:¬ (Sum.inl a:Key)=Sum.inl b:=fun q=>e (Sum.inl.inj q)
  rw [decide_eq_false h]
  exact (beq_eq_false_iff_ne.mpr e).symm
theorem key_rr (a b:Str):decide ((Sum.inr a:Key)=Sum.inr b)=decide (a=b):=by
 by_cases e:a=b
 ·subst e;simp
 ·have h:¬ (Sum.inr a:Key)=Sum.inr b:=fun q=>e (Sum.inr.inj q)
  rw [decide_eq_false h,decide_eq_false e]
theorem key_lr (a:Int) (b:Str):decide ((Sum.inl a:Key)=Sum.inr b)=false:=decide_eq_false (fun q=>nomatch q)
theorem key_rl (a:Str) (b:Int):decide ((Sum.inr a:Key)=Sum.inl b)=false:=decide_eq_false (fun q=>nomatch q)
def mixKind (prog:Program) (w:World):PySem.KeyKind prog w Key where
 is:=keyIs
 hash:=keyH w
 inj:=fun v a b ha hb=>by
  rcases keyIs_shape ha with ⟨i,t,rfl,rfl⟩|⟨x,t,rfl,rfl⟩
  ·rcases keyIs_shape hb with ⟨j,u,rfl,e⟩|⟨y,u,rfl,e⟩
   ·injection e with e1 _;rw [e1]
   ·exact nomatch e
  ·rcases keyIs_shape hb with ⟨j,u,rfl,e⟩|⟨y,u,rfl,e⟩
   ·exact nomatch e
   ·injection e with e1 _;rw [e1]
 byValue:=fun k v h=>by
  rcases keyIs_shape h with ⟨i,t,rfl,rfl⟩|⟨x,t,rfl,rfl⟩<;>rfl
 pyHash:=fun hv h=>by
  rcases keyIs_shape hv with ⟨i,t,rfl,rfl⟩|⟨x,t,rfl,rfl⟩
  ·exact wpAny_pyHash_int h
  ·exact wpAny_pyHash_str h
 eqBool:=fun hu hv h=>by
  rcases keyIs_shape hu with ⟨i,t,rfl,rfl⟩|⟨x,t,rfl,rfl⟩
  ·rcases keyIs_shape hv with ⟨j,u,rfl,rfl⟩|⟨y,u,rfl,rfl⟩
   ·rw [key_ll] at h;exact wpAny_eqBool_int h
   ·rw [key_lr] at h;exact SeqAt.EqAt.int_str i t y u _ _ _ _ h
  ·rcases keyIs_shape hv with ⟨j,u,rfl,rfl⟩|⟨y,u,rfl,rfl⟩
   ·rw [key_rl] at h;exact SeqAt.EqAt.str_int x t j u _ _ _ _ h
   ·rw [key_rr] at h;exact wpAny_eqBool_str h
 «strs»:=fun k x t v h=>by
  rcases keyIs_shape h with ⟨i,u,rfl,e⟩|⟨y,u,rfl,e⟩
  ·exact nomatch e
  ·injection e with e1 _
   subst e1
   cases v<;>rfl
theorem mixKind_int (prog:Program) (w:World) (i:Int) (t:Tok):(mixKind prog w).is (.inl i) (.int i t)=true:=keyIs_int i t
theorem mixKind_str (prog:Program) (w:World) (x:Str) (t:Tok):(mixKind prog w).is (.inr x) (.str x t)=true:=keyIs_str x t
inductive V where
 | non|bl (b:Bool)|int (i:Int)|str (x:Str)|byt (b:Array UInt8)|flt (b:UInt64)|ref (a:Addr)|ty (n:String)
 deriving DecidableEq
def RelV:V->Value->Prop
 | .non,u=>u=Value.none
 | .bl b,u=>u=Value.bool b
 | .int i,u=>∃ t,u=Value.int i t
 | .str x,u=>∃ t,u=Value.str x t
 | .byt b,u=>∃ t,u=Value.bytes b t
 | .flt b,u=>∃ t,u=Value.float b t
 | .ref a,u=>u=Value.ref a
 | .ty n,u=>u=Value.type n
abbrev Vals:List V->List Value->Prop:=Paired RelV
theorem Vals.length {xs:List V} {us:List Value} (r:Vals xs us):xs.length=us.length:=Paired.length r
theorem Vals.get:∀ {xs:List V} {us:List Value} {i:Nat} {x:V},Vals xs us->xs[i]?=some x->∃ u,us[i]?=some u/\RelV x u
 | _,_,_,_,.nil,e=>by simp at e
 | _,_,0,_,.cons r _,e=>by simp at e;subst e;exact ⟨_,rfl,r⟩
 | _,_,i+1,x,.cons _ t,e=>by
  obtain ⟨u,h1,h2⟩:=Vals.get (i:=i) (x:=x) t (by simpa using e)
  exact ⟨u,by simpa using h1,h2⟩
theorem Vals.set {x:V} {u:Value} (r:RelV x u):∀ {xs:List V} {us:List Value} (i:Nat),Vals xs us->Vals (xs.set i x) (us.set i u)
 | _,_,_,.nil=>.nil
 | _,_,0,.cons _ t=>.cons r t
 | _,_,i+1,.cons q t=>.cons q (Vals.set r i t)
theorem Vals.append:∀ {xs ys:List V} {us ws:List Value},Vals xs us->Vals ys ws->Vals (xs++ys) (us++ws)
 | _,_,_,_,.nil,s=>s
 | _,_,_,_,.cons r t,s=>.cons r (Vals.append t s)
theorem Vals.take:∀ {xs:List V} {us:List Value} (n:Nat),Vals xs us->Vals (xs.take n) (us.take n)
 | _,_,0,_=>.nil
 | _,_,_+1,.nil=>.nil
 | _,_,n+1,.cons r t=>.cons r (Vals.take n t)
theorem Vals.drop:∀ {xs:List V} {us:List Value} (n:Nat),Vals xs us->Vals (xs.drop n) (us.drop n)
 | _,_,0,r=>r
 | _,_,_+1,.nil=>.nil
 | _,_,n+1,.cons _ t=>Vals.drop n t
def RelO:Option V->Option Value->Prop
 | some v,some u=>RelV v u
 | none,none=>True
 | _,_=>False
def KV {κ:Type}:List (κ × V)->List (κ × Value)->Prop:=Paired fun (p:κ × V) (q:κ × Value)=>p.1=q.1/\RelV p.2 q.2
def kV:Key->V
 | .inl i=>.int i
 | .inr x=>.str x
inductive HO where
 /-- a list -/
 | lst (xs:List V)
 /-- a tuple (never changes) -/
 | tup (xs:List V)
 /-- a dict whose keys are ints and texts;one whose keys are tuples of ints and texts (the empty one is both) -/
 | dK (kvs:List (Key × V))|dT (kvs:List (List Key × V))
 /-- a set of ints: its members,its size -/
 | set (S:Int->Bool) (n:Nat)
 /-- an instance of the class at C,its dict at dx,its attributes -/
 | ins (C dx:Addr) (fs:List (Str × V))
 /-- the dict of the instance at x -/
 | own (x:Addr)
 /-- the dict of an exception -/
 | xd (fs:List (Str × V))
 /-- a bound method,f of x -/
 | met (f x:Addr)
 /-- a range object lo,lo+1,.. below hi -/
 | rng (lo hi:Int)
 /-- a thing that is known to the object (the script;a dict while a loop walks it): read,never written while it is so -/
 | frz (o:Obj) (u:HO)
 /-- a code object's table -/
 | tbl (ps:Array Value)
 /-- any other thing,by what is true of its one object (a def of one's own: SetO a S n:=HO.ext fun h=>..) -/
 | ext (φ:Heap->Prop)
abbrev Hp:=Addr->Option HO
def upd (H:Hp) (a:Addr) (o:HO):Hp:=fun b=>if b=a then some o else H b
theorem upd_same {H:Hp} {a:Addr} {o:HO}:upd H a o a=some o:=by unfold upd;rw [if_pos rfl]
theorem upd_ne {H:Hp} {a b:Addr} {o:HO} (h:b≠a):upd H a o b=H b:=by unfold upd;rw [if_neg h]
theorem ne_of {H:Hp} {a b:Addr} {o u:HO} (h:H a=some o) (h':H b=some u) (d:o≠u):a≠b:=by
 intro e;subst e;rw [h] at h';exact d (Option.some.inj h')
theorem ne_of_none {H:Hp} {a b:Addr} {o:HO} (h:H a=some o) (h':H b=none):a≠b:=by
 intro e;subst e;rw [h] at h';cases h'
section
variable (P:Program) (w:World)
def ObjOk (H:Hp) (h:Heap) (a:Addr):HO->Prop
 | .lst xs=>xs.length<=sizeLine/\∃ (its:List Value) (n:Nat),Vals xs its/\h.get? a=some { cls:=.type "list",data:=.seq its.toArray n }
 | .tup xs=>xs.length<=sizeLine/\∃ its:List Value,Vals xs its/\IsTup h a its.toArray
 | .dK kvs=>kvs.length<=sizeLine/\(a==sysModules)=false/\∃ vs,KV kvs vs/\h.DictOf (mixKind P w) a vs
 | .dT kvs=>kvs.length<=sizeLine/\(a==sysModules)=false/\∃ xs:List (List Key × Addr × Value),
   Paired (fun (p:List Key × V) (q:List Key × Addr × Value)=>p.1=q.1/\H q.2.1=some (.tup (p.1.map kV))/\RelV p.2 q.2.2) kvs xs /\
   ∃ o es ep,h.get? a=some o/\o.ExactDict/\o.data=.dict es ep/\es.toList=xs.map (entryOfKey (tupleKind (mixKind P w)))/\(xs.map (·.1)).Nodup
 | .set S n=>h.SetOf (intKind P w) a S n
 | .ins C dx fs=>H dx=some (.own a)/\fs.length<=1000/\dx≠a/\h.get? a=some (PySem.W.instObj C dx) /\
   ∃ mA,h.Ns1 dx mA/\(∀ f,RelO (fs.lookup f) (mA f))/\PySem.Within mA (fs.map (·.1))
 | .own _=>∃ o,h.get? a=some o
 | .xd fs=>∃ mA,h.Ns1 a mA/\∀ f,RelO (fs.lookup f) (mA f)
 | .rng lo hi=>∃ t u v,h.get? a=some { cls:=.type "range",data:=.fields #[.int lo t,.int hi u,.int 1 v] }
 | .frz o u=>h.get? a=some o/\ObjOk H h a u
 | .tbl ps=>h.get? a=some { cls:=.none,data:=.fields ps }
 | .met f x=>h.get? a=some (PySem.W.methodObj (.ref f) (.ref x))
 | .ext φ=>φ h/\(∃ o,h.get? a=some o)/\∀ h1 h2:Heap,φ h1->(∀ o,h1.get? a=some o->h2.get? a=some o)->φ h2
def HOk (H:Hp) (h:Heap):Prop:=∀ a o,H a=some o->ObjOk P w H h a o
end
section
variable {P:Program} {w:World} {H H':Hp} {h h':Heap} {a:Addr} {o:HO}
theorem ObjOk.lt (x:ObjOk P w H h a o):a < h.objs.size:=by
 cases o with
 | lst xs=>obtain ⟨_,_,_,_,e⟩:=x;exact Heap.lt_size e
 | tup xs=>obtain ⟨_,_,_,p⟩:=x;exact p.lt
 | dK kvs=>obtain ⟨_,_,_,_,o,_,_,e,_⟩:=x;exact Heap.lt_size e
 | dT kvs=>obtain ⟨_,_,_,_,o,_,_,e,_⟩:=x;exact Heap.lt_size e
 | set S n=>obtain ⟨o,_,_,_,e,_⟩:=x;exact Heap.lt_size e
 | ins C dx fs=>obtain ⟨_,_,_,e,_⟩:=x;exact Heap.lt_size e
 | own y=>obtain ⟨_,e⟩:=x;exact Heap.lt_size e
 | xd fs=>obtain ⟨_,⟨_,_,_,e,_⟩,_⟩:=x;exact Heap.lt_size e
 | rng lo hi=>obtain ⟨_,_,_,e⟩:=x;exact Heap.lt_size e
 | frz ob u=>obtain ⟨e,_⟩:=x;exact Heap.lt_size e
 | tbl ps=>exact Heap.lt_size (show h.get? a=some _ from x)
 | met f y=>exact Heap.lt_size (show h.get? a=some _ from x)
 | ext φ=>obtain ⟨_,⟨_,e⟩,_⟩:=x;exact Heap.lt_size e
theorem Paired.mapP {α β:Type} {F G:α->β->Prop}:∀ {l₁:List α} {l₂:List β},Paired F l₁ l₂->(∀ a b,F a b->G a b)->Paired G l₁ l₂
 | _,_,.nil,_=>.nil
 | _,_,.cons r t,f=>.cons (f _ _ r) (Paired.mapP t f)
theorem ObjOk.stay (x:ObjOk P w H h a o) (k:∀ b u,(b=a\/H b=some (.own a))->h.get? b=some u->h'.get? b=some u)
  (ho:∀ b,H b=some (.own a)->H' b=some (.own a)) (ht:∀ b xs,H b=some (.tup xs)->H' b=some (.tup xs)):ObjOk P w H' h' a o:=by
 induction o with
 | lst xs=>obtain ⟨z,its,n,r,e⟩:=x;exact ⟨z,its,n,r,k _ _ (.inl rfl) e⟩
 | tup xs=>obtain ⟨z,its,r,ob,e,c⟩:=x;exact ⟨z,its,r,ob,k _ _ (.inl rfl) e,c⟩
 | dK kvs=>obtain ⟨z,y,vs,r,ob,es,ep,e,c⟩:=x;exact ⟨z,y,vs,r,ob,es,ep,k _ _ (.inl rfl) e,c⟩
 | dT kvs =>
  obtain ⟨z,y,xs,r,ob,es,ep,e,c⟩:=x
  exact ⟨z,y,xs,Paired.mapP r fun p q z=>⟨z.1,ht _ _ z.2.1,z.2.2⟩,ob,es,ep,k _ _ (.inl rfl) e,c⟩
 | set S n=>obtain ⟨ob,es,ep,t,e,c⟩:=x;exact ⟨ob,es,ep,t,k _ _ (.inl rfl) e,c⟩
 | ins C dx fs =>
  obtain ⟨d,z,ne,e,mA,⟨od,es,ep,e2,c⟩,r⟩:=x
  exact ⟨ho _ d,z,ne,k _ _ (.inl rfl) e,mA,⟨od,es,ep,k _ _ (.inr d) e2,c⟩,r⟩
 | own y=>obtain ⟨ob,e⟩:=x;exact ⟨ob,k _ _ (.inl rfl) e⟩
 | xd fs=>obtain ⟨mA,⟨od,es,ep,e,c⟩,r⟩:=x;exact ⟨mA,⟨od,es,ep,k _ _ (.inl rfl) e,c⟩,r⟩
 | rng lo hi=>obtain ⟨t,u,v,e⟩:=x;exact ⟨t,u,v,k _ _ (.inl rfl) e⟩
 | frz ob u ih=>obtain ⟨e,q⟩:=x;exact ⟨k _ _ (.inl rfl) e,ih q⟩
 | tbl ps =>
  have e:h.get? a=some { cls:=.none,data:=.fields ps }:=x
  show h'.get? a=some { cls:=.none,data:=.fields ps }
  exact k a _ (.inl rfl) e
 | met f y =>
  have e:h.get? a=some (PySem.W.methodObj (.ref f) (.ref y)):=x
  show h'.get? a=some (PySem.W.methodObj (.ref f) (.ref y))
  exact k a _ (.inl rfl) e
 | ext φ=>obtain ⟨p,⟨o,e⟩,st⟩:=x;exact ⟨st _ _ p fun o q=>k _ _ (.inl rfl) q,⟨o,k _ _ (.inl rfl) e⟩,st⟩
theorem HOk.lt (x:HOk P w H h) (e:H a=some o):a < h.objs.size:=(x a o e).lt
theorem HOk.fresh (x:HOk P w H h) (e:h.objs.size<=a):H a=none:=by
 cases q:H a with
 | none=>rfl
 | some u=>exact absurd (Nat.lt_of_lt_of_le (x.lt q) e) (Nat.lt_irrefl _)
theorem HOk.kept (x:HOk P w H h) (k:∀ b u,h.get? b=some u->h'.get? b=some u):HOk P w H h':=fun a o e =>
 (x a o e).stay (fun b u _ q=>k b u q) (fun _ q=>q) fun _ _ q=>q
theorem HOk.laid (x:HOk P w H h) (k:∀ b u,h.get? b=some u->h'.get? b=some u) (hp:h.objs.size<=a) (new:ObjOk P w (upd H a o) h' a o):HOk P w (upd H a o) h':=fun b u e=>by
 have hn:=x.fresh hp
 by_cases hb:b=a
 ·subst hb;rw [upd_same] at e;cases e;exact new
 ·rw [upd_ne hb] at e
  exact (x b u e).stay (fun c v _ q=>k c v q) (fun c q=>by rw [upd_ne (ne_of_none q hn)];exact q) fun c xs q=>by rw [upd_ne (ne_of_none q hn)];exact q
end
def Rd (H:Hp) (a:Addr) (u:HO):Prop:=H a=some u\/∃ o,H a=some (.frz o u)
theorem Rd.ok {P:Program} {w:World} {H:Hp} {h:Heap} {a:Addr} {u:HO} (r:Rd H a u) (x:HOk P w H h):ObjOk P w H h a u:=by
 rcases r with r|⟨o,r⟩
 ·exact x a u r
 ·obtain ⟨_,q⟩:=x a _ r
  exact q
def Mut:Option HO->Prop
 | some (.lst _)=>True
 | some (.dK _)=>True
 | some (.dT _)=>True
 | some (.set _ _)=>True
 | some (.ins _ _ _)=>True
 | some (.ext _)=>True
 | _=>False
section
variable {P:Program} {w:World} {H:Hp} {h h':Heap} {x e:Addr} {o':HO}
theorem HOk.write (ok:HOk P w H h) (mu:Mut (H x)) (he:e=x\/H e=some (.own x)) (k:∀ b u,b≠e->h.get? b=some u->h'.get? b=some u) (heo:∃ u,h'.get? e=some u)
  (new:ObjOk P w (upd H x o') h' x o'):HOk P w (upd H x o') h':=fun b u q=>by
 have nown:∀ c y,H c=some (.own y)->c≠x:=fun c y r z=>by subst z;rw [r] at mu;exact mu
 have ntup:∀ c xs,H c=some (.tup xs)->c≠x:=fun c xs r z=>by subst z;rw [r] at mu;exact mu
 by_cases hb:b=x
 ·subst hb;rw [upd_same] at q;cases q;exact new
 ·rw [upd_ne hb] at q
  by_cases hbe:b=e
  ·have q':H b=some (.own x):=by
    rcases he with z|z
    ·exact absurd (hbe.trans z) hb
    ·rw [hbe];exact z
   rw [q] at q';cases q'
   obtain ⟨v,hv⟩:=heo
   exact ⟨v,by rw [hbe];exact hv⟩
  ·refine (ok b u q).stay (fun c v hc r=>k c v ?_ r) (fun c r=>by rw [upd_ne (nown c b r)];exact r) fun c xs r=>by rw [upd_ne (ntup c xs r)];exact r
   rcases hc with rfl|hc
   ·exact hbe
   ·rintro rfl
    rcases he with z|z
    ·exact nown c b hc z
    ·rw [hc] at z;cases z;exact hb rfl
end
structure Un (fs ex:List Addr) (H H':Hp) (h h':Heap):Prop where
 keep:∀ b o,h.get? b=some o->H b=none->b∉fs->b∉ex->h'.get? b=some o
 slot:∀ b o,h.get? b=some o->H b=none->b∈fs->b∉ex->∃ sl,h'.get? b=some { o with slots:=sl }
 free:∀ b o,h.get? b=some o->H b=none->b∉ex->H' b=none
 there:∀ b o,h.get? b=some o->b∉ex->∃ o',h'.get? b=some o'
 tups:∀ b xs,H b=some (.tup xs)->H' b=some (.tup xs)
 frzs:∀ b o u,H b=some (.frz o u)->H' b=some (.frz o u)
 tbls:∀ b ps,H b=some (.tbl ps)->∃ more,H' b=some (.tbl (ps++more))
section
variable {fs ex:List Addr} {H H1:Hp} {h h1 h':Heap} {a x e:Addr} {o:HO}
theorem Un.any (u:Un fs ex H H1 h h1) {b:Addr} {ob:Obj} (q:h.get? b=some ob) (n:H b=none) (hx:b∉ex):∃ sl,h1.get? b=some { ob with slots:=sl }:=by
 by_cases hb:b∈fs
 ·exact u.slot b ob q n hb hx
 ·exact ⟨ob.slots,u.keep b ob q n hb hx⟩
theorem Un.kept (k:∀ b u,h.get? b=some u->h'.get? b=some u):Un fs ex H H h h' :=
 ⟨fun b ob q _ _ _=>k b ob q,fun b ob q _ _ _=>⟨ob.slots,k b ob q⟩,fun _ _ _ n _=>n,fun b ob q _=>⟨ob,k b ob q⟩,fun _ _ q=>q,fun _ _ _ q=>q,fun _ ps q=>⟨#[],by rw [q];simp⟩⟩
theorem Un.refl:Un fs ex H H h h:=Un.kept fun _ _ q=>q
theorem Un.laid (k:∀ b u,h.get? b=some u->h'.get? b=some u) (hp:h.objs.size<=a) (hn:H a=none):Un fs ex H (upd H a o) h h' where
 keep:=fun b u q _ _ _=>k b u q
 slot:=fun b u q _ _ _=>⟨u.slots,k b u q⟩
 free:=fun b u q n _=>by rw [upd_ne (Nat.ne_of_lt (Nat.lt_of_lt_of_le (Heap.lt_size q) hp))];exact n
 there:=fun b u q _=>⟨u,k b u q⟩
 tups:=fun b xs q=>by rw [upd_ne (ne_of_none q hn)];exact q
 frzs:=fun b u xs q=>by rw [upd_ne (ne_of_none q hn)];exact q
 tbls:=fun b ps q=>⟨#[],by rw [upd_ne (ne_of_none q hn),q];simp⟩
theorem Un.write (mu:Mut (H x)) (he:e=x\/H e=some (.own x)) (k:∀ b u,b≠e->h.get? b=some u->h'.get? b=some u) (heo:∃ u,h'.get? e=some u):Un fs ex H (upd H x o) h h':=by
 have hx:∀ b,H b=none->b≠x:=fun b n z=>by subst z;rw [n] at mu;exact mu
 have hb:∀ b,H b=none->b≠e:=fun b n z=>by
  subst z
  rcases he with r|r
  ·exact hx b n r
  ·rw [n] at r;cases r
 have hm:∀ b u,H b=some u->¬ Mut (some u)->b≠x:=fun b u q nm z=>by subst z;rw [q] at mu;exact nm mu
 refine ⟨fun b u q n _ _=>k b u (hb b n) q,fun b u q n _ _=>⟨u.slots,k b u (hb b n) q⟩,fun b u q n _=>by rw [upd_ne (hx b n)];exact n,fun b u q _=>?_,
  fun b xs q=>by rw [upd_ne (hm b _ q fun z=>z)];exact q,fun b u xs q=>by rw [upd_ne (hm b _ q fun z=>z)];exact q,fun b ps q=>⟨#[],by rw [upd_ne (hm b _ q fun z=>z),q];simp⟩⟩
 by_cases hbe:b=e
 ·subst hbe;exact heo
 ·exact ⟨u,k b u hbe q⟩
end
def trk (h:Heap) (H:Hp):List Addr:=(List.range h.objs.size).filter fun a=>(H a).isSome
def hidT (h:Heap) (H:Hp):Heap:=PySem.W.hideAll h (trk h H)
theorem hidT_size (h:Heap) (H:Hp):(hidT h H).objs.size=h.objs.size:=PySem.W.hideAll_size _ _
theorem hidT_get {h:Heap} {H:Hp} {b:Addr} {o:Obj} (e:h.get? b=some o) (n:H b=none):(hidT h H).get? b=some o :=
 PySem.W.hideAll_get _ e fun hm=>by
  have q:(H b).isSome=true:=(mem_filter.mp hm).2
  rw [n] at q;simp at q
theorem of_hidT {h:Heap} {H:Hp} {b:Addr} {o:Obj} (e:(hidT h H).get? b=some o):h.get? b=some o/\H b=none:=by
 have e':h.get? b=some o:=PySem.W.of_hideAll (trk h H) e
 refine ⟨e',?_⟩
 cases q:H b with
 | none=>rfl
 | some x =>
  have hm:b∈trk h H:=mem_filter.mpr ⟨mem_range.mpr (Heap.lt_size e'),by simp [q]⟩
  have z:(hidT h H).get? b=none:=PySem.W.hideAll_none (trk h H) hm
  rw [z] at e;cases e
def allNews (g h:Heap) (L:Addr):List (Addr × Obj):=(List.range h.objs.size).filterMap fun a=>if a=L\/(g.get? a).isSome=true then none else (h.get? a).map fun o=>(a,o)
def rest (g h:Heap) (L d:Addr):List (Addr × Obj):=(allNews g h L).filter fun p=>decide (p.1≠d)
structure Mod (K:W.Frag) (mg:Str->Option Value) (base:Heap):Prop where
 kin:K.In base
 glob:base.Ns mainGlobals mg
 blt:∃ mb,base.Ns builtinsNs mb/\∀ x:Str,x≠"__name__"->mb x=bootBuiltins x
 nolimit:base.NoLimit
 seer:base.NoSeer
structure Cx where
 prog:Program
 w:World
 K:W.Frag
 mg:Str->Option Value
 base:Heap
 A:Around
 N:List Str
 s₀:Shared
 H₀:Hp
 env:Env
 outer:List Env
 stack:List Env
 ex:List Addr
 fn:Str->Bool
 calm:Bool
 pn:List (Addr × Obj)
 xe:Value->Shared->Prop
def frs (l:List Env):List Addr:=l.filterMap (·.frame)
abbrev Cx.fs (X:Cx):List Addr:=frs X.outer
def Vis (sc:Scope) (x:Str):Prop:=sc.names.lookup x=some .local\/sc.names.lookup x=some .cell\/sc.names.lookup x=some .free
def Loc (sc:Scope) (x:Str):Prop:=sc.names.lookup x=some .local\/sc.names.lookup x=some .cell
def Look (env:Env) (h:Heap) (m:Str->Option Value) (x:Str) (u:Value):Prop :=
 (env.kindOf x=some .local/\m x=some u)\/((env.kindOf x=some .cell\/env.kindOf x=some .free)/\∃ c,env.cells.lookup x=some c/\h.IsCell c (some u))
structure Cx.Ok (X:Cx):Prop where
 mod:Mod X.K X.mg X.base
 kind:X.env.scope.kind=.function
 glob:X.env.globals=mainGlobals
 blt:X.env.builtins=builtinsNs
 above:X.s₀.heap.objs.size<=X.env.locals
 inj:∀ x y c,X.env.cells.lookup x=some c->X.env.cells.lookup y=some c->x=y
 has:∀ x,(X.env.kindOf x=some .cell\/X.env.kindOf x=some .free)->∃ c,X.env.cells.lookup x=some c
 cab:∀ x c,X.fn x=true->X.env.cells.lookup x=some c->X.s₀.heap.objs.size<=c
 hd:X.calm=true->X.A.handled=none
 frames:X.A.frames=some X.stack
 stk:X.stack=X.outer\/(X.stack=X.env::X.outer/\X.env.frame=some X.env.locals)
 exf:∀ b∈X.ex,b≠X.env.locals/\∀ x c,X.env.cells.lookup x=some c->c≠b
 bs:∀ b o,X.base.get? b=some o->X.s₀.heap.get? b=some o/\X.H₀ b=none
 bsz:X.base.objs.size<=X.s₀.heap.objs.size
 noex:∀ b o,X.base.get? b=some o->b∉X.ex
 exfs:∀ b∈X.ex,b∉X.fs
 funs:X.s₀.heap.FunFrames X.base X.outer
 frf:∀ b∈X.fs,X.H₀ b=none
structure Inv (X:Cx) (pins:List (Addr × Obj)) (σ:List (Option V)) (H:Hp) (s:Shared):Prop where
 ok:X.Ok
 os:s.os=X.s₀.os
 bare:AllBare s.gens
 base:Un X.fs X.ex X.H₀ H X.s₀.heap s.heap
 loc:∃ m,s.heap.Ns X.env.locals m/\∀ (i:Nat) (x:Str) (v:V),X.N[i]?=some x->σ[i]?=some (some v)->Vis X.env.scope x->∃ u,RelV v u/\Look X.env s.heap m x u
 cell:∀ x c,X.env.cells.lookup x=some c->∃ v,s.heap.IsCell c v
 free:H X.env.locals=none
 freeC:∀ x c,X.env.cells.lookup x=some c->H c=none
 pin:∀ p∈X.pn++pins,s.heap.get? p.1=some p.2/\H p.1=none/\p.1≠X.env.locals/\p.1∉X.fs/\∀ v,p.2.data≠.cell v
 hok:HOk X.prog X.w H s.heap
 len:σ.length=X.N.length
section
variable {X:Cx} {pins:List (Addr × Obj)} {σ:List (Option V)} {H H':Hp} {s:Shared} {h':Heap}
theorem Cx.Ok.nofr (ok:X.Ok) {b:Addr} {o:Obj} (e:X.base.get? b=some o):b∉X.fs:=fun hb=>by
 have:=(ok.funs.mem hb).1
 rw [e] at this;cases this
theorem Inv.bs (I:Inv X pins σ H s):∀ b o,X.base.get? b=some o->s.heap.get? b=some o/\H b=none:=fun b o e =>
 ⟨I.base.keep b o (I.ok.bs b o e).1 (I.ok.bs b o e).2 (I.ok.nofr e) (I.ok.noex b o e),I.base.free b o (I.ok.bs b o e).1 (I.ok.bs b o e).2 (I.ok.noex b o e)⟩
theorem Inv.bk (I:Inv X pins σ H s):∀ b o,X.base.get? b=some o->s.heap.get? b=some o:=fun b o e=>(I.bs b o e).1
theorem Inv.mod (I:Inv X pins σ H s):Mod X.K X.mg X.base:=I.ok.mod
theorem Inv.kIn (I:Inv X pins σ H s):X.K.In s.heap:=I.ok.mod.kin.keeps I.bk
theorem Inv.lt (I:Inv X pins σ H s):X.env.locals < s.heap.objs.size:=let ⟨_,hn,_⟩:=I.loc;hn.lt
theorem Inv.sz (I:Inv X pins σ H s):X.s₀.heap.objs.size<=s.heap.objs.size:=Nat.le_trans I.ok.above (Nat.le_of_lt I.lt)
theorem Inv.nofs (I:Inv X pins σ H s) {a:Addr} (h:s.heap.objs.size<=a):a∉X.fs:=fun hb=>by
 obtain ⟨_,o,ho,_⟩:=I.ok.funs.mem hb
 exact absurd (Nat.lt_of_lt_of_le (Heap.lt_size ho) (Nat.le_trans I.sz h)) (Nat.lt_irrefl _)
theorem Inv.cne (I:Inv X pins σ H s):∀ x c,X.env.cells.lookup x=some c->c≠X.env.locals:=fun x c e z=>by
 obtain ⟨v,o,ho,hd⟩:=I.cell x c e
 obtain ⟨m,⟨o',es,ep,ho',hd',_⟩,_⟩:=I.loc
 rw [z,ho'] at ho;cases ho;rw [hd'] at hd;cases hd
theorem Inv.funs (I:Inv X pins σ H s):s.heap.FunFrames X.base X.outer:=by
 have all:∀ (l:List Env),(∀ b∈frs l,b∈X.fs)->X.s₀.heap.FunFrames X.base l->s.heap.FunFrames X.base l:=by
  intro l
  induction l with
  | nil=>intro _ _;trivial
  | cons env r ih =>
   intro hs hl
   obtain ⟨hk,⟨L,o,hf,hn,ho,hd⟩,hr⟩:=hl
   have hL:L∈X.fs:=hs L (by unfold frs;rw [List.filterMap_cons,hf];exact mem_cons_self)
   obtain ⟨sl,e⟩:=I.base.slot L o ho (I.ok.frf L hL) hL fun z=>I.ok.exfs L z hL
   exact ⟨hk,⟨L,_,hf,hn,e,hd⟩,ih (fun b hb=>hs b (by unfold frs;rw [List.filterMap_cons,hf];exact mem_cons_of_mem _ hb)) hr⟩
 exact all X.outer (fun _ hb=>hb) I.ok.funs
theorem Inv.stack (I:Inv X pins σ H s):s.heap.FunFrames X.base X.stack:=by
 rcases I.ok.stk with e|⟨e,hf⟩
 ·rw [e];exact I.funs
 ·rw [e]
  obtain ⟨m,hn,_⟩:=I.loc
  refine .cons (by rw [I.ok.kind];decide) hf hn ?_ I.funs
  exact Heap.get?_none_of_le (Nat.le_trans I.ok.bsz I.ok.above)
theorem Inv.stkSub (I:Inv X pins σ H s):∀ b∈frs X.stack,b∈X.env.locals::X.fs:=fun b hb=>by
 rcases I.ok.stk with e|⟨e,hf⟩
 ·rw [e] at hb;exact mem_cons_of_mem _ hb
 ·rw [e] at hb
  unfold frs at hb
  rw [List.filterMap_cons,hf] at hb
  exact hb
theorem Inv.stkFree (I:Inv X pins σ H s):∀ b∈frs X.stack,H b=none:=fun b hb=>by
 rcases mem_cons.mp (I.stkSub b hb) with e|hb
 ·rw [e];exact I.free
 ·obtain ⟨_,o,ho,_⟩:=I.ok.funs.mem hb
  exact I.base.free b o ho (I.ok.frf b hb) fun z=>I.ok.exfs b z hb
theorem Inv.step {g':Array GenState} {t':Nat} {d':Drawn} {ch:List Addr} (I:Inv X pins σ H s)
  (hch:∀ b∈ch,(b∈X.ex\/X.s₀.heap.objs.size<=b)/\b≠X.env.locals/\(∀ x c,X.env.cells.lookup x=some c->c≠b)/\∀ p∈X.pn++pins,p.1≠b)
  (keep:∀ b o,b≠X.env.locals->b∉X.fs->b∉ch->s.heap.get? b=some o->H b=none->h'.get? b=some o)
  (slot:∀ b o,b≠X.env.locals->b∈X.fs->b∉ch->s.heap.get? b=some o->H b=none->∃ sl,h'.get? b=some { o with slots:=sl }) (free:∀ b o,b∉ch->s.heap.get? b=some o->H b=none->H' b=none)
  (there:∀ b o,b∉ch->s.heap.get? b=some o->∃ o',h'.get? b=some o')
  (tups:∀ b xs,H b=some (.tup xs)->H' b=some (.tup xs)) (frzs:∀ b o u,H b=some (.frz o u)->H' b=some (.frz o u)) (tbls:∀ b ps,H b=some (.tbl ps)->∃ more,H' b=some (.tbl (ps++more)))
  (ns:∀ m,s.heap.Ns X.env.locals m->h'.Ns X.env.locals m) (hok:HOk X.prog X.w H' h') (hg:AllBare g') :
  Inv X pins σ H' { s with heap:=h',gens:=g',drawn:=d',toks:=t' }:=by
 have neL:∀ b o,X.s₀.heap.get? b=some o->b≠X.env.locals:=fun b o e=>Nat.ne_of_lt (Nat.lt_of_lt_of_le (Heap.lt_size e) I.ok.above)
 have neC:∀ b o,X.s₀.heap.get? b=some o->b∉X.ex->b∉ch:=fun b o e hx hb=>by
  rcases (hch b hb).1 with z|z
  ·exact hx z
  ·exact absurd (Nat.lt_of_lt_of_le (Heap.lt_size e) z) (Nat.lt_irrefl _)
 have cellK:∀ x c,X.env.cells.lookup x=some c->∀ v,s.heap.IsCell c v->h'.IsCell c v:=fun x c e v ⟨o,ho,hd⟩=>by
  have nch:c∉ch:=fun z=>(hch c z).2.2.1 x c e rfl
  by_cases hc:c∈X.fs
  ·obtain ⟨sl,q⟩:=slot c o (I.cne x c e) hc nch ho (I.freeC x c e)
   exact ⟨_,q,hd⟩
  ·exact ⟨o,keep c o (I.cne x c e) hc nch ho (I.freeC x c e),hd⟩
 refine ⟨I.ok,I.os,hg,⟨fun b o e n hb hx=>?_,fun b o e n hb hx=>?_,fun b o e n hx=>?_,fun b o e hx=>?_,fun b xs e=>tups b xs (I.base.tups b xs e),fun b o xs e=>frzs b o xs (I.base.frzs b o xs e),fun b ps e=>?_⟩,?_,fun x c e=>?_,?_,fun x c e=>?_,fun p hp=>?_,hok,I.len⟩
 ·exact keep b o (neL b o e) hb (neC b o e hx) (I.base.keep b o e n hb hx) (I.base.free b o e n hx)
 ·obtain ⟨sl,e1⟩:=I.base.slot b o e n hb hx
  obtain ⟨sl',e2⟩:=slot b _ (neL b o e) hb (neC b o e hx) e1 (I.base.free b o e n hx)
  exact ⟨sl',e2⟩
 ·obtain ⟨o',e1⟩:=I.base.there b o e hx
  exact free b o' (neC b o e hx) e1 (I.base.free b o e n hx)
 ·obtain ⟨o',e1⟩:=I.base.there b o e hx
  exact there b o' (neC b o e hx) e1
 ·obtain ⟨m1,e1⟩:=I.base.tbls b ps e
  obtain ⟨m2,e2⟩:=tbls b _ e1
  exact ⟨m1++m2,by rw [e2,Array.append_assoc]⟩
 ·obtain ⟨m,hn,hl⟩:=I.loc
  refine ⟨m,ns m hn,fun i x v e1 e2 e3=>?_⟩
  obtain ⟨u,r,l⟩:=hl i x v e1 e2 e3
  refine ⟨u,r,?_⟩
  rcases l with l|⟨k,c,e,z⟩
  ·exact .inl l
  ·exact .inr ⟨k,c,e,cellK x c e _ z⟩
 ·obtain ⟨v,z⟩:=I.cell x c e
  exact ⟨v,cellK x c e v z⟩
 ·obtain ⟨m,⟨o,_,_,ho,_⟩,_⟩:=I.loc
  exact free _ o (fun z=>(hch _ z).2.1 rfl) ho I.free
 ·obtain ⟨v,o,ho,hd⟩:=I.cell x c e
  exact free c o (fun z=>(hch c z).2.2.1 x c e rfl) ho (I.freeC x c e)
 ·obtain ⟨e,n,ne,nf,d⟩:=I.pin p hp
  have nch:p.1∉ch:=fun z=>(hch p.1 z).2.2.2 p hp rfl
  exact ⟨keep p.1 p.2 ne nf nch e n,free p.1 p.2 nch e n,ne,nf,d⟩
theorem Inv.un {t':Nat} (I:Inv X pins σ H s) (u:Un X.fs [] H H' s.heap h') (hok:HOk X.prog X.w H' h'):Inv X pins σ H' { s with heap:=h',toks:=t' }:=by
 obtain ⟨m,⟨o,es,ep,ho,r⟩,_⟩:=id I.loc
 obtain ⟨sl,hL⟩:=u.any ho I.free (by simp)
 exact I.step (g':=s.gens) (d':=s.drawn) (ch:=[]) (fun _ z=>nomatch z) (fun b o _ hb _ e n=>u.keep b o e n hb (by simp)) (fun b o _ hb _ e n=>u.slot b o e n hb (by simp)) (fun b o _ e n=>u.free b o e n (by simp)) (fun b o _ e=>u.there b o e (by simp)) u.tups u.frzs u.tbls (fun m' hm=>by
  obtain ⟨o',es',ep',ho',r'⟩:=hm
  rw [ho] at ho';cases ho'
  exact ⟨_,es',ep',hL,r'⟩) hok I.bare
theorem Inv.call {g':Array GenState} {t':Nat} {d':Drawn} {ch:List Addr} (I:Inv X pins σ H s) (u:Un (frs X.stack) ch H H' s.heap h') (hok:HOk X.prog X.w H' h') (hg:AllBare g')
  (hch:∀ b∈ch,(b∈X.ex\/X.s₀.heap.objs.size<=b)/\b≠X.env.locals/\(∀ x c,X.env.cells.lookup x=some c->c≠b)/\∀ p∈X.pn++pins,p.1≠b) :
  Inv X pins σ H' { s with heap:=h',gens:=g',drawn:=d',toks:=t' }:=by
 obtain ⟨m,⟨o,es,ep,ho,r⟩,_⟩:=id I.loc
 obtain ⟨sl,hL⟩:=u.any ho I.free fun z=>(hch _ z).2.1 rfl
 exact I.step (ch:=ch) hch (fun b o hL hb hc e n=>u.keep b o e n (fun z=>(mem_cons.mp (I.stkSub b z)).elim hL hb) hc) (fun b o _ _ hc e n=>u.any e n hc) (fun b o hc e n=>u.free b o e n hc) (fun b o hc e=>u.there b o e hc) u.tups u.frzs u.tbls (fun m' hm=>by
  obtain ⟨o',es',ep',ho',r'⟩:=hm
  rw [ho] at ho';cases ho'
  exact ⟨_,es',ep',hL,r'⟩) hok hg
theorem Inv.turned {t':Nat} {it:Addr} (I:Inv X pins σ H s) (k:∀ b o,b≠it->s.heap.get? b=some o->h'.get? b=some o) (hn:H it=none) (hL:it≠X.env.locals)
  (h1:it∈X.ex\/X.s₀.heap.objs.size<=it) (h2:∀ x c,X.env.cells.lookup x=some c->c≠it) (h3:∀ p∈X.pn++pins,p.1≠it):Inv X pins σ H { s with heap:=h',toks:=t' }:=by
 have nit:∀ b u,H b=some u->b≠it:=fun b u e z=>by rw [z,hn] at e;cases e
 refine I.step (g':=s.gens) (d':=s.drawn) (ch:=[it]) (fun b hb=>?_) (fun b o _ _ hc e _=>k b o (fun z=>hc (by simp [z])) e) (fun b o _ _ hc e _=>⟨o.slots,k b o (fun z=>hc (by simp [z])) e⟩) (fun _ _ _ _ n=>n)
  (fun b o hc e=>⟨o,k b o (fun z=>hc (by simp [z])) e⟩) (fun _ _ e=>e) (fun _ _ _ e=>e) (fun b ps e=>⟨#[],by rw [e];simp⟩) (fun m hm=>?_) (fun b u e=>?_) I.bare
 ·have e:b=it:=by simpa using hb
  subst e
  exact ⟨h1,hL,h2,h3⟩
 ·obtain ⟨o,es,ep,ho,r⟩:=hm
  exact ⟨o,es,ep,k _ o (Ne.symm hL) ho,r⟩
 ·refine (I.hok b u e).stay (fun c v hc q=>k c v ?_ q) (fun _ q=>q) fun _ _ q=>q
  rcases hc with z|z
  ·rw [z];exact nit b u e
  ·exact nit c _ z
theorem Inv.tok (I:Inv X pins σ H s) (t:Nat):Inv X pins σ H { s with toks:=t }:=I.un (h':=s.heap) (t':=t) Un.refl I.hok
theorem Inv.kept {t':Nat} (I:Inv X pins σ H s) (k:∀ b u,s.heap.get? b=some u->h'.get? b=some u):Inv X pins σ H { s with heap:=h',toks:=t' }:=I.un (Un.kept k) (I.hok.kept k)
theorem Inv.laid {a:Addr} {o:HO} {t':Nat} (I:Inv X pins σ H s) (k:∀ b u,s.heap.get? b=some u->h'.get? b=some u) (hp:s.heap.objs.size<=a) (new:ObjOk X.prog X.w (upd H a o) h' a o) :
  Inv X pins σ (upd H a o) { s with heap:=h',toks:=t' }:=I.un (Un.laid k hp (I.hok.fresh hp)) (I.hok.laid k hp new)
theorem Inv.write {x e:Addr} {o:HO} {t':Nat} (I:Inv X pins σ H s) (mu:Mut (H x)) (he:e=x\/H e=some (.own x)) (k:∀ b u,b≠e->s.heap.get? b=some u->h'.get? b=some u) (heo:∃ u,h'.get? e=some u)
  (new:ObjOk X.prog X.w (upd H x o) h' x o):Inv X pins σ (upd H x o) { s with heap:=h',toks:=t' }:=I.un (Un.write mu he k heo) (I.hok.write mu he k heo new)
theorem Inv.pins_of {pins':List (Addr × Obj)} (I:Inv X pins σ H s) (h:∀ p∈pins',s.heap.get? p.1=some p.2/\H p.1=none/\p.1≠X.env.locals/\p.1∉X.fs/\∀ v,p.2.data≠.cell v):Inv X pins' σ H s :=
 ⟨I.ok,I.os,I.bare,I.base,I.loc,I.cell,I.free,I.freeC,fun p hp=>(mem_append.mp hp).elim (fun z=>I.pin p (mem_append_left _ z)) (h p),I.hok,I.len⟩
theorem nodup_ix {N:List Str} (hN:N.Nodup) {i j:Nat} {x:Str} (a:N[i]?=some x) (b:N[j]?=some x):i=j:=by
 obtain ⟨h1,e1⟩:=List.getElem?_eq_some_iff.mp a
 obtain ⟨h2,e2⟩:=List.getElem?_eq_some_iff.mp b
 exact (List.getElem_inj hN).mp (e1.trans e2.symm)
theorem store_ok2 {M:Model} {A:Around} {E:Value->Shared->Prop} {i:Nat} {x:Str} {v:V} {u:Value} {Q:Unit->Shared->Prop} (I:Inv X pins σ H s) (hN:X.N.Nodup) (hi:X.N[i]?=some x) (hx:Loc X.env.scope x) (r:RelV v u)
  (h:∀ s',Inv X pins (σ.set i (some v)) H s'->(∃ a,Heap.SameBut a s.heap s'.heap/\(a=X.env.locals\/X.env.cells.lookup x=some a))->Q () s') (hf:X.fn x=true\/X.env.scope.names.lookup x=some .local:=by first|exact .inl rfl|exact .inr rfl|assumption):wpAny M A (storeName X.env x u) Q E s:=by
 obtain ⟨m,hn,hl⟩:=id I.loc
 have hcls:(X.env.scope.kind==.class||(X.env.scope.kind==.module&&X.env.locals != X.env.globals))=false:=by rw [I.ok.kind];rfl
 have hiσ:i < σ.length:=by rw [I.len];exact (List.getElem?_eq_some_iff.mp hi).1
 have cne:=I.cne
 have tracked:∀ {a:Addr} {h':Heap},(∃ o,s.heap.get? a=some o/\H a=none)->Heap.SameBut a s.heap h'->HOk X.prog X.w H h':=fun {a h'} ha hs b ob e=>by
  obtain ⟨_,_,hfree⟩:=ha
  refine (I.hok b ob e).stay (fun c w' hc q=>(hs.2 c ?_).trans q) (fun _ q=>q) fun _ _ q=>q
  rintro rfl
  rcases hc with rfl|hc
  ·rw [hfree] at e;cases e
  ·rw [hfree] at hc;cases hc
 rcases hx with hk|hk
 ·refine wpAny_storeName_local hk hn (fun h' hn' hs=>?_) hcls
  obtain ⟨oL,_,_,hoL,_⟩:=id hn
  refine h _ ⟨I.ok,I.os,I.bare,⟨fun b o e n hb hx=>?_,fun b o e n hb hx=>?_,I.base.free,fun b o e hx=>?_,I.base.tups,I.base.frzs,I.base.tbls⟩,⟨_,hn',fun j y v' e1 e2 e3=>?_⟩,fun y c e=>?_,I.free,I.freeC,fun p hp=>?_,tracked ⟨oL,hoL,I.free⟩ hs,by simpa using I.len⟩ ⟨_,hs,.inl rfl⟩
  ·exact (hs.2 b (Nat.ne_of_lt (Nat.lt_of_lt_of_le (Heap.lt_size e) I.ok.above))).trans (I.base.keep b o e n hb hx)
  ·obtain ⟨sl,e1⟩:=I.base.slot b o e n hb hx
   exact ⟨sl,(hs.2 b (Nat.ne_of_lt (Nat.lt_of_lt_of_le (Heap.lt_size e) I.ok.above))).trans e1⟩
  ·obtain ⟨o',e1⟩:=I.base.there b o e hx
   exact ⟨o',(hs.2 b (Nat.ne_of_lt (Nat.lt_of_lt_of_le (Heap.lt_size e) I.ok.above))).trans e1⟩
  ·by_cases hj:j=i
   ·subst hj
    rw [hi] at e1;cases e1
    rw [List.getElem?_set_self hiσ] at e2
    cases e2
    exact ⟨u,r,.inl ⟨hk,by simp⟩⟩
   ·rw [List.getElem?_set_ne (Ne.symm hj)] at e2
    obtain ⟨u',r',q⟩:=hl j y v' e1 e2 e3
    refine ⟨u',r',?_⟩
    rcases q with ⟨k,e⟩|⟨k,c,e,z⟩
    ·refine .inl ⟨k,?_⟩
     have:y≠x:=fun e=>hj (nodup_ix hN e1 (e ▸ hi))
     simp [this,e]
    ·exact .inr ⟨k,c,e,z.sameBut hs (cne y c e)⟩
  ·obtain ⟨w',z⟩:=I.cell y c e
   exact ⟨w',z.sameBut hs (cne y c e)⟩
  ·obtain ⟨e,n,ne,nf,d⟩:=I.pin p hp
   exact ⟨(hs.2 p.1 ne).trans e,n,ne,nf,d⟩
 ·have hfn:X.fn x=true:=by
   rcases hf with z|z
   ·exact z
   ·rw [z] at hk;cases hk
  obtain ⟨c,hc⟩:=I.ok.has x (.inl hk)
  obtain ⟨w',z⟩:=I.cell x c hc
  refine wpAny_storeName_cell I.ok.kind hk hc z (fun h' hc' hs=>?_)
  obtain ⟨oc,hoc,hocd⟩:=id z
  refine h { s with heap:=h' } ⟨I.ok,I.os,I.bare,⟨fun b o e n hb hx=>?_,fun b o e n hb hx=>?_,I.base.free,fun b o e hx=>?_,I.base.tups,I.base.frzs,I.base.tbls⟩,⟨m,hn.sameBut hs (Ne.symm (cne x c hc)),fun j y v' e1 e2 e3=>?_⟩,fun y c' e=>?_,I.free,I.freeC,fun p hp=>?_,tracked ⟨oc,hoc,I.freeC x c hc⟩ hs,by simpa using I.len⟩ ⟨c,hs,.inr hc⟩
  ·exact (hs.2 b (Nat.ne_of_lt (Nat.lt_of_lt_of_le (Heap.lt_size e) (I.ok.cab x c hfn hc)))).trans (I.base.keep b o e n hb hx)
  ·obtain ⟨sl,e1⟩:=I.base.slot b o e n hb hx
   exact ⟨sl,(hs.2 b (Nat.ne_of_lt (Nat.lt_of_lt_of_le (Heap.lt_size e) (I.ok.cab x c hfn hc)))).trans e1⟩
  ·obtain ⟨o',e1⟩:=I.base.there b o e hx
   exact ⟨o',(hs.2 b (Nat.ne_of_lt (Nat.lt_of_lt_of_le (Heap.lt_size e) (I.ok.cab x c hfn hc)))).trans e1⟩
  ·by_cases hj:j=i
   ·subst hj
    rw [hi] at e1;cases e1
    rw [List.getElem?_set_self hiσ] at e2
    cases e2
    exact ⟨u,r,.inr ⟨.inl hk,c,hc,hc'⟩⟩
   ·rw [List.getElem?_set_ne (Ne.symm hj)] at e2
    obtain ⟨u',r',q⟩:=hl j y v' e1 e2 e3
    refine ⟨u',r',?_⟩
    rcases q with q|⟨k,c',e,z'⟩
    ·exact .inl q
    ·refine .inr ⟨k,c',e,z'.sameBut hs ?_⟩
     rintro rfl
     exact hj (nodup_ix hN e1 (I.ok.inj _ _ _ e hc ▸ hi))
  ·by_cases hcc:c'=c
   ·subst hcc;exact ⟨_,hc'⟩
   ·obtain ⟨w2,z2⟩:=I.cell y c' e
    exact ⟨w2,z2.sameBut hs hcc⟩
  ·obtain ⟨e,n,ne,nf,d⟩:=I.pin p hp
   refine ⟨(hs.2 p.1 ?_).trans e,n,ne,nf,d⟩
   intro q
   rw [q,hoc] at e
   have q':oc=p.2:=Option.some.inj e
   exact d w' (by rw [<-q'];exact hocd)
theorem store_ok {M:Model} {A:Around} {E:Value->Shared->Prop} {i:Nat} {x:Str} {v:V} {u:Value} {Q:Unit->Shared->Prop} (I:Inv X pins σ H s) (hN:X.N.Nodup) (hi:X.N[i]?=some x) (hx:Loc X.env.scope x) (r:RelV v u)
  (h:∀ s',Inv X pins (σ.set i (some v)) H s'->Q () s') (hf:X.fn x=true\/X.env.scope.names.lookup x=some .local:=by first|exact .inl rfl|exact .inr rfl|assumption):wpAny M A (storeName X.env x u) Q E s :=
 store_ok2 I hN hi hx r (fun s' I' _=>h s' I') hf
theorem Inv.call' {s':Shared} {ch:List Addr} (I:Inv X pins σ H s) (ho:s'.os=s.os) (u:Un (frs X.stack) ch H H' s.heap s'.heap) (hok:HOk X.prog X.w H' s'.heap) (hg:AllBare s'.gens)
  (hch:∀ b∈ch,(b∈X.ex\/X.s₀.heap.objs.size<=b)/\b≠X.env.locals/\(∀ x c,X.env.cells.lookup x=some c->c≠b)/\∀ p∈X.pn++pins,p.1≠b):Inv X pins σ H' s':=by
 obtain ⟨h',g',d',t',o'⟩:=s'
 have e:o'=s.os:=ho
 subst e
 exact I.call (g':=g') (t':=t') (d':=d') u hok hg hch
end
abbrev XK:=Value->Option Addr->Hp->Prop
abbrev St:=List (Option V)
abbrev VK:=V->Hp->Prop
abbrev TE:=St->Hp->VK->Prop
abbrev TT:=St->Hp->(Bool->Hp->Prop)->Prop
abbrev TA:=St->Hp->(List V->Hp->Prop)->Prop
structure Ends where
 nx:St->Hp->Prop
 rt:VK
 bk:St->Hp->Prop:=fun _ _=>False
 ct:St->Hp->Prop:=fun _ _=>False
abbrev TS:=Ends->St->Hp->Prop
def EP (X:Cx) (pins:List (Addr × Obj)) (σ:St) (Q:VK) (u:Value) (s':Shared):Prop:=∃ v H',Inv X pins σ H' s'/\RelV v u/\Q v H'
def TP (X:Cx) (pins:List (Addr × Obj)) (σ:St) (Q:Bool->Hp->Prop) (b:Bool) (s':Shared):Prop:=∃ H',Inv X pins σ H' s'/\Q b H'
def AP (X:Cx) (pins:List (Addr × Obj)) (σ:St) (Q:List V->Hp->Prop) (us:List Value) (s':Shared):Prop:=∃ vs H',Inv X pins σ H' s'/\Vals vs us/\Q vs H'
def SP (X:Cx) (pins:List (Addr × Obj)) (D:Ends) (f:Flow) (s':Shared):Prop :=
 match f with
 | .next=>∃ σ' H',Inv X pins σ' H' s'/\D.nx σ' H'
 | .brk=>∃ σ' H',Inv X pins σ' H' s'/\D.bk σ' H'
 | .cont=>∃ σ' H',Inv X pins σ' H' s'/\D.ct σ' H'
 | .ret u=>∃ v σ' H',Inv X pins σ' H' s'/\RelV v u/\D.rt v H'
def PE (X:Cx) (e:Expr) (t:TE):Prop :=
 ∀ (pins:List (Addr × Obj)) (s:Shared) (σ:St) (H:Hp) (Q:VK),Inv X pins σ H s->t σ H Q->wpAny (model X.prog X.w) X.A (eval e X.env) (EP X pins σ Q) X.xe s
def PT (X:Cx) (e:Expr) (t:TT):Prop :=
 ∀ (pins:List (Addr × Obj)) (s:Shared) (σ:St) (H:Hp) (Q:Bool->Hp->Prop),Inv X pins σ H s->t σ H Q->wpAny (model X.prog X.w) X.A (isTrue e X.env (eval e X.env)) (TP X pins σ Q) X.xe s
def PW (X:Cx) (e:Expr) (t:TT):Prop :=
 ∀ (whole:Sem Value) (pins:List (Addr × Obj)) (s:Shared) (σ:St) (H:Hp) (Q:Bool->Hp->Prop),Inv X pins σ H s->t σ H Q->wpAny (model X.prog X.w) X.A (isTrue e X.env whole) (TP X pins σ Q) X.xe s
theorem PW.pt {X:Cx} {e:Expr} {t:TT} (h:PW X e t):PT X e t:=h _
def PA (X:Cx) (es:List Expr) (t:TA):Prop :=
 ∀ (pos:Pos) (pins:List (Addr × Obj)) (s:Shared) (σ:St) (H:Hp) (Q:List V->Hp->Prop),Inv X pins σ H s->t σ H Q->wpAny (model X.prog X.w) X.A (spliced (backTo pos (starEach es X.env))) (AP X pins σ Q) X.xe s
def PS (X:Cx) (st:Stmt) (t:TS):Prop :=
 ∀ (pins:List (Addr × Obj)) (s:Shared) (σ:St) (H:Hp) (D:Ends),Inv X pins σ H s->t D σ H->wpAny (model X.prog X.w) X.A (exec st X.env) (SP X pins D) X.xe s
def PSs (X:Cx) (st:List Stmt) (t:TS):Prop :=
 ∀ (pins:List (Addr × Obj)) (s:Shared) (σ:St) (H:Hp) (D:Ends),Inv X pins σ H s->t D σ H->wpAny (model X.prog X.w) X.A (execs st X.env) (SP X pins D) X.xe s
theorem thn {α:Type} {t:Sem α} {Q Q':α->Shared->Prop} {M:Model} {A:Around} {E:Value->Shared->Prop} {s:Shared} (h:wpAny M A t Q E s) (hQ:∀ a s,Q a s->Q' a s):wpAny M A t Q' E s:=wpAny_mono h hQ fun _ _ x=>x
section
variable {X:Cx}
theorem bin {a b:Expr} {ta tb:TE} (ha:PE X a ta) (hb:PE X b tb) {pins:List (Addr × Obj)} {s:Shared} {σ:St} {H:Hp} {R:V->V->Hp->Prop} (I:Inv X pins σ H s) (h:ta σ H fun x H1=>tb σ H1 fun y H2=>R x y H2)
  {α:Type} {Q:α->Shared->Prop} {f:Value->Value->Sem α}
  (hf:∀ v u s2 x y H2,Inv X pins σ H2 s2->RelV x v->RelV y u->R x y H2->wpAny (model X.prog X.w) X.A (f v u) Q X.xe s2) :
  wpAny (model X.prog X.w) X.A (eval a X.env) (fun v s₁=>wpAny (model X.prog X.w) X.A (eval b X.env) (fun u s₂=>wpAny (model X.prog X.w) X.A (f v u) Q X.xe s₂) X.xe s₁) X.xe s:=by
 refine thn (ha pins s σ H _ I h) fun v s1 ⟨x,H1,I1,r1,q1⟩=>?_
 refine thn (hb pins s1 σ H1 _ I1 q1) fun u s2 ⟨y,H2,I2,r2,q2⟩=>?_
 exact hf v u s2 x y H2 I2 r1 r2 q2
def tVar (i:Nat):TE:=fun σ H Q=>∃ v,σ[i]?=some (some v)/\Q v H
def tC (v:V):TE:=fun _ H Q=>Q v H
theorem pe_var {i:Nat} {x:Str} {pos:Pos} (hN:X.N[i]?=some x) (hv:Vis X.env.scope x) (hd:(x==("__debug__":Str))=false:=by decide) (hcd:(x==("__classdict__":Str))=false:=by decide):PE X (.Name x pos) (tVar i):=by
 intro pins s σ H Q I h
 obtain ⟨v,e,h⟩:=h
 obtain ⟨m,hn,hl⟩:=I.loc
 obtain ⟨u,r,l⟩:=hl i x v hN e hv
 have fin:EP X pins σ Q u s:=⟨v,H,I,r,h⟩
 rcases l with ⟨hk,hm⟩|⟨hk,c,hc,hcell⟩
 ·exact wpAny_Name (wpAny_loadName_local I.ok.kind hk hn hm fin) hd
 ·rcases hk with hk|hk
  ·exact wpAny_Name (wpAny_loadName_cell I.ok.kind hk hc hcell fin) hd
  ·exact wpAny_Name (wpAny_loadName_free I.ok.kind hk hc hcell fin hcd) hd
theorem pe_int {i j pos}:PE X (.Constant (.int i) j pos) (tC (.int i)):=fun _ _ _ H _ I h=>wpAny_Constant_int ⟨.int i,H,I.tok _,⟨_,rfl⟩,h⟩
theorem pe_bl {b j pos}:PE X (.Constant (.bool b) j pos) (tC (.bl b)):=fun _ _ _ H _ I h=>Constant_bool ⟨.bl b,H,I,rfl,h⟩
theorem pe_non {j pos}:PE X (.Constant .none j pos) (tC .non):=fun _ _ _ H _ I h=>Constant_none ⟨.non,H,I,rfl,h⟩
theorem pe_str {x j pos}:PE X (.Constant (.str x) j pos) (tC (.str x)):=fun _ _ _ H _ I h=>Calls.Constant_str ⟨.str x,H,I.tok _,⟨_,rfl⟩,h⟩
def Gl (X:Cx) (x:Str):Prop:=X.env.kindOf x=some .globalImplicit
theorem ld_glob {E:Value->Shared->Prop} {pins:List (Addr × Obj)} {s:Shared} {σ:St} {H:Hp} {x:Str} {u:Value} {pos:Pos} {Q:Value->Shared->Prop} (I:Inv X pins σ H s) (hg:Gl X x) (hm:X.mg x=some u) (h:Q u s)
  (hd:(x==("__debug__":Str))=false:=by decide):wpAny (model X.prog X.w) X.A (eval (.Name x pos) X.env) Q E s :=
 Calls.Name_function_global I.ok.kind hg (Calls.loadGlobal_global (by rw [I.ok.glob];exact I.mod.glob.keeps I.bk) hm h) hd
theorem ld_blt {E:Value->Shared->Prop} {pins:List (Addr × Obj)} {s:Shared} {σ:St} {H:Hp} {x:Str} {u:Value} {pos:Pos} {Q:Value->Shared->Prop} (I:Inv X pins σ H s) (hg:Gl X x) (hm:X.mg x=none) (hv:bootBuiltins x=some u) (h:Q u s)
  (hn:x≠"__name__":=by decide) (hd:(x==("__debug__":Str))=false:=by decide):wpAny (model X.prog X.w) X.A (eval (.Name x pos) X.env) Q E s:=by
 obtain ⟨mb,h1,h2⟩:=I.mod.blt
 exact Calls.Name_function_global I.ok.kind hg (Calls.loadGlobal_builtin (by rw [I.ok.glob];exact I.mod.glob.keeps I.bk) hm (by rw [I.ok.blt];exact h1.keeps I.bk) ((h2 x hn).trans hv) h) hd
theorem pe_glob {x:Str} {v:V} {u:Value} {pos:Pos} (hg:Gl X x) (hm:X.mg x=some u) (r:RelV v u) (hd:(x==("__debug__":Str))=false:=by decide):PE X (.Name x pos) (tC v) :=
 fun _ _ _ H _ I h=>ld_glob I hg hm ⟨v,H,I,r,h⟩ hd
theorem pe_bltn {x:Str} {v:V} {u:Value} {pos:Pos} (hg:Gl X x) (hm:X.mg x=none) (hv:bootBuiltins x=some u) (r:RelV v u) (hn:x≠"__name__":=by decide) (hd:(x==("__debug__":Str))=false:=by decide):PE X (.Name x pos) (tC v) :=
 fun _ _ _ H _ I h=>ld_blt I hg hm hv ⟨v,H,I,r,h⟩ hn hd
variable {a b:Expr} {ta tb:TE} {pos:Pos}
def PC (X:Cx) (op:CmpOp) (a b:Expr) (t:TE):Prop :=
 ∀ (pins:List (Addr × Obj)) (s:Shared) (σ:St) (H:Hp) (Q:VK),Inv X pins σ H s->t σ H Q ->
  wpAny (model X.prog X.w) X.A (eval a X.env) (fun v s₁=>wpAny (model X.prog X.w) X.A (eval b X.env) (fun u s₂=>wpAny (model X.prog X.w) X.A (compareOp op v u) (EP X pins σ Q) X.xe s₂) X.xe s₁) X.xe s
def tB (t:TE):TT:=fun σ H Q=>t σ H fun x H1=>∃ c,x=.bl c/\Q c H1
theorem pe_cmp {op:CmpOp} {t:TE} (h:PC X op a b t) (h1:behindInMarks op b=false:=by first|exact nobehind _ (by decide) (by decide)|rfl):PE X (.Compare a [op] [b] pos) t:=fun pins s σ H Q I hw=>wpAny_Compare1 (h pins s σ H Q I hw) h1
theorem pt_cmp {op:CmpOp} {t:TE} (h:PC X op a b t) (h1:behindInMarks op b=false:=by first|exact nobehind _ (by decide) (by decide)|rfl):PT X (.Compare a [op] [b] pos) (tB t):=by
 intro pins s σ H Q I hw
 refine wpAny_isTrue_Compare1 (thn (h pins s σ H _ I hw) fun v s1 h1=>thn h1 fun u s2 h2=>thn h2 fun c s3 ⟨x,H1,I1,r1,q1⟩=>?_) h1
 obtain ⟨d,rfl,q⟩:=q1
 cases r1
 exact wpAny_truthy_bool ⟨H1,I1,q⟩
theorem pt_val {e:Expr} {t:TE} (h:PE X e t) (he:∀ whole,isTrue e X.env whole=(do let v <- whole;standAt e.pos;holding [v] (truthy v)):=by intro _;rfl):PT X e (tB t):=by
 intro pins s σ H Q I hw
 refine isTrue_plain (thn (h pins s σ H _ I hw) fun v s1 ⟨x,H1,I1,r1,q1⟩=>?_) (he _)
 obtain ⟨d,rfl,q⟩:=q1
 cases r1
 exact wpAny_truthy_bool ⟨H1,I1,q⟩
variable {tA tB':TT} {rest:List Expr}
def tOr (t u:TT):TT:=fun σ H Q=>t σ H fun c H1=>if c=true then Q true H1 else u σ H1 Q
def tNot (t:TT):TT:=fun σ H Q=>t σ H fun c H1=>Q (!c) H1
theorem pw_or1 (ha:PT X a tA):PW X (.BoolOp .Or [a] pos) tA:=by
 intro wh pins s σ H Q I h
 refine isTrue_or (thn (ha pins s σ H Q I h) fun c s1 e=>?_)
 cases c with
 | false=>exact isTrue_or_nil e
 | true=>exact e
theorem pw_or (ha:PT X a tA) (hb:PW X (.BoolOp .Or (b::rest) pos) tB'):PW X (.BoolOp .Or (a::b::rest) pos) (tOr tA tB'):=by
 intro wh pins s σ H Q I h
 refine isTrue_or (thn (ha pins s σ H _ I h) fun c s1 ⟨H1,I1,q1⟩=>?_)
 cases c with
 | true=>exact ⟨H1,I1,q1⟩
 | false=>exact hb wh pins s1 σ H1 Q I1 q1
theorem pt_not (ha:PT X a tA):PT X (.UnaryOp .Not a pos) (tNot tA):=by
 intro pins s σ H Q I h
 exact isTrue_not (ha pins s σ H (fun c H1=>Q (!c) H1) I h)
def tAndV (ta tb:TE):TE:=fun σ H Q=>ta σ H fun x H1=>∃ c,x=.bl c/\if c=true then tb σ H1 Q else Q (.bl false) H1
def tNotV (ta:TE):TE:=fun σ H Q=>ta σ H fun x H1=>∃ c,x=.bl c/\Q (.bl (!c)) H1
theorem pe_one {op} {t:TE} (h:PE X a t):PE X (.BoolOp op [a] pos) t:=fun pins s σ H Q I hw=>BoolOp_one (h pins s σ H Q I hw)
theorem pe_and (ha:PE X a ta) (hb:PE X (.BoolOp .And (b::rest) pos) tb):PE X (.BoolOp .And (a::b::rest) pos) (tAndV ta tb):=by
 intro pins s σ H Q I h
 refine BoolOp_and (thn (ha pins s σ H _ I h) fun v s1 ⟨x,H1,I1,r1,q1⟩=>?_)
 obtain ⟨c,rfl,q1⟩:=q1
 cases r1
 refine wpAny_truthy_bool ?_
 cases c with
 | true=>exact hb pins s1 σ H1 Q I1 q1
 | false=>exact ⟨.bl false,H1,I1,rfl,q1⟩
theorem pe_not (ha:PE X a ta):PE X (.UnaryOp .Not a pos) (tNotV ta):=by
 intro pins s σ H Q I h
 refine UnaryOp_ (thn (ha pins s σ H _ I h) fun v s1 ⟨x,H1,I1,r1,q1⟩=>?_)
 obtain ⟨c,rfl,q1⟩:=q1
 cases r1
 exact not_of (wpAny_truthy_bool ⟨.bl (!c),H1,I1,rfl,q1⟩)
end
def SqL (K:W.Frag) (H:Hp) (a:Addr) (xs:List V):Prop :=
 Rd H a (.lst xs) \/
  ∃ (o:Obj) (its:Array Value) (n:Nat),K.lookup a=some o/\o.cls=.type "list"/\o.dict=none/\o.data=.seq its n/\its.size<=sizeLine/\Vals xs its.toList
def SqT (K:W.Frag) (H:Hp) (a:Addr) (xs:List V):Prop :=
 Rd H a (.tup xs) \/
  ∃ (o:Obj) (its:Array Value) (n:Nat),K.lookup a=some o/\o.cls=.type "tuple"/\o.data=.seq its n/\its.size<=sizeLine/\Vals xs its.toList
def absV:Value->Option V
 | .none=>some .non
 | .bool b=>some (.bl b)
 | .int i _=>some (.int i)
 | .str x _=>some (.str x)
 | .bytes b _=>some (.byt b)
 | .float b _=>some (.flt b)
 | .ref a=>some (.ref a)
 | .type n=>some (.ty n)
 | _=>none
theorem RelV.abs {x:V} {u:Value} (r:RelV x u):absV u=some x:=by
 cases x with
 | non=>cases r;rfl
 | bl _=>cases r;rfl
 | int _=>obtain ⟨t,rfl⟩:=r;rfl
 | str _=>obtain ⟨t,rfl⟩:=r;rfl
 | byt _=>obtain ⟨t,rfl⟩:=r;rfl
 | flt _=>obtain ⟨t,rfl⟩:=r;rfl
 | ref _=>cases r;rfl
 | ty _=>cases r;rfl
theorem RelV.inj {x y:V} {u:Value} (r:RelV x u) (q:RelV y u):x=y:=Option.some.inj (r.abs.symm.trans q.abs)
theorem Vals.inj:∀ {xs ys:List V} {us:List Value},Vals xs us->Vals ys us->xs=ys
 | _,_,_,.nil,.nil=>rfl
 | _,_,_,.cons r t,.cons r' t'=>by rw [r.inj r',Vals.inj t t']
section
variable {X:Cx} {pins:List (Addr × Obj)} {σ:St} {H:Hp} {s:Shared} {a:Addr} {xs ys:List V}
theorem SqL.of {K:W.Frag} (h:H a=some (.lst xs)):SqL K H a xs:=.inl (.inl h)
theorem SqT.of {K:W.Frag} (h:H a=some (.tup xs)):SqT K H a xs:=.inl (.inl h)
theorem Inv.list (I:Inv X pins σ H s) (h:SqL X.K H a xs):∃ its:List Value,Vals xs its/\PlainL s.heap a its.toArray/\xs.length<=sizeLine:=by
 rcases h with h|⟨o,its,n,hk,hc,hd,hs,hz,r⟩
 ·obtain ⟨z,its,n,r,e⟩:=h.ok I.hok
  exact ⟨its,r,⟨_,n,e,rfl,rfl,rfl⟩,z⟩
 ·refine ⟨its.toList,r,⟨o,n,I.kIn a o hk,hc,hd,by simpa using hs⟩,?_⟩
  have e:=r.length
  simp only [Array.length_toList] at e
  omega
theorem Inv.tuple (I:Inv X pins σ H s) (h:SqT X.K H a xs):∃ its:List Value,Vals xs its/\IsTup s.heap a its.toArray/\xs.length<=sizeLine:=by
 rcases h with h|⟨o,its,n,hk,hc,hs,hz,r⟩
 ·obtain ⟨z,its,r,p⟩:=h.ok I.hok
  exact ⟨its,r,p,z⟩
 ·refine ⟨its.toList,r,⟨o,I.kIn a o hk,hc,n,by simpa using hs⟩,?_⟩
  have e:=r.length
  simp only [Array.length_toList] at e
  omega
theorem Inv.list_inj (I:Inv X pins σ H s) (h:SqL X.K H a xs) (h':SqL X.K H a ys):xs=ys:=by
 obtain ⟨its,r,⟨o,n,e,_,_,d⟩,_⟩:=I.list h
 obtain ⟨its',r',⟨o',n',e',_,_,d'⟩,_⟩:=I.list h'
 rw [e] at e';cases e'
 rw [d] at d'
 injection d' with d1 _
 have:its=its':=by simpa using congrArg Array.toList d1
 subst this
 exact r.inj r'
theorem Inv.tuple_inj (I:Inv X pins σ H s) (h:SqT X.K H a xs) (h':SqT X.K H a ys):xs=ys:=by
 obtain ⟨its,r,⟨o,e,_,n,d⟩,_⟩:=I.tuple h
 obtain ⟨its',r',⟨o',e',_,n',d'⟩,_⟩:=I.tuple h'
 rw [e] at e';cases e'
 rw [d] at d'
 injection d' with d1 _
 have:its=its':=by simpa using congrArg Array.toList d1
 subst this
 exact r.inj r'
end
abbrev Cx.wish (X:Cx) (E:Value->Shared->Prop):Cx:={ X with xe:=E }
abbrev Cx.nox (X:Cx):Cx:=X.wish fun _ _=>False
theorem Cx.Ok.wish {X:Cx} (ok:X.Ok) (E:Value->Shared->Prop):(X.wish E).Ok :=
 ⟨ok.mod,ok.kind,ok.glob,ok.blt,ok.above,ok.inj,ok.has,ok.cab,ok.hd,ok.frames,ok.stk,ok.exf,ok.bs,ok.bsz,ok.noex,ok.exfs,ok.funs,ok.frf⟩
theorem Cx.Ok.unwish {X:Cx} {E:Value->Shared->Prop} (ok:(X.wish E).Ok):X.Ok :=
 ⟨ok.mod,ok.kind,ok.glob,ok.blt,ok.above,ok.inj,ok.has,ok.cab,ok.hd,ok.frames,ok.stk,ok.exf,ok.bs,ok.bsz,ok.noex,ok.exfs,ok.funs,ok.frf⟩
section
variable {X:Cx} {pins:List (Addr × Obj)} {σ:St} {H:Hp} {s:Shared} {E:Value->Shared->Prop}
theorem Inv.wish (I:Inv X pins σ H s) (E:Value->Shared->Prop):Inv (X.wish E) pins σ H s:=⟨I.ok.wish E,I.os,I.bare,I.base,I.loc,I.cell,I.free,I.freeC,I.pin,I.hok,I.len⟩
theorem Inv.unwish (I:Inv (X.wish E) pins σ H s):Inv X pins σ H s:=⟨I.ok.unwish,I.os,I.bare,I.base,I.loc,I.cell,I.free,I.freeC,I.pin,I.hok,I.len⟩
theorem SP.unwish {D:Ends} {f:Flow} {s':Shared} (h:SP (X.wish E) pins D f s'):SP X pins D f s':=by
 cases f with
 | next=>obtain ⟨σ',H',I,q⟩:=h;exact ⟨σ',H',I.unwish,q⟩
 | brk=>obtain ⟨σ',H',I,q⟩:=h;exact ⟨σ',H',I.unwish,q⟩
 | cont=>obtain ⟨σ',H',I,q⟩:=h;exact ⟨σ',H',I.unwish,q⟩
 | ret u=>obtain ⟨v,σ',H',I,r,q⟩:=h;exact ⟨v,σ',H',I.unwish,r,q⟩
theorem PT.nox {e:Expr} {t:TT} (h:PT X.nox e t):PT X e t:=fun pins s σ H Q I hw =>
 wpAny_mono (h pins s σ H Q (I.wish _) hw) (fun _ _ ⟨H',I',q⟩=>⟨H',I'.unwish,q⟩) fun _ _ z=>False.elim z
theorem PSs.nox {st:List Stmt} {t:TS} (h:PSs X.nox st t):PSs X st t:=fun pins s σ H D I hw =>
 wpAny_mono (h pins s σ H D (I.wish _) hw) (fun _ _ q=>q.unwish) fun _ _ z=>False.elim z
end
section
variable {X:Cx} {st:Stmt} {rest:List Stmt} {t u:TS} {e:Expr} {te:TE} {pos:Pos}
def tNext:TS:=fun D σ H=>D.nx σ H
def tSeq (t u:TS):TS:=fun D σ H=>t { D with nx:=u D } σ H
theorem pss_nil:PSs X [] tNext:=fun _ _ σ H _ I h=>wpAny_execs_nil ⟨σ,H,I,h⟩
theorem pss_cons (h1:PS X st t) (h2:PSs X rest u):PSs X (st::rest) (tSeq t u):=by
 intro pins s σ H D I h
 refine wpAny_execs_cons (thn (h1 pins s σ H { D with nx:=u D } I h) fun f s1 q=>?_)
 cases f with
 | next =>
  obtain ⟨σ',H',I',q⟩:=q
  exact h2 pins s1 σ' H' D I' q
 | ret v=>exact q
 | brk=>exact q
 | cont=>exact q
theorem pss_one (h1:PS X st t):PSs X [st] t:=by
 intro pins s σ H D I h
 refine wpAny_execs_cons (thn (h1 pins s σ H D I h) fun f s1 q=>?_)
 cases f with
 | next=>exact wpAny_execs_nil q
 | ret v=>exact q
 | brk=>exact q
 | cont=>exact q
theorem Inv.quiet {pins:List (Addr × Obj)} {σ:St} {H:Hp} {s:Shared} (I:Inv X pins σ H s):interactive X.env=false:=by simp [interactive,I.ok.kind]
def tDrop (te:TE):TS:=fun D σ H=>te σ H fun _ H1=>D.nx σ H1
theorem ps_expr (he:PE X e te) (hs:swapsWith e none pos.line X.env=pure false:=by rfl):PS X (.Expr e pos) (tDrop te):=by
 intro pins s σ H D I h
 exact wpAny_Expr_any (thn (he pins s σ H _ I h) fun v s1 ⟨x,H1,I1,r1,q1⟩=>⟨σ,H1,I1,q1⟩) I.quiet hs
def tRet (te:TE):TS:=fun D σ H=>te σ H D.rt
theorem ps_ret (he:PE X e te):PS X (.Return (some e) pos) (tRet te):=by
 intro pins s σ H D I h
 exact wpAny_Return_some (thn (he pins s σ H _ I h) fun v s1 ⟨x,H1,I1,r1,q1⟩=>⟨x,σ,H1,I1,r1,q1⟩)
def tIfS (c:TT) (t u:TS):TS:=fun D σ H=>c σ H fun b H1=>if b=true then t D σ H1 else u D σ H1
theorem ps_if {c:Expr} {a b:List Stmt} {tc:TT} (hc:PT X c tc) (ha:PSs X a t) (hb:PSs X b u):PS X (.If c a b pos) (tIfS tc t u):=by
 intro pins s σ H D I h
 refine wpAny_If (thn (hc pins s σ H _ I h) fun d s1 ⟨H1,I1,q1⟩=>?_)
 cases d with
 | true=>exact ha pins s1 σ H1 D I1 q1
 | false=>exact hb pins s1 σ H1 D I1 q1
end
abbrev TG:=V->St->Hp->(St->Hp->Prop)->Prop
abbrev TGs:=List V->St->Hp->(St->Hp->Prop)->Prop
def PG (X:Cx) (target:Expr) (t:TG):Prop :=
 ∀ (pins:List (Addr × Obj)) (s:Shared) (σ:St) (H:Hp) (v:V) (u:Value) (Q:St->Hp->Prop),Inv X pins σ H s->RelV v u->t v σ H Q ->
  wpAny (model X.prog X.w) X.A (assign target X.env u) (fun _ s'=>∃ σ' H',Inv X pins σ' H' s'/\Q σ' H') X.xe s
def PGs (X:Cx) (ts:List Expr) (t:TGs):Prop :=
 ∀ (pins:List (Addr × Obj)) (s:Shared) (σ:St) (H:Hp) (vs:List V) (us:List Value) (Q:St->Hp->Prop),Inv X pins σ H s->Vals vs us->t vs σ H Q ->
  wpAny (model X.prog X.w) X.A (assignInOrder ((assignEach ts X.env).map (·.2)) us) (fun _ s'=>∃ σ' H',Inv X pins σ' H' s'/\Q σ' H') X.xe s
section
variable {X:Cx} {pos:Pos}
def gName (i:Nat):TG:=fun v σ H Q=>Q (σ.set i (some v)) H
theorem pg_name {i:Nat} {x:Str} (hN:X.N.Nodup) (hi:X.N[i]?=some x) (hx:Loc X.env.scope x) (hf:X.fn x=true\/X.env.scope.names.lookup x=some .local:=by first|exact .inl rfl|exact .inr rfl|assumption):PG X (.Name x pos) (gName i):=by
 intro pins s σ H v u Q I r h
 exact wpAny_assign_Name (store_ok I hN hi hx r (fun s' I'=>⟨_,H,I',h⟩) hf)
def gNil:TGs:=fun vs σ H Q=>vs=[]/\Q σ H
def gCons (t:TG) (u:TGs):TGs:=fun vs σ H Q=>∃ v r,vs=v::r/\t v σ H fun σ' H'=>u r σ' H' Q
theorem pgs_nil:PGs X [] gNil:=by
 intro pins s σ H vs us Q I r h
 obtain ⟨e,h⟩:=h
 subst e
 cases r
 exact assignInOrder_nil ⟨σ,H,I,h⟩
theorem pgs_cons {e:Expr} {es:List Expr} {t:TG} {u:TGs} (h1:PG X e t) (h2:PGs X es u)
  (hs:(assignEach (e::es) X.env).map (·.2)=assign e X.env::(assignEach es X.env).map (·.2):=by rfl):PGs X (e::es) (gCons t u):=by
 intro pins s σ H vs us Q I r h
 obtain ⟨v,vr,e1,h⟩:=h
 subst e1
 cases r with
 | cons r rr =>
  rw [hs]
  refine assignInOrder_cons (thn (h1 pins s σ H _ _ _ I r h) fun _ s1 ⟨σ1,H1,I1,q1⟩=>?_)
  exact h2 pins s1 σ1 H1 _ _ Q I1 rr q1
def gTup (K:W.Frag) (n:Nat) (t:TGs):TG:=fun v σ H Q=>∃ a xs,v=.ref a/\SqT K H a xs/\xs.length=n/\t xs σ H Q
theorem pg_tup {es:List Expr} {k:Nat} {t:TGs} {n:Nat} (hc:X.calm=true) (h:PGs X es t)
  (hn:(assignEach es X.env).length=n:=by rfl) (hst:(assignEach es X.env).findIdx? (·.1)=none:=by rfl):PG X (.Tuple es k pos) (gTup X.K n t):=by
 intro pins s σ H v u Q I r hw
 obtain ⟨a,xs,e1,hq,hl,hw⟩:=hw
 subst e1
 cases r
 obtain ⟨its,rv,ht,hz⟩:=I.tuple hq
 refine assign_Tuple_tuple (I.ok.hd hc) ht (by simp [hn,<-hl,rv.length]) hst fun h' hx=>?_
 have I1:Inv X pins σ H { s with heap:=h' }:=I.kept (t':=s.toks) fun b o e=>hx b o (Nat.ne_of_lt (Heap.lt_size e)) e
 exact h pins _ σ H xs _ Q I1 (by simpa using rv) hw
def tAsg (te:TE) (g:TG):TS:=fun D σ H=>te σ H fun x H1=>g x σ H1 D.nx
theorem ps_asg {tg e:Expr} {te:TE} {g:TG} (he:PE X e te) (hg:PG X tg g) (hs:swapsWithSole [tg] e pos.line X.env=pure false:=by rfl) (hw:swappedStores [tg] e X.env=pure none:=by rfl)
  (h1:(assignEach [tg] X.env).map (·.2)=[assign tg X.env]:=by rfl):PS X (.Assign [tg] e pos) (tAsg te g):=by
 intro pins s σ H D I h
 refine wpAny_Assign_stores (thn (he pins s σ H _ I h) fun v s1 ⟨x,H1,I1,r1,q1⟩=>?_) hs hw
 rw [h1]
 exact thn (hg pins s1 σ H1 x v _ I1 r1 q1) fun _ s2 q=>q
theorem ps_set {i:Nat} {x:Str} {e:Expr} {te:TE} {pos':Pos} (hN:X.N.Nodup) (hi:X.N[i]?=some x) (hx:Loc X.env.scope x) (he:PE X e te) (hs:swapsWith e (some (.Name x pos')) pos.line X.env=pure false:=by rfl) (hf:X.fn x=true\/X.env.scope.names.lookup x=some .local:=by first|exact .inl rfl|exact .inr rfl|assumption) :
  PS X (.Assign [.Name x pos'] e pos) (tAsg te (gName i)):=by
 intro pins s σ H D I h
 refine wpAny_Assign_Name (thn (he pins s σ H _ I h) fun v s1 ⟨y,H1,I1,r1,q1⟩=>?_) hs
 exact store_ok I1 hN hi hx r1 (fun s2 I2=>⟨_,H1,I2,q1⟩) hf
def tWhile (c:TT) (tb:TS):TS:=fun D σ H=>∃ W:Nat->St->Hp->Prop,(∃ m,W m σ H)/\∀ m σ H,W m σ H ->
 c σ H fun b H1=>if b=true then ∃ N:St->Hp->Prop,(∀ σ' H',N σ' H'->∃ m',m' < m/\W m' σ' H')/\tb { D with nx:=N,ct:=N,bk:=D.nx } σ H1 else D.nx σ H1
theorem ps_while {c:Expr} {body:List Stmt} {tc:TT} {tb:TS} (hp:PassesOwn (model X.prog X.w) X.A X.env X.xe) (hc:PT X c tc) (hb:PSs X body tb):PS X (.While c body [] pos) (tWhile tc tb):=by
 intro pins s σ H D I h
 obtain ⟨W,⟨m0,w0⟩,turn⟩:=h
 refine wpAny_While (codeAny_whileLoop (fun n s'=>∃ σ' H',Inv X pins σ' H' s'/\W n σ' H') ?_ m0 ⟨σ,H,I,w0⟩)
 rintro n s1 ⟨σ1,H1,I1,w1⟩
 refine wpAny_passesOwn hp (thn (hc pins s1 σ1 H1 _ I1 (turn n σ1 H1 w1)) fun b s2 ⟨H2,I2,q2⟩=>?_)
 cases b with
 | true =>
  obtain ⟨N,hN,q2⟩:=q2
  rw [if_pos rfl]
  refine wpAny_passesOwn hp (thn (hb pins s2 σ1 H2 _ I2 q2) fun f s3 q3=>?_)
  cases f with
  | next =>
   obtain ⟨σ3,H3,I3,n3⟩:=q3
   obtain ⟨m',hm,w3⟩:=hN σ3 H3 n3
   exact ⟨m',hm,σ3,H3,I3,w3⟩
  | cont =>
   obtain ⟨σ3,H3,I3,n3⟩:=q3
   obtain ⟨m',hm,w3⟩:=hN σ3 H3 n3
   exact ⟨m',hm,σ3,H3,I3,w3⟩
  | brk=>exact q3
  | ret v=>exact q3
 | false =>
  rw [if_neg Bool.false_ne_true]
  exact wpAny_execs_nil ⟨σ1,H2,I2,q2⟩
end
structure It where
 go:Nat->Hp->Prop
 yld:Nat->Hp->V->Hp->Prop
 stop:Nat->Hp->Prop
def FpOk (X:Cx) (pins:List (Addr × Obj)) (H:Hp) (b:Addr):Prop :=
 H b=none/\b≠X.env.locals/\b∉X.fs/\(b∈X.ex\/X.s₀.heap.objs.size<=b)/\(∀ x c,X.env.cells.lookup x=some c->c≠b)/\∀ p∈X.pn++pins,p.1≠b
theorem Inv.fpOk {X:Cx} {pins:List (Addr × Obj)} {σ:St} {H H':Hp} {s:Shared} {b:Addr} (I:Inv X pins σ H s) (hb:s.heap.objs.size<=b) (hn:H' b=none):FpOk X pins H' b:=by
 refine ⟨hn,Nat.ne_of_gt (Nat.lt_of_lt_of_le I.lt hb),I.nofs hb,.inr (Nat.le_trans I.sz hb),fun x c e z=>?_,fun p hp z=>?_⟩
 ·obtain ⟨v,q⟩:=I.cell x c e
  exact absurd (Nat.lt_of_lt_of_le q.lt (by rw [z];exact hb)) (Nat.lt_irrefl _)
 ·exact absurd (Nat.lt_of_lt_of_le (Heap.lt_size (I.pin p hp).1) (by rw [z];exact hb)) (Nat.lt_irrefl _)
structure Turn (P:Program) (w:World) (K:W.Frag) (tg:Expr) (J:It) (fp:List Addr) (it:Addr) (tn:Nat->Heap->Prop):Prop where
 mem:it∈fp
 obj:∀ i h,tn i h->∀ b∈fp,∃ o,h.get? b=some o/\∀ v,o.data≠.cell v
 keep:∀ i h h',tn i h->(∀ b∈fp,∀ o,h.get? b=some o->h'.get? b=some o)->tn i h'
 item:∀ (X:Cx),X.prog=P->X.w=w->X.K=K->X.calm=true->∀ (i:Nat) (pins:List (Addr × Obj)) (s:Shared) (σ:St) (H:Hp) (E:Value->Shared->Prop),Inv X pins σ H s->(∀ b∈fp,FpOk X pins H b)->tn i s.heap->J.go i H ->
  wpAny (model P w) X.A (pyNext (.ref it)) (fun r s1=>∃ u,r=some u /\
   wpAny (model P w) X.A (letOwnedTupleGo tg (.ref it) u) (fun _ s2=>∃ x H',Inv X pins σ H' s2/\RelV x u/\J.yld i H x H'/\tn (i+1) s2.heap/\∀ b∈fp,H' b=none) E s1) E s
 done:∀ (X:Cx),X.prog=P->X.w=w->X.K=K->X.calm=true->∀ (i:Nat) (pins:List (Addr × Obj)) (s:Shared) (σ:St) (H:Hp) (E:Value->Shared->Prop),Inv X pins σ H s->(∀ b∈fp,FpOk X pins H b)->tn i s.heap->J.stop i H ->
  wpAny (model P w) X.A (pyNext (.ref it)) (fun r s1=>r=none/\Inv X pins σ H s1) E s
 self:∀ (A:Around) (i:Nat) (s:Shared) (Q:Value->Shared->Prop) (E:Value->Shared->Prop),tn i s.heap->Q (.ref it) s->wpAny (model P w) A (pyIter (.ref it)) Q E s
abbrev TI:=St->Hp->(It->Hp->Prop)->Prop
def PIE (X:Cx) (pins:List (Addr × Obj)) (σ:St) (tg:Expr) (R:It->Hp->Prop) (itv:Value) (s2:Shared):Prop :=
 ∃ (it:Addr) (fp:List Addr) (tn:Nat->Heap->Prop) (J:It) (H':Hp),itv=.ref it/\Inv X pins σ H' s2/\Turn X.prog X.w X.K tg J fp it tn/\tn 0 s2.heap/\(∀ b∈fp,FpOk X pins H' b)/\R J H'
def PI (X:Cx) (tg iter:Expr) (wi:TI):Prop :=
 ∀ (pins:List (Addr × Obj)) (s:Shared) (σ:St) (H:Hp) (R:It->Hp->Prop),Inv X pins σ H s->wi σ H R ->
  wpAny (model X.prog X.w) X.A (eval iter X.env) (fun v s1=>wpAny (model X.prog X.w) X.A (pyIter v) (PIE X pins σ tg R) X.xe s1) X.xe s
theorem go_of {M:Model} {A:Around} {E:Value->Shared->Prop} {s:Shared} {tg:Expr} {it:Addr} {u:Value} {o:Obj} {n:String} {vs:Array Value} {Q:Unit->Shared->Prop} (ho:s.heap.get? it=some o) (hc:o.cls=.type n) (hd:o.data=.fields vs)
  (hn:["enumerate","zip","dict_itemiterator","dict_reverseitemiterator","odict_iterator","itertools.zip_longest","itertools.pairwise"].contains n=false) (hQ:Q () s):wpAny M A (letOwnedTupleGo tg (.ref it) u) Q E s:=by
 unfold letOwnedTupleGo
 cases tg<;>first
  | exact wpAny_pure hQ
  | (cases u<;>first
    | exact wpAny_pure hQ
    | (refine wpAny_bind (wpAny_load ho ?_)
       rw [hc,hd]
       show wpAny M A (if (["enumerate","zip","dict_itemiterator","dict_reverseitemiterator","odict_iterator","itertools.zip_longest","itertools.pairwise"].contains n&&vs[0]?==some (rawInt _))=true then _ else _) Q E s
       rw [if_neg (by intro h;rw [hn,Bool.false_and] at h;cases h)]
       exact wpAny_pure hQ))
def Itl (K:W.Frag) (a:Addr):It :=
 ⟨fun i H=>∃ xs x,SqL K H a xs/\xs[i]?=some x,fun i H x H'=>H'=H/\∀ xs,SqL K H a xs->xs[i]?=some x,fun i H=>∃ xs,SqL K H a xs/\xs.length<=i⟩
def Itt (K:W.Frag) (a:Addr):It :=
 ⟨fun i H=>∃ xs x,SqT K H a xs/\xs[i]?=some x,fun i H x H'=>H'=H/\∀ xs,SqT K H a xs->xs[i]?=some x,fun i H=>∃ xs,SqT K H a xs/\xs.length<=i⟩
def Itr (lo:Int) (n:Nat):It:=⟨fun i _=>i < n,fun i H x H'=>H'=H/\x=.int (lo+i),fun i _=>n<=i⟩
theorem turn_list {P:Program} {w:World} {K:W.Frag} {tg:Expr} (a it:Addr):Turn P w K tg (Itl K a) [it] it (fun i h=>h.IsListIter it a i) where
 mem:=by simp
 obj:=fun i h st b hb=>by
  have e:b=it:=by simpa using hb
  subst e
  obtain ⟨o,e,c,d⟩:=st
  exact ⟨o,e,fun v z=>by rw [d] at z;cases z⟩
 keep:=fun i h h' st k=>st.at fun o e=>k it (by simp) o e
 item:=by
  intro X hP hw hK hc i pins s σ H E I hf st hg
  subst hP hw hK
  obtain ⟨xs,x,hq,hx⟩:=hg
  obtain ⟨its,rv,p,hz⟩:=I.list hq
  obtain ⟨u,hu,ru⟩:=rv.get hx
  obtain ⟨f0,f1,f2,f3,f4,f5⟩:=hf it (by simp)
  refine wpAny_pyNext_list_item st p.isList (x:=u) (by simpa using hu) fun h' st' sb=>?_
  have I1:Inv X pins σ H { s with heap:=h' }:=I.turned (t':=s.toks) (fun b o hb e=>(sb.2 b hb).trans e) f0 f1 f3 f4 f5
  obtain ⟨o,e,c,d⟩:=id st'
  exact ⟨u,rfl,go_of (s:={ s with heap:=h' }) e c d (by decide) ⟨x,H,I1,ru,⟨rfl,fun ys hy=>by rw [I.list_inj hy hq];exact hx⟩,st',fun b hb=>(hf b hb).1⟩⟩
 done:=by
  intro X hP hw hK hc i pins s σ H E I hf st hg
  subst hP hw hK
  obtain ⟨xs,hq,hx⟩:=hg
  obtain ⟨its,rv,p,hz⟩:=I.list hq
  obtain ⟨f0,f1,f2,f3,f4,f5⟩:=hf it (by simp)
  have hl:=rv.length
  exact wpAny_pyNext_list_end (I.ok.hd hc) st p.isList (by simp;omega) fun h' eb=>⟨rfl,I.turned (t':=s.toks) (fun b o hb e=>eb b o hb e) f0 f1 f3 f4 f5⟩
 self:=fun _ _ _ _ _ st h=>wpAny_pyIter_listiter st h
theorem turn_tuple {P:Program} {w:World} {K:W.Frag} {tg:Expr} (a it:Addr):Turn P w K tg (Itt K a) [it] it (fun i h=>h.IsTupleIter it a i) where
 mem:=by simp
 obj:=fun i h st b hb=>by
  have e:b=it:=by simpa using hb
  subst e
  obtain ⟨o,e,c,d⟩:=st
  exact ⟨o,e,fun v z=>by rw [d] at z;cases z⟩
 keep:=fun i h h' st k=>st.at fun o e=>k it (by simp) o e
 item:=by
  intro X hP hw hK hc i pins s σ H E I hf st hg
  subst hP hw hK
  obtain ⟨xs,x,hq,hx⟩:=hg
  obtain ⟨its,rv,p,hz⟩:=I.tuple hq
  obtain ⟨u,hu,ru⟩:=rv.get hx
  obtain ⟨f0,f1,f2,f3,f4,f5⟩:=hf it (by simp)
  refine wpAny_pyNext_tuple_item st (show s.heap.IsTuple a its.toArray from p) (x:=u) (by simpa using hu) fun h' st' sb=>?_
  have I1:Inv X pins σ H { s with heap:=h' }:=I.turned (t':=s.toks) (fun b o hb e=>(sb.2 b hb).trans e) f0 f1 f3 f4 f5
  obtain ⟨o,e,c,d⟩:=id st'
  exact ⟨u,rfl,go_of (s:={ s with heap:=h' }) e c d (by decide) ⟨x,H,I1,ru,⟨rfl,fun ys hy=>by rw [I.tuple_inj hy hq];exact hx⟩,st',fun b hb=>(hf b hb).1⟩⟩
 done:=by
  intro X hP hw hK hc i pins s σ H E I hf st hg
  subst hP hw hK
  obtain ⟨xs,hq,hx⟩:=hg
  obtain ⟨its,rv,p,hz⟩:=I.tuple hq
  obtain ⟨f0,f1,f2,f3,f4,f5⟩:=hf it (by simp)
  have hl:=rv.length
  exact wpAny_pyNext_tuple_end (I.ok.hd hc) st (show s.heap.IsTuple a its.toArray from p) (by simp;omega) fun h' eb=>⟨rfl,I.turned (t':=s.toks) (fun b o hb e=>eb b o hb e) f0 f1 f3 f4 f5⟩
 self:=fun _ _ _ _ _ st h=>wpAny_pyIter_tupleiter st h
theorem turn_range {P:Program} {w:World} {K:W.Frag} {tg:Expr} (it:Addr) (lo:Int) (n:Nat):Turn P w K tg (Itr lo n) [it] it (fun i h=>IsRangeIter h it (lo+(i:Nat)*1) ((n:Int) - (i:Nat)) 1) where
 mem:=by simp
 obj:=fun i h st b hb=>by
  have e:b=it:=by simpa using hb
  subst e
  exact ⟨_,st,fun v z=>by
   have z':Data.fields _=Data.cell v:=z
   cases z'⟩
 keep:=fun i h h' st k=>k it (by simp) _ st
 item:=by
  intro X hP hw hK hc i pins s σ H E I hf st hg
  subst hP hw hK
  obtain ⟨f0,f1,f2,f3,f4,f5⟩:=hf it (by simp)
  have W:=Walks.range (prog:=X.prog) (w:=X.w) (I.ok.hd hc) it lo 1 n
  refine W.item i s _ _ hg st fun v h' tk hv st' kk=>?_
  obtain ⟨t,rfl⟩:=hv
  have I1:Inv X pins σ H { s with heap:=h',toks:=tk }:=I.turned (fun b o hb e=>kk b o (by simpa using hb) e) f0 f1 f3 f4 f5
  refine ⟨_,rfl,go_of (s:={ s with heap:=h',toks:=tk }) (n:="range_iterator") st' rfl rfl (by decide) ⟨.int (lo+i),H,I1,⟨t,?_⟩,⟨rfl,rfl⟩,st',fun b hb=>(hf b hb).1⟩⟩
  rw [Int.mul_one]
 done:=by
  intro X hP hw hK hc i pins s σ H E I hf st hg
  subst hP hw hK
  obtain ⟨f0,f1,f2,f3,f4,f5⟩:=hf it (by simp)
  exact wpAny_pyNext_range_end (I.ok.hd hc) st (by have:n<=i:=hg;omega) fun h' eb=>⟨rfl,I.turned (t':=s.toks) (fun b o hb e=>eb b o hb e) f0 f1 f3 f4 f5⟩
 self:=fun _ _ _ _ _ st h=>wpAny_pyIter_rangeiter st h
section
variable {X:Cx} {tg:Expr}
def iList (K:W.Frag) (tl:TE):TI:=fun σ H R=>tl σ H fun x H1=>∃ a,x=.ref a/\(∃ xs,SqL K H1 a xs)/\R (Itl K a) H1
def iTup (K:W.Frag) (tl:TE):TI:=fun σ H R=>tl σ H fun x H1=>∃ a,x=.ref a/\(∃ xs,SqT K H1 a xs)/\R (Itt K a) H1
theorem pi_list {l:Expr} {tl:TE} (hl:PE X l tl):PI X tg l (iList X.K tl):=by
 intro pins s σ H R I h
 refine thn (hl pins s σ H _ I h) fun v s1 ⟨x,H1,I1,r1,q1⟩=>?_
 obtain ⟨a,e,⟨xs,hq⟩,q⟩:=q1
 subst e
 cases r1
 obtain ⟨its,rv,p,hz⟩:=I1.list hq
 refine wpAny_pyIter_list p.isList ?_
 refine ⟨s1.heap.objs.size,[s1.heap.objs.size],_,_,H1,rfl,I1.kept (t':=s1.toks) fun b o e=>Heap.get?_push_of_some _ e,turn_list a _,⟨_,Heap.get?_push_size _ rfl,rfl,rfl⟩,fun b hb=>?_,q⟩
 have e:b=s1.heap.objs.size:=by simpa using hb
 subst e
 exact I1.fpOk (Nat.le_refl _) (I1.hok.fresh (Nat.le_refl _))
theorem pi_tup {l:Expr} {tl:TE} (hl:PE X l tl):PI X tg l (iTup X.K tl):=by
 intro pins s σ H R I h
 refine thn (hl pins s σ H _ I h) fun v s1 ⟨x,H1,I1,r1,q1⟩=>?_
 obtain ⟨a,e,⟨xs,hq⟩,q⟩:=q1
 subst e
 cases r1
 obtain ⟨its,rv,p,hz⟩:=I1.tuple hq
 refine wpAny_pyIter_tuple (show s1.heap.IsTuple a its.toArray from p) ?_
 refine ⟨s1.heap.objs.size,[s1.heap.objs.size],_,_,H1,rfl,I1.kept (t':=s1.toks) fun b o e=>Heap.get?_push_of_some _ e,turn_tuple a _,⟨_,Heap.get?_push_size _ rfl,rfl,rfl⟩,fun b hb=>?_,q⟩
 have e:b=s1.heap.objs.size:=by simpa using hb
 subst e
 exact I1.fpOk (Nat.le_refl _) (I1.hok.fresh (Nat.le_refl _))
theorem range_it {pins:List (Addr × Obj)} {σ:St} {H:Hp} {s:Shared} {R:It->Hp->Prop} {E:Value->Shared->Prop} {lo hi:Int} {t u v:Tok} {tk:Nat} (I:Inv X pins σ H s) (h1:-(2 ^ 62)<=lo) (h2:lo < 2 ^ 62) (h3:-(2 ^ 62)<=hi) (h4:hi < 2 ^ 62)
  (q:R (Itr lo (hi - lo).toNat) H):wpAny (model X.prog X.w) X.A (pyIter (.ref s.heap.objs.size)) (PIE X pins σ tg R) E { s with heap:=s.heap.push { cls:=.type "range",data:=.fields #[.int lo t,.int hi u,.int 1 v] },toks:=tk }:=by
 refine wpAny_pyIter_range (IsRange.new ..) (small_one h1 h2 h3 h4) ?_
 have I1:Inv X pins σ H { s with heap:=s.heap.push { cls:=.type "range",data:=.fields #[.int lo t,.int hi u,.int 1 v] },toks:=tk }:=I.kept fun b o e=>Heap.get?_push_of_some _ e
 refine ⟨(s.heap.push { cls:=.type "range",data:=.fields #[.int lo t,.int hi u,.int 1 v] }).objs.size,[(s.heap.push { cls:=.type "range",data:=.fields #[.int lo t,.int hi u,.int 1 v] }).objs.size],_,_,H,rfl,
  I1.kept (t':=tk) fun b o e=>Heap.get?_push_of_some _ e,turn_range _ lo (hi - lo).toNat,?_,fun b hb=>?_,q⟩
 ·have e1:lo+((0:Nat):Int)*1=lo:=by simp
  have e2:(((hi - lo).toNat:Nat):Int) - ((0:Nat):Int)=Builtin.Range.rangeSize lo hi 1:=by rw [rangeSize_one];split<;>omega
  show IsRangeIter _ _ (lo+((0:Nat):Int)*1) ((((hi - lo).toNat:Nat):Int) - ((0:Nat):Int)) 1
  rw [e1,e2]
  exact Heap.get?_push_size _ rfl
 ·have e:b=(s.heap.push { cls:=.type "range",data:=.fields #[.int lo t,.int hi u,.int 1 v] }).objs.size:=by simpa using hb
  subst e
  exact I1.fpOk (Nat.le_refl _) (I1.hok.fresh (Nat.le_refl _))
def iRng1 (ta:TA):TI:=fun σ H R=>ta σ H fun vs H1=>∃ j:Int,vs=[.int j]/\-(2 ^ 62)<=j/\j < 2 ^ 62/\R (Itr 0 j.toNat) H1
theorem pi_range1 {a:Expr} {ta:TA} {p pos:Pos} (hg:Gl X "range") (hm:X.mg "range"=none) (ha:PA X [a] ta) (hs:starEach [a] X.env=[(false,eval a X.env)]:=by rfl):PI X tg (.Call (.Name "range" p) [a] [] pos) (iRng1 ta):=by
 intro pins s σ H R I h
 refine Call_ (ld_blt I hg hm boot_range (PyProof.Rows.callWith_type1 (thn (ha pos pins s σ H _ I h) fun us s1 ⟨vs,H1,I1,r1,q1⟩=>?_) hs rfl))
 obtain ⟨j,e,q1,q2,q⟩:=q1
 subst e
 cases r1 with
 | cons r rr =>
  cases rr
  obtain ⟨t,rfl⟩:=r
  exact call_range_1 (range_it I1 (by omega) (by omega) q1 q2 (by simpa using q))
def tFor (wi:TI) (g:TG) (tb:TS):TS:=fun D σ H=>wi σ H fun J H1=>∃ W:Nat->Nat->St->Hp->Prop,(∃ m,W 0 m σ H1)/\∀ i m σ H,W i m σ H ->
 (J.stop i H/\D.nx σ H)\/(J.go i H/\∃ N:St->Hp->Prop,(∀ σ' H',N σ' H'->∃ m',m' < m/\W (i+1) m' σ' H')/\∀ x H',J.yld i H x H'->g x σ H' fun σ2 H2=>tb { D with nx:=N,ct:=N,bk:=D.nx } σ2 H2)
def pinsAt (fp:List Addr) (h:Heap):List (Addr × Obj):=fp.filterMap fun b=>(h.get? b).map fun o=>(b,o)
theorem mem_pinsAt {fp:List Addr} {h:Heap} {b:Addr} {o:Obj} (hb:b∈fp) (e:h.get? b=some o):(b,o)∈pinsAt fp h:=List.mem_filterMap.mpr ⟨b,hb,by rw [e];rfl⟩
theorem of_pinsAt {fp:List Addr} {h:Heap} {p:Addr × Obj} (hp:p∈pinsAt fp h):p.1∈fp/\h.get? p.1=some p.2:=by
 obtain ⟨b,hb,e⟩:=List.mem_filterMap.mp hp
 cases q:h.get? b with
 | none=>rw [q] at e;cases e
 | some o =>
  rw [q] at e
  have e':(b,o)=p:=Option.some.inj e
  subst e'
  exact ⟨hb,q⟩
theorem Inv.pinned {pins:List (Addr × Obj)} {σ:St} {H:Hp} {s:Shared} {fp:List Addr} (I:Inv X pins σ H s) (hf:∀ b∈fp,FpOk X pins H b) (ho:∀ b∈fp,∃ o,s.heap.get? b=some o/\∀ v,o.data≠.cell v):Inv X (pins++pinsAt fp s.heap) σ H s :=
 I.pins_of fun p hp=>(mem_append.mp hp).elim (fun z=>I.pin p (mem_append_right _ z)) fun z=>by
  obtain ⟨hb,e⟩:=of_pinsAt z
  obtain ⟨f0,f1,f2,_⟩:=hf p.1 hb
  obtain ⟨o,e',d⟩:=ho p.1 hb
  rw [e] at e';cases e'
  exact ⟨e,f0,f1,f2,d⟩
theorem Inv.unpinned {pins pl:List (Addr × Obj)} {σ:St} {H:Hp} {s:Shared} (I:Inv X (pins++pl) σ H s):Inv X pins σ H s:=I.pins_of fun p hp=>I.pin p (mem_append_right _ (mem_append_left _ hp))
theorem ps_for {iter:Expr} {body:List Stmt} {wi:TI} {g:TG} {tb:TS} {pos:Pos} (hp:PassesOwn (model X.prog X.w) X.A X.env X.xe) (hc:X.calm=true) (hi:PI X tg iter wi) (hg:PG X tg g) (hb:PSs X body tb)
  (hs:∀ x,foldedSetIterable iter X.env x=pure x:=by intro _;rfl):PS X (.For tg iter body [] pos) (tFor wi g tb):=by
 intro pins s σ H D I h
 refine wpAny_For (thn (hi pins s σ H _ I h) fun v s1 h1=>thn h1 fun itv s2 h2=>?_) hs
 obtain ⟨it,fp,tn,J,H2,e,I2,T,st2,f2,W,⟨m0,w0⟩,turn⟩:=h2
 subst e
 have stat:∀ {H':Hp},(∀ b∈fp,H' b=none)->∀ b∈fp,FpOk X pins H' b:=fun hn b hb=>⟨hn b hb,(f2 b hb).2⟩
 refine codeAny_forLoop_any (fun n s'=>∃ i σ' H',Inv X pins σ' H' s'/\tn i s'.heap/\(∀ b∈fp,H' b=none)/\W i n σ' H') ?_ m0 ⟨0,σ,H2,I2,st2,fun b hb=>(f2 b hb).1,w0⟩
 rintro n s3 ⟨i,σ3,H3,I3,st3,fr3,w3⟩
 rcases turn i n σ3 H3 w3 with ⟨stop,qn⟩|⟨go,N,hN,step⟩
 ·refine wpAny_passesOwn hp (thn (T.done X rfl rfl rfl hc i pins s3 σ3 H3 X.xe I3 (stat fr3) st3 stop) fun r s4 ⟨hr,I4⟩=>?_)
  subst hr
  exact wpAny_execs_nil ⟨σ3,H3,I4,qn⟩
 ·refine wpAny_passesOwn hp (thn (T.item X rfl rfl rfl hc i pins s3 σ3 H3 X.xe I3 (stat fr3) st3 go) fun r s4 ⟨u,hr,h4⟩=>?_)
  subst hr
  refine wpAny_passesOwn hp (thn h4 fun _ s5 ⟨x,H5,I5,r5,y5,st5,fr5⟩=>?_)
  have I5':=I5.pinned (stat fr5) (T.obj _ _ st5)
  refine wpAny_passesOwn hp (thn (hg _ s5 σ3 H5 x u _ I5' r5 (step x H5 y5)) fun _ s6 ⟨σ6,H6,I6,q6⟩=>?_)
  refine wpAny_passesOwn hp (thn (hb _ s6 σ6 H6 _ I6 q6) fun f s7 q7=>?_)
  have again:∀ {σ7:St} {H7:Hp},Inv X (pins++pinsAt fp s5.heap) σ7 H7 s7->N σ7 H7->∃ m,m < n/\∃ i σ' H',Inv X pins σ' H' s7/\tn i s7.heap/\(∀ b∈fp,H' b=none)/\W i m σ' H':=fun {σ7 H7} I7 n7=>by
   obtain ⟨m',hm,w7⟩:=hN σ7 H7 n7
   refine ⟨m',hm,i+1,σ7,H7,I7.unpinned,T.keep _ _ _ st5 fun b hb o e=>(I7.pin (b,o) (mem_append_right _ (mem_append_right _ (mem_pinsAt hb e)))).1,fun b hb=>?_,w7⟩
   obtain ⟨o,e,d⟩:=T.obj _ _ st5 b hb
   exact (I7.pin (b,o) (mem_append_right _ (mem_append_right _ (mem_pinsAt hb e)))).2.1
  cases f with
  | next=>obtain ⟨σ7,H7,I7,n7⟩:=q7;exact again I7 n7
  | cont=>obtain ⟨σ7,H7,I7,n7⟩:=q7;exact again I7 n7
  | brk=>obtain ⟨σ7,H7,I7,q7⟩:=q7;exact ⟨σ7,H7,I7.unpinned,q7⟩
  | ret v=>obtain ⟨x7,σ7,H7,I7,r7,q7⟩:=q7;exact ⟨x7,σ7,H7,I7.unpinned,r7,q7⟩
end
abbrev R2:=V->V->Hp->VK->Prop
def OpR (X:Cx) (f:Value->Value->Sem Value) (r:R2):Prop :=
 ∀ (pins:List (Addr × Obj)) (s:Shared) (σ:St) (H:Hp) (x y:V) (v u:Value) (Q:VK),Inv X pins σ H s->RelV x v->RelV y u->r x y H Q ->
  wpAny (model X.prog X.w) X.A (f v u) (EP X pins σ Q) X.xe s
def UnR (X:Cx) (f:Value->Sem Value) (r:V->Hp->VK->Prop):Prop :=
 ∀ (pins:List (Addr × Obj)) (s:Shared) (σ:St) (H:Hp) (x:V) (v:Value) (Q:VK),Inv X pins σ H s->RelV x v->r x H Q ->
  wpAny (model X.prog X.w) X.A (f v) (EP X pins σ Q) X.xe s
def CallR (X:Cx) (f:Value) (r:List V->Hp->VK->Prop):Prop :=
 ∀ (pins:List (Addr × Obj)) (s:Shared) (σ:St) (H:Hp) (xs:List V) (us:List Value) (Q:VK),Inv X pins σ H s->Vals xs us->r xs H Q ->
  wpAny (model X.prog X.w) X.A (call f us) (EP X pins σ Q) X.xe s
def TruR (X:Cx) (r:V->Hp->(Bool->Hp->Prop)->Prop):Prop :=
 ∀ (pins:List (Addr × Obj)) (s:Shared) (σ:St) (H:Hp) (x:V) (v:Value) (Q:Bool->Hp->Prop),Inv X pins σ H s->RelV x v->r x H Q ->
  wpAny (model X.prog X.w) X.A (truthy v) (TP X pins σ Q) X.xe s
def tOp (r:R2) (ta tb:TE):TE:=fun σ H Q=>ta σ H fun x H1=>tb σ H1 fun y H2=>r x y H2 Q
def tUn (r:V->Hp->VK->Prop) (ta:TE):TE:=fun σ H Q=>ta σ H fun x H1=>r x H1 Q
def rI (C:Int->Int->Prop) (g:Int->Int->V):R2:=fun x y H Q=>∃ i j,x=.int i/\y=.int j/\C i j/\Q (g i j) H
def rI0 (g:Int->Int->V):R2:=fun x y H Q=>∃ i j,x=.int i/\y=.int j/\Q (g i j) H
def rU (g:Int->V):V->Hp->VK->Prop:=fun x H Q=>∃ i,x=.int i/\Q (g i) H
section
variable {X:Cx} {a b c:Expr} {ta tb tc:TE} {pos:Pos}
theorem binT (ha:PE X a ta) (hb:PE X b tb) {pins:List (Addr × Obj)} {s:Shared} {σ:St} {H:Hp} {R:V->V->Hp->Prop} (I:Inv X pins σ H s)
  (h:ta σ H fun x H1=>tb σ H1 fun y H2=>R x y H2) {Q:Value->Shared->Prop} {f:Value->Value->Sem Value}
  (hf:∀ v u s2 x y H2,Inv X pins σ H2 s2->RelV x v->RelV y u->R x y H2->wpAny (model X.prog X.w) X.A (f v u) Q X.xe s2) :
  wpAny (model X.prog X.w) X.A (eval a X.env) (fun v s₁=>wpAny (model X.prog X.w) X.A (eval b X.env) (fun u s₂=>wpAny (model X.prog X.w) X.A (f v u) Q X.xe s₂) X.xe s₁) X.xe s:=by
 refine thn (ha pins s σ H _ I h) fun v s1 ⟨x,H1,I1,r1,q1⟩=>?_
 refine thn (hb pins s1 σ H1 _ I1 q1) fun u s2 ⟨y,H2,I2,r2,q2⟩=>?_
 exact hf v u s2 x y H2 I2 r1 r2 q2
theorem pe_op {op:Operator} {r:R2} (ho:OpR X (binaryOp op) r) (ha:PE X a ta) (hb:PE X b tb):PE X (.BinOp a op b pos) (tOp r ta tb):=by
 intro pins s σ H Q I h
 exact wpAny_BinOp (binT ha hb I h fun v u s2 x y H2 I2 rx ry q=>ho pins s2 σ H2 x y v u Q I2 rx ry q)
theorem pe_un {op:UnaryOp} {r:V->Hp->VK->Prop} (ho:UnR X (unaryOp op) r) (ha:PE X a ta):PE X (.UnaryOp op a pos) (tUn r ta):=by
 intro pins s σ H Q I h
 exact UnaryOp_ (thn (ha pins s σ H _ I h) fun v s1 ⟨x,H1,I1,r1,q1⟩=>ho pins s1 σ H1 x v Q I1 r1 q1)
theorem opI {f:Value->Value->Sem Value} {C:Int->Int->Prop} {g:Int->Int->Int}
  (rule:∀ (i j:Int) (t u:Tok) (s:Shared) (Q:Value->Shared->Prop) (E:Value->Shared->Prop),C i j->Q (.int (g i j) s.toks) { s with toks:=s.toks+1 }->wpAny (model X.prog X.w) X.A (f (.int i t) (.int j u)) Q E s) :
  OpR X f (rI C fun i j=>.int (g i j)):=by
 intro pins s σ H x y v u Q I rx ry h
 obtain ⟨i,j,rfl,rfl,hc,q⟩:=h
 obtain ⟨t,rfl⟩:=rx
 obtain ⟨t',rfl⟩:=ry
 exact rule i j t t' s _ _ hc ⟨.int (g i j),H,I.tok _,⟨_,rfl⟩,q⟩
theorem opI0 {f:Value->Value->Sem Value} {g:Int->Int->Int}
  (rule:∀ (i j:Int) (t u:Tok) (s:Shared) (Q:Value->Shared->Prop) (E:Value->Shared->Prop),Q (.int (g i j) s.toks) { s with toks:=s.toks+1 }->wpAny (model X.prog X.w) X.A (f (.int i t) (.int j u)) Q E s) :
  OpR X f (rI0 fun i j=>.int (g i j)):=by
 intro pins s σ H x y v u Q I rx ry h
 obtain ⟨i,j,rfl,rfl,q⟩:=h
 obtain ⟨t,rfl⟩:=rx
 obtain ⟨t',rfl⟩:=ry
 exact rule i j t t' s _ _ ⟨.int (g i j),H,I.tok _,⟨_,rfl⟩,q⟩
theorem opB0 {f:Value->Value->Sem Value} {g:Int->Int->Bool}
  (rule:∀ (i j:Int) (t u:Tok) (s:Shared) (Q:Value->Shared->Prop) (E:Value->Shared->Prop),Q (.bool (g i j)) s->wpAny (model X.prog X.w) X.A (f (.int i t) (.int j u)) Q E s) :
  OpR X f (rI0 fun i j=>.bl (g i j)):=by
 intro pins s σ H x y v u Q I rx ry h
 obtain ⟨i,j,rfl,rfl,q⟩:=h
 obtain ⟨t,rfl⟩:=rx
 obtain ⟨t',rfl⟩:=ry
 exact rule i j t t' s _ _ ⟨.bl (g i j),H,I,rfl,q⟩
def CDiv (i j:Int):Prop:=0 < j/\j < 1073741824
def CPow (i j:Int):Prop:=0<=j/\j<=1000000/\i.natAbs < 2 ^ 64
def CMul (i j:Int):Prop:=(-(2 ^ 64) < i/\i < 2 ^ 64)\/(-(2 ^ 64) < j/\j < 2 ^ 64)
theorem CMul.ok {i j:Int} (h:CMul i j):IntMulOk i j:=by
 rcases h with ⟨h1,h2⟩|⟨h1,h2⟩
 ·exact .of_left (intBits_le_64 h1 h2)
 ·exact .of_right (intBits_le_64 h1 h2)
theorem op_add:OpR X (binaryOp .Add) (rI0 fun i j=>.int (i+j)):=opI0 fun _ _ _ _ _ _ _ q=>add_int q
theorem op_sub:OpR X (binaryOp .Sub) (rI0 fun i j=>.int (i - j)):=opI0 fun _ _ _ _ _ _ _ q=>sub_int q
theorem op_fdiv:OpR X (binaryOp .FloorDiv) (rI CDiv fun i j=>.int (i / j)):=opI fun i j _ _ _ _ _ hc q=>by
 have h1:(0:Int) < j:=hc.1
 have h2:j < 1073741824:=hc.2
 exact floordiv_int (by omega) (by rw [Int.fdiv_eq_ediv_of_nonneg i (by omega)];exact q) (.inl (PyProof.noPylong_small (by omega)))
theorem op_mod:OpR X (binaryOp .Mod) (rI (fun _ j=>0 < j) fun i j=>.int (i % j)):=opI fun i j _ _ _ _ _ hc q=>by
 have h1:(0:Int) < j:=hc
 exact mod_int' (by omega) (by rw [Int.fmod_eq_emod_of_nonneg i (by omega)];exact q)
theorem op_pow:OpR X (binaryOp .Pow) (rI CPow fun i j=>.int (i ^ j.toNat)):=opI fun _ _ _ _ _ _ _ hc q=>pow_int_small hc.1 hc.2.1 hc.2.2 q
theorem unI {f:Value->Sem Value} {g:Int->Int}
  (rule:∀ (i:Int) (t:Tok) (s:Shared) (Q:Value->Shared->Prop) (E:Value->Shared->Prop),Q (.int (g i) s.toks) { s with toks:=s.toks+1 }->wpAny (model X.prog X.w) X.A (f (.int i t)) Q E s) :
  UnR X f (rU fun i=>.int (g i)):=by
 intro pins s σ H x v Q I rx h
 obtain ⟨i,rfl,q⟩:=h
 obtain ⟨t,rfl⟩:=rx
 exact rule i t s _ _ ⟨.int (g i),H,I.tok _,⟨_,rfl⟩,q⟩
theorem un_neg:UnR X (unaryOp .USub) (rU fun i=>.int (-i)):=unI fun _ _ _ _ _ q=>neg_int q
theorem fin_bl {pins:List (Addr × Obj)} {σ:St} {H:Hp} {s:Shared} {Q:VK} {k k':Bool} (I:Inv X pins σ H s) (q:Q (.bl k) H) (e:k=k'):EP X pins σ Q (.bool k') s:=by
 subst e
 exact ⟨.bl k,H,I,rfl,q⟩
theorem op_lt:OpR X (compareOp .Lt) (rI0 fun i j=>.bl (decide (i < j))):=opB0 fun _ _ _ _ _ _ _ q=>lt_int q
theorem op_le:OpR X (compareOp .LtE) (rI0 fun i j=>.bl (decide (i<=j))):=opB0 fun _ _ _ _ _ _ _ q=>le_int q
theorem op_gt:OpR X (compareOp .Gt) (rI0 fun i j=>.bl (decide (j < i))):=opB0 fun _ _ _ _ _ _ _ q=>gt_int q
theorem op_ge:OpR X (compareOp .GtE) (rI0 fun i j=>.bl (decide (j<=i))):=opB0 fun _ _ _ _ _ _ _ q=>ge_int q
theorem op_in_str:OpR X (compareOp .In) (fun x y H Q=>∃ i j,x=.str i/\y=.str j/\Q (.bl (!(Builtin.Str.occurrences j i 0 j.length 1).isEmpty)) H):=by
 intro pins s σ H x y v u Q I rx ry h
 obtain ⟨i,j,rfl,rfl,q⟩:=h
 obtain ⟨t,rfl⟩:=rx
 obtain ⟨t',rfl⟩:=ry
 exact in_str (fin_bl I q rfl)
theorem op_notin_str:OpR X (compareOp .NotIn) (fun x y H Q=>∃ i j,x=.str i/\y=.str j/\Q (.bl (!(!(Builtin.Str.occurrences j i 0 j.length 1).isEmpty))) H):=by
 intro pins s σ H x y v u Q I rx ry h
 obtain ⟨i,j,rfl,rfl,q⟩:=h
 obtain ⟨t,rfl⟩:=rx
 obtain ⟨t',rfl⟩:=ry
 exact notIn_str (fin_bl I q rfl)
theorem OpR.or {f:Value->Value->Sem Value} {r r':R2} (h:OpR X f r) (h':OpR X f r'):OpR X f (fun x y H Q=>r x y H Q\/r' x y H Q):=by
 intro pins s σ H x y v u Q I rx ry q
 rcases q with q|q
 ·exact h pins s σ H x y v u Q I rx ry q
 ·exact h' pins s σ H x y v u Q I rx ry q
theorem nomark (b:Expr) {op:CmpOp} (h:op≠.In:=by decide) (h2:op≠.NotIn:=by decide):behindInMarks op b=false:=by
 have e1:(op==CmpOp.In)=false:=by cases op<;>first|rfl|exact absurd rfl h
 have e2:(op==CmpOp.NotIn)=false:=by cases op<;>first|rfl|exact absurd rfl h2
 cases b<;>simp [behindInMarks,e1,e2]
theorem pe_cmpR {op:CmpOp} {r:R2} (ho:OpR X (compareOp op) r) (ha:PE X a ta) (hb:PE X b tb) (hm:behindInMarks op b=false):PE X (.Compare a [op] [b] pos) (tOp r ta tb):=by
 intro pins s σ H Q I h
 exact wpAny_Compare1 (binT ha hb I h fun v u s2 x y H2 I2 rx ry q=>ho pins s2 σ H2 x y v u Q I2 rx ry q) hm
def tTest (t:TE):TT:=fun σ H Q=>t σ H fun x H'=>∃ k,x=.bl k/\Q k H'
theorem pt_cmpR {op:CmpOp} {r:R2} (ho:OpR X (compareOp op) r) (ha:PE X a ta) (hb:PE X b tb) (hm:behindInMarks op b=false):PT X (.Compare a [op] [b] pos) (tTest (tOp r ta tb)):=by
 intro pins s σ H Q I h
 refine wpAny_isTrue_Compare1 (thn (ha pins s σ H _ I h) fun v s1 ⟨x,H1,I1,r1,q1⟩=>thn (hb pins s1 σ H1 _ I1 q1) fun u s2 ⟨y,H2,I2,r2,q2⟩ =>
  thn (ho pins s2 σ H2 x y v u _ I2 r1 r2 q2) fun c s3 ⟨z,H3,I3,r3,k,e,q3⟩=>?_) hm
 subst e
 cases r3
 exact wpAny_truthy_bool ⟨H3,I3,q3⟩
def tChain (r r':R2) (ta tb tc:TE):TE:=fun σ H Q=>ta σ H fun x H1=>tb σ H1 fun y H2=>r x y H2 fun z H3=>∃ k,z=.bl k /\
 (if k=true then tc σ H3 fun w' H4=>r' y w' H4 Q else Q (.bl false) H3)
theorem pt_chain {op op':CmpOp} {r r':R2} (ho:OpR X (compareOp op) r) (ho':OpR X (compareOp op') r') (ha:PE X a ta) (hb:PE X b tb) (hc:PE X c tc)
  (hm:lastMarks [op,op'] [b,c]=false:=by with_unfolding_all rfl):PT X (.Compare a [op,op'] [b,c] pos) (tTest (tChain r r' ta tb tc)):=by
 intro pins s σ H Q I h
 refine isTrue_chain (thn (ha pins s σ H _ I h) fun v s1 ⟨x,H1,I1,r1,q1⟩=>test_link (thn (hb pins s1 σ H1 _ I1 q1) fun u s2 ⟨y,H2,I2,r2,q2⟩ =>
  thn (ho pins s2 σ H2 x y v u _ I2 r1 r2 q2) fun d s3 ⟨z,H3,I3,r3,k,e,q3⟩=>?_)) hm
 subst e
 cases r3
 refine wpAny_truthy_bool ?_
 cases k with
 | false =>
  obtain ⟨k',e',q'⟩:=q3
  cases e'
  exact ite_ff ⟨H3,I3,q'⟩
 | true =>
  refine ite_tt (test_last (thn (hc pins s3 σ H3 _ I3 q3) fun w' s4 ⟨z',H4,I4,r4,q4⟩=>thn (ho' pins s4 σ H4 y z' u w' _ I4 r2 r4 q4) fun d' s5 ⟨z2,H5,I5,r5,k2,e2,q5⟩=>?_))
  subst e2
  cases r5
  exact wpAny_truthy_bool ⟨H5,I5,q5⟩
def TruV (K:W.Frag) (x:V) (H:Hp) (k:Bool):Prop :=
 match x with
 | .non=>k=false
 | .bl b=>k=b
 | .int i=>k=(i != 0)
 | .str y=>y.length<=sizeLine/\k=((y.length:Int) != 0)
 | .byt y=>y.size<=sizeLine/\k=((y.size:Int) != 0)
 | .ref p=>(∃ xs,SqL K H p xs/\k=!xs.isEmpty)\/(∃ xs,SqT K H p xs/\k=!xs.isEmpty)\/∃ kvs,H p=some (.dK kvs)/\k=!kvs.isEmpty
 | _=>False
theorem isEmpty_kv {κ:Type} {kvs:List (κ × V)} {vs:List (κ × Value)} (r:KV kvs vs):(!vs.isEmpty)=!kvs.isEmpty:=by
 cases r<;>rfl
theorem isEmpty_of {xs:List V} {its:List Value} (r:Vals xs its):(!its.toArray.isEmpty)=!xs.isEmpty:=by
 cases r<;>simp
theorem line63:(sizeLine:Nat) < 2 ^ 63:=by rw [sizeLine_eq];decide
theorem tru_ok:TruR X (fun x H Q=>∃ k,TruV X.K x H k/\Q k H):=by
 intro pins s σ H x v Q I rx h
 obtain ⟨k,e,q⟩:=h
 have hl:=line63
 have hs:sizeLine=16777216:=sizeLine_eq
 cases x with
 | non =>
  cases rx
  have e':k=false:=e
  subst e'
  exact truthy_none ⟨H,I,q⟩
 | bl b =>
  cases rx
  have e':k=b:=e
  subst e'
  exact wpAny_truthy_bool ⟨H,I,q⟩
 | int i =>
  obtain ⟨t,rfl⟩:=rx
  have e':k=(i != 0):=e
  subst e'
  exact PySem.P.truthy_int ⟨H,I,q⟩
 | str y =>
  obtain ⟨t,rfl⟩:=rx
  obtain ⟨hy,e'⟩:y.length<=sizeLine/\k=((y.length:Int) != 0):=e
  subst e'
  exact PySem.P.truthy_str (by omega) ⟨H,I.tok _,q⟩
 | byt y =>
  obtain ⟨t,rfl⟩:=rx
  obtain ⟨hy,e'⟩:y.size<=sizeLine/\k=((y.size:Int) != 0):=e
  subst e'
  exact PySem.W.truthy_bytes (by omega) ⟨H,I.tok _,q⟩
 | ref p =>
  cases rx
  have e':(∃ xs,SqL X.K H p xs/\k=!xs.isEmpty)\/(∃ xs,SqT X.K H p xs/\k=!xs.isEmpty)\/∃ kvs,H p=some (.dK kvs)/\k=!kvs.isEmpty:=e
  rcases e' with ⟨xs,hx,e'⟩|⟨xs,hx,e'⟩|⟨kvs,hx,e'⟩
  ·subst e'
   obtain ⟨its,r,pl,hz⟩:=I.list hx
   have hlen:=r.length
   exact wpAny_truthy_list pl.isList (by simp only [size_toArray];omega) ⟨H,I.tok _,by rw [isEmpty_of r];exact q⟩
  ·subst e'
   obtain ⟨its,r,pl,hz⟩:=I.tuple hx
   have hlen:=r.length
   exact truthy_tuple pl (by simp only [size_toArray];omega) ⟨H,I.tok _,by rw [isEmpty_of r];exact q⟩
  ·subst e'
   obtain ⟨hz,hS,vs,r,m⟩:kvs.length<=sizeLine/\(p==sysModules)=false/\∃ vs,KV kvs vs/\s.heap.DictOf (mixKind X.prog X.w) p vs:=I.hok p _ hx
   have hlen:kvs.length=vs.length:=Paired.length r
   exact wpAny_truthy_dict hS m (by omega) ⟨H,I.tok _,by rw [isEmpty_kv r];exact q⟩
 | _=>exact (show False from e).elim
theorem pt_truth (ha:PE X a ta) (he:∀ whole,isTrue a X.env whole=(do let v <- whole;standAt a.pos;holding [v] (truthy v))) :
  PT X a (fun σ H Q=>ta σ H fun x H'=>∃ k,TruV X.K x H' k/\Q k H'):=by
 intro pins s σ H Q I h
 exact isTrue_plain (thn (ha pins s σ H _ I h) fun v s1 ⟨x,H1,I1,r1,q1⟩=>tru_ok pins s1 σ H1 x v Q I1 r1 q1) (he _)
theorem op_add_str:OpR X (binaryOp .Add) (fun x y H Q=>∃ i j,x=.str i/\y=.str j/\i.length+j.length<=sizeLine/\Q (.str (i++j)) H):=by
 intro pins s σ H x y v u Q I rx ry h
 obtain ⟨i,j,rfl,rfl,hz,q⟩:=h
 obtain ⟨t,rfl⟩:=rx
 obtain ⟨t',rfl⟩:=ry
 exact add_str (fun t' tk=>⟨.str (i++j),H,I.tok _,⟨_,rfl⟩,q⟩) hz
theorem vals1 {x:V} {us:List Value} (r:Vals [x] us):∃ u,us=[u]/\RelV x u:=by
 cases r with
 | cons r1 r2=>cases r2;exact ⟨_,rfl,r1⟩
theorem vals2 {x y:V} {us:List Value} (r:Vals [x,y] us):∃ u w',us=[u,w']/\RelV x u/\RelV y w':=by
 cases r with
 | cons r1 r2 =>
  cases r2 with
  | cons r3 r4=>cases r4;exact ⟨_,_,rfl,r1,r3⟩
theorem call_max2 (hc:X.calm=true):CallR X (.builtin "max") (fun xs H Q=>∃ i j,xs=[.int i,.int j]/\Q (.int (if j > i then j else i)) H):=by
 intro pins s σ H xs us Q I r h
 obtain ⟨i,j,rfl,q⟩:=h
 obtain ⟨u,w',rfl,⟨t,rfl⟩,⟨t',rfl⟩⟩:=vals2 r
 refine max_two_ints (I.ok.hd hc) fun h' tk k=>⟨_,H,I.kept k,?_,q⟩
 by_cases hj:j > i
 ·rw [if_pos hj,if_pos hj];exact ⟨_,rfl⟩
 ·rw [if_neg hj,if_neg hj];exact ⟨_,rfl⟩
end
structure ObjM (h:Heap) (x dx C:Addr) (mA:Str->Option Value):Prop where
 obj:h.get? x=some (PySem.W.instObj C dx)
 ns:h.Ns1 dx mA
 ne:dx≠x
theorem lookIn_ns {h:Heap} {dx:Addr} {mA:Str->Option Value} (n:h.Ns1 dx mA):∃ od,h.get? dx=some od/\∀ name,PySem.W.lookIn name od=some (mA name):=by
 obtain ⟨o,es,ep,ho,hd,hk,_,hm⟩:=n
 refine ⟨o,ho,fun name=>?_⟩
 have e:=hm name
 unfold nsFind findBy at e
 rw [<-Array.find?_toList] at e
 unfold PySem.W.lookIn
 rw [hd]
 dsimp only
 split
 ·rename_i y q
  rw [q] at e
  exact congrArg some e
 ·rename_i q
  rw [q] at e
  have a:es.toList.any (·.refKey)=false:=by
   rw [List.any_eq_false]
   intro y hy
   obtain ⟨z,t,hkey⟩:=hk y (Array.mem_toList_iff.mp hy)
   simp [DictEntry.refKey,hkey]
  have a':¬ es.toList.any (·.refKey)=true:=by rw [a];exact Bool.false_ne_true
  rw [if_neg a']
  exact congrArg some e
theorem ObjM.look {h:Heap} {x dx C:Addr} {mA:Str->Option Value} (I:ObjM h x dx C mA):∃ od,PySem.W.InstAt h x (PySem.W.instObj C dx) C (some od)/\∀ name,PySem.W.lookIn name od=some (mA name) :=
 let ⟨od,ho,hl⟩:=lookIn_ns I.ns
 ⟨od,⟨I.obj,rfl,rfl,ho⟩,hl⟩
section
variable {P:Program} {w:World} {H:Hp} {h:Heap} {a C dx:Addr} {fs:List (Str × V)}
theorem ins_get (hok:HOk P w H h) (e:H a=some (.ins C dx fs)):∃ mA,ObjM h a dx C mA/\(∀ f,RelO (fs.lookup f) (mA f))/\PySem.Within mA (fs.map (·.1))/\fs.length<=1000/\H dx=some (.own a):=by
 obtain ⟨d,z,ne,ob,mA,n,r,q⟩:=(show ObjOk P w H h a (.ins C dx fs) from hok a _ e)
 exact ⟨mA,⟨ob,n,ne⟩,r,q,z,d⟩
end
structure Cls (K:W.Frag) (C:Addr):Prop where
 pg:PySem.W.plainGet K C Str.empty=true
 hd:PySem.W.hasDictIn K C=true
 po:PySem.W.plainOver K C=true
 sa:PySem.W.findIn K (.ref C) "__setattr__"=some (some (.builtin "object.__setattr__"))
theorem Cls.get {K:W.Frag} {C:Addr} (c:Cls K C) (f:Str):PySem.W.plainGet K C f=true:=c.pg
section
variable {X:Cx} {pins:List (Addr × Obj)} {σ:St} {H:Hp} {s:Shared} {A:Around} {E:Value->Shared->Prop} {Q:Value->Shared->Prop} {c:Value} {b:Bool}
inductive TyOf (K:W.Frag) (H:Hp):V->Value->Prop where
 | non:TyOf K H .non (.type "NoneType")
 | bl (x:Bool):TyOf K H (.bl x) (.type "bool")
 | int (i:Int):TyOf K H (.int i) (.type "int")
 | str (x:Str):TyOf K H (.str x) (.type "str")
 | flt (x:UInt64):TyOf K H (.flt x) (.type "float")
 | lst {a:Addr} {xs:List V} (e:H a=some (.lst xs)):TyOf K H (.ref a) (.type "list")
 | frz {a:Addr} {o:Obj} {xs:List V} (e:H a=some (.frz o (.lst xs))):TyOf K H (.ref a) (.type "list")
 | tup {a:Addr} {xs:List V} (e:H a=some (.tup xs)):TyOf K H (.ref a) (.type "tuple")
 | dK {a:Addr} {kvs:List (Key × V)} (e:H a=some (.dK kvs)):TyOf K H (.ref a) (.type "dict")
 | dT {a:Addr} {kvs:List (List Key × V)} (e:H a=some (.dT kvs)):TyOf K H (.ref a) (.type "dict")
 | ins {a C dx:Addr} {fs:List (Str × V)} (e:H a=some (.ins C dx fs)) (cl:Cls K C) (ha:PySem.W.findIn K (.ref C) "__class__"=some (some (.builtin "object.__class__")))
   (hn:PySem.W.specialIn K (.builtin "object.__class__") "__get__"=some (some (.builtin "getset_descriptor.__get__"))) (htk:PySem.W.takesIn K (.builtin "object.__class__")=some true)
   (hm:PySem.W.mroIn K C (.type "object")=some true):TyOf K H (.ref a) (.ref C)
theorem isinst_ok {x:V} {u t:Value} (I:Inv X pins σ H s) (rx:RelV x u) (ty:TyOf X.K H x t) (e:PySem.W.kitOne X.K t c=some b) (h:∀ tk,Q (.bool b) { s with toks:=tk }) :
  wpAny (model X.prog X.w) A (call (.builtin "isinstance") [u,c]) Q E s:=by
 cases ty with
 | non=>cases (show u=Value.none from rx);exact PySem.W.kia_one PySem.W.kitx_none I.kIn True.intro e (fun z=>nomatch z) h
 | bl y=>cases (show u=Value.bool y from rx);exact PySem.W.kia_one PySem.W.kitx_bool I.kIn True.intro e (fun z=>nomatch z) h
 | int i=>obtain ⟨t,q⟩:=(show ∃ t,u=Value.int i t from rx);cases q;exact PySem.W.kia_one PySem.W.kitx_int I.kIn True.intro e (fun z=>nomatch z) h
 | str y=>obtain ⟨t,q⟩:=(show ∃ t,u=Value.str y t from rx);cases q;exact PySem.W.kia_one PySem.W.kitx_str I.kIn True.intro e (fun z=>nomatch z) h
 | flt y=>obtain ⟨t,q⟩:=(show ∃ t,u=Value.float y t from rx);cases q;exact PySem.W.kia_one PySem.W.kitx_float I.kIn True.intro e (fun z=>nomatch z) h
 | @lst a xs ea =>
  cases (show u=Value.ref a from rx)
  obtain ⟨_,_,n,_,h1⟩:=(show ObjOk X.prog X.w H s.heap a (.lst xs) from I.hok a _ ea)
  exact PySem.W.kia_one PySem.W.kitx_list I.kIn ⟨_,h1,rfl⟩ e (fun z=>nomatch z) h
 | @frz a ob xs ea =>
  cases (show u=Value.ref a from rx)
  obtain ⟨_,_,_,n,_,h1⟩:=(show ObjOk X.prog X.w H s.heap a (.frz ob (.lst xs)) from I.hok a _ ea)
  exact PySem.W.kia_one PySem.W.kitx_list I.kIn ⟨_,h1,rfl⟩ e (fun z=>nomatch z) h
 | @tup a xs ea =>
  cases (show u=Value.ref a from rx)
  obtain ⟨_,_,_,p⟩:=(show ObjOk X.prog X.w H s.heap a (.tup xs) from I.hok a _ ea)
  obtain ⟨o,h1,h2,_⟩:=p
  exact PySem.W.kia_one PySem.W.kitx_tuple I.kIn ⟨o,h1,h2⟩ e (fun z=>nomatch z) h
 | @dK a kvs ea =>
  cases (show u=Value.ref a from rx)
  obtain ⟨_,_,vs,_,p⟩:=(show ObjOk X.prog X.w H s.heap a (.dK kvs) from I.hok a _ ea)
  obtain ⟨o,es,ep,h1,h2,_⟩:=p
  exact PySem.W.kia_one PySem.W.kitx_dict I.kIn ⟨o,h1,h2.1⟩ e (fun z=>nomatch z) h
 | @dT a kvs ea =>
  cases (show u=Value.ref a from rx)
  obtain ⟨_,_,xs,_,o,es,ep,h1,h2,_⟩:=(show ObjOk X.prog X.w H s.heap a (.dT kvs) from I.hok a _ ea)
  exact PySem.W.kia_one PySem.W.kitx_dict I.kIn ⟨o,h1,h2.1⟩ e (fun z=>nomatch z) h
 | @ins a C dx fs ea cl ha hn htk hm =>
  cases (show u=Value.ref a from rx)
  obtain ⟨mA,O,_⟩:=ins_get I.hok ea
  obtain ⟨od,J,_⟩:=O.look
  exact PySem.W.kia_one (PySem.W.kitx_own (cl.get _) cl.hd ha hn htk hm) I.kIn J e (fun z=>nomatch z) h
end
structure Room (k:Nat) (A:Around):Prop where
 hd:A.handled=none
 dp:A.depth+3*k+5 < recursionLimit
 un:A.units+16*k+200 < cLine
 gd:A.guards=some []
theorem Room.mono {j k:Nat} {A:Around} (r:Room k A) (h:j<=k):Room j A:=⟨r.hd,by have:=r.dp;omega,by have:=r.un;omega,r.gd⟩
theorem Room.deeper {k:Nat} {A:Around} (r:Room (k+1) A) (env:Env):Room k (A.deeper env) :=
 ⟨r.hd,by have:=r.dp;show A.depth+1+3*k+5 < _;omega,by have:=r.un;show A.units+3+16*k+200 < _;omega,r.gd⟩
theorem Room.depth {k:Nat} {A:Around} (r:Room k A):A.depth < recursionLimit:=by have:=r.dp;omega
theorem Room.units {k:Nat} {A:Around} (r:Room k A):A.units+64 < cLine:=by have:=r.un;omega
def tNil:TA:=fun _ H Q=>Q [] H
def tCons (ta:TE) (tr:TA):TA:=fun σ H Q=>ta σ H fun x H1=>tr σ H1 fun xs H2=>Q (x::xs) H2
section
variable {X:Cx} {e:Expr} {es:List Expr} {te:TE} {t:TA} {pos:Pos}
theorem pa_nil:PA X [] tNil:=fun _ _ _ _ H Q I h=>Calls.spliced_nil ⟨[],H,I,.nil,h⟩
theorem pa_cons (ha:PE X e te) (hr:PA X es t) (hs:starEach (e::es) X.env=(false,eval e X.env)::starEach es X.env:=by rfl):PA X (e::es) (tCons te t):=by
 intro pos pins s σ H Q I h
 rw [hs]
 show wpAny _ _ (spliced ((false,eval e X.env)::backTo pos (starEach es X.env))) _ _ s
 refine Calls.spliced_cons (thn (ha pins s σ H _ I h) fun u s1 ⟨x,H1,I1,r1,q1⟩=>?_)
 exact thn (hr pos pins s1 σ H1 _ I1 q1) fun us s2 ⟨xs,H2,I2,r2,q2⟩=>⟨x::xs,H2,I2,.cons r1 r2,q2⟩
def tTup (t:TA):TE:=fun σ H Q=>t σ H fun xs H1=>xs.length<=sizeLine/\∀ p,H1 p=none->Q (.ref p) (upd H1 p (.tup xs))
def tLst (t:TA):TE:=fun σ H Q=>t σ H fun xs H1=>xs.length<=sizeLine/\∀ p,H1 p=none->Q (.ref p) (upd H1 p (.lst xs))
theorem pe_tup {x1} (h:PA X es t):PE X (.Tuple es x1 pos) (tTup t):=by
 intro pins s σ H Q I hq
 refine wpAny_Tuple_spliced (thn (h pos pins s σ H _ I hq) fun us s1 ⟨xs,H1,I1,r,z,q⟩=>⟨by rw [<-r.length];exact z,?_⟩)
 have hf:H1 s1.heap.objs.size=none:=I1.hok.fresh (Nat.le_refl _)
 refine ⟨.ref s1.heap.objs.size,upd H1 s1.heap.objs.size (.tup xs),I1.laid (t':=s1.toks) (fun b u e=>Heap.get?_push_of_some _ e) (Nat.le_refl _) ?_,rfl,q _ hf⟩
 exact ⟨z,us,r,⟨_,Heap.get?_push_size _ rfl,rfl,_,rfl⟩⟩
theorem pe_lst (h:PA X es t):PE X (.List es pos) (tLst t):=by
 intro pins s σ H Q I hq
 refine wpAny_List_spliced (thn (h pos pins s σ H _ I hq) fun us s1 ⟨xs,H1,I1,r,z,q⟩=>⟨by rw [<-r.length];exact z,?_⟩)
 have hf:H1 s1.heap.objs.size=none:=I1.hok.fresh (Nat.le_refl _)
 refine ⟨.ref s1.heap.objs.size,upd H1 s1.heap.objs.size (.lst xs),I1.laid (t':=s1.toks) (fun b u e=>Heap.get?_push_of_some _ e) (Nat.le_refl _) ?_,rfl,q _ hf⟩
 exact ⟨z,us,0,r,Heap.get?_push_size _ rfl⟩
end
abbrev Sp:=List V->Hp->VK->XK->Prop
abbrev CXT:=List Env->Hp->Shared->XK->Value->Shared->Prop
structure Env0 (P:Program) (w:World) (K:W.Frag) (mg:Str->Option Value) (base:Heap) (A:Around) (outer:List Env) (s:Shared) (H:Hp):Prop where
 frames:A.frames=some outer
 mod:Mod K mg base
 bs:∀ b o,base.get? b=some o->s.heap.get? b=some o/\H b=none
 bsz:base.objs.size<=s.heap.objs.size
 funs:s.heap.FunFrames base outer
 frf:∀ b∈frs outer,H b=none
 hok:HOk P w H s.heap
 bare:AllBare s.gens
def CE (outer:List Env) (P:Program) (w:World) (H:Hp) (s:Shared) (Q:VK) (u:Value) (s':Shared):Prop :=
 ∃ v H',s'.os=s.os/\AllBare s'.gens/\Un (frs outer) [] H H' s.heap s'.heap/\HOk P w H' s'.heap/\RelV v u/\Q v H'
def CR (CX:CXT) (outer:List Env) (P:Program) (w:World) (H:Hp) (s:Shared) (Q:VK) (E:XK) (r:Result) (s':Shared):Prop :=
 match r with
 | .ok (.ret u)=>CE outer P w H s Q u s'
 | .ok _=>False
 | .error e=>CX outer H s E e s'
structure FnOk (P:Program) (w:World) (K:W.Frag) (mg:Str->Option Value) (base:Heap) (CX:CXT) (k:Nat) (f:Addr) (fd:FuncData) (ps:List Str) (sp:Sp):Prop where
 len:∀ vs H Q E,sp vs H Q E->vs.length=ps.length
 run:∀ (A:Around) (outer:List Env) (s:Shared) (H:Hp) (args:Args) (us:List Value) (vs:List V) (Q:VK) (E:XK),Room k A->Env0 P w K mg base A outer s H->BindsTo s fd args (ps.zip us)->Vals vs us->sp vs H Q E ->
  codeAny (model P w) A (.call (.ref f) args) (CR CX outer P w H s Q E) s
theorem FnOk.imp {P:Program} {w:World} {K:W.Frag} {mg:Str->Option Value} {base:Heap} {CX:CXT} {k:Nat} {f:Addr} {fd:FuncData} {ps:List Str} {sp sp':Sp} (F:FnOk P w K mg base CX k f fd ps sp)
  (h:∀ vs H Q E,sp' vs H Q E->sp vs H Q E):FnOk P w K mg base CX k f fd ps sp' :=
 ⟨fun vs H Q E q=>F.len vs H Q E (h _ _ _ _ q),fun A outer s H args us vs Q E hr he hb hv hs=>F.run A outer s H args us vs Q E hr he hb hv (h _ _ _ _ hs)⟩
section
variable {X:Cx} {pins:List (Addr × Obj)} {σ:St} {H:Hp} {s s':Shared}
theorem Inv.env0 (I:Inv X pins σ H s):Env0 X.prog X.w X.K X.mg X.base X.A X.stack s H :=
 ⟨I.ok.frames,I.ok.mod,I.bs,Nat.le_trans I.ok.bsz I.sz,I.stack,I.stkFree,I.hok,I.bare⟩
theorem Inv.after {Q:VK} {u:Value} (I:Inv X pins σ H s) (h:CE X.stack X.prog X.w H s Q u s'):EP X pins σ Q u s':=by
 obtain ⟨v,H',os,bare,un,hok,r,q⟩:=h
 obtain ⟨hh,g,d,t,os'⟩:=s'
 obtain rfl:os'=s.os:=os
 exact ⟨v,H',I.call (h':=hh) (g':=g) (d':=d) (t':=t) (ch:=[]) un hok bare (fun b z=>absurd z (by simp)),r,q⟩
end
def tCall (sp:Sp) (dvs:List V) (E:XK) (t:TA):TE:=fun σ H Q=>t σ H fun vs H1=>sp (vs++dvs) H1 Q E
def Binds (K:W.Frag) (fd:FuncData) (ps:List Str) (ds:List Value):Prop :=
 ∀ (s:Shared) (us:List Value),K.In s.heap->(us++ds).length=ps.length->BindsTo s fd ⟨us,[]⟩ (ps.zip (us++ds))
theorem Binds.all {K:W.Frag} {fd:FuncData} {ps:List Str} (h:∀ us:List Value,us.length=ps.length->bindArgs fd ⟨us,[]⟩=pure (ps.zip us)):Binds K fd ps []:=fun s us _ hl=>by
 rw [append_nil] at hl ⊢
 exact .of_eq (h us hl)
def Passes (CX:CXT) (X:Cx) (E:XK):Prop:=∀ (pins:List (Addr × Obj)) (σ:St) (H:Hp) (s:Shared) (e:Value) (s':Shared),Inv X pins σ H s->CX X.stack H s E e s'->X.xe e s'
section
variable {X:Cx} {CX:CXT} {k:Nat} {f:Addr} {fd:FuncData} {ps:List Str} {sp:Sp} {dvs:List V} {ds:List Value} {E:XK} {x:Str} {p pos:Pos} {e:Expr} {es:List Expr} {t:TA}
theorem run_fn {pins:List (Addr × Obj)} {σ:St} {H:Hp} {s:Shared} {Q:VK} {us:List Value} {vs:List V} (F:FnOk X.prog X.w X.K X.mg X.base CX k f fd ps sp) (hr:Room k X.A) (hb:Binds X.K fd ps ds) (hd:Vals dvs ds) (hx:Passes CX X E)
  (I:Inv X pins σ H s) (r:Vals vs us) (h:sp (vs++dvs) H Q E):wpAny (model X.prog X.w) X.A (call (.ref f) us) (EP X pins σ Q) X.xe s:=by
 have r2:Vals (vs++dvs) (us++ds):=r.append hd
 have hl:(us++ds).length=ps.length:=by rw [<-r2.length];exact F.len _ _ _ _ h
 refine wpAny_call (codeAny_mono (F.run X.A X.stack s H ⟨us,[]⟩ (us++ds) (vs++dvs) Q E hr I.env0 (hb s us I.kIn hl) r2 h) fun r s' hq=>?_)
 cases r with
 | error e=>exact hx pins σ H s e s' I hq
 | ok fl =>
  cases fl with
  | ret u=>exact I.after hq
  | next=>exact False.elim hq
  | brk=>exact False.elim hq
  | cont=>exact False.elim hq
theorem pe_call (F:FnOk X.prog X.w X.K X.mg X.base CX k f fd ps sp) (hr:Room k X.A) (hg:Gl X x) (hm:X.mg x=some (.ref f)) (hk:PySem.W.keepIn X.K (.ref f)=true) (hb:Binds X.K fd ps ds) (hd:Vals dvs ds) (hx:Passes CX X E)
  (ha:PA X (e::es) t) (hdb:(x==("__debug__":Str))=false:=by decide) (he:starEach (e::es) X.env=(false,eval e X.env)::starEach es X.env:=by rfl) (hpl:(backTo pos (starEach es X.env)).any (·.1)=false:=by rfl) :
  PE X (.Call (.Name x p) (e::es) [] pos) (tCall sp dvs E t):=by
 intro pins s σ H Q I h
 refine wpAny_Call_Name_kw (ld_glob I hg hm ?_ hdb)
 refine PySem.W.callWith_K (h₀:=X.base) I.ok.mod.kin hk (thn (ha pos pins s σ H _ I h) fun us s1 ⟨vs,H1,I1,r,q⟩=>⟨I1.kIn,?_⟩) he hpl
 exact run_fn F hr hb hd hx I1 r q
end
structure FnScope (N P:List Str) (sc:Scope):Prop where
 kind:sc.kind=.function
 co:sc.isCoroutine=false
 gen:sc.isGenerator=false
 nd:N.Nodup
 pre:N.take P.length=P
 par:∀ x∈P,sc.names.lookup x=some .local\/sc.names.lookup x=some .cell
 nofree:∀ y∈sc.names,y.2≠.free
theorem bindL_out {kindOf:Str->Option NameKind} {x:Str}:∀ {binds:List (Str × Value)} {m:Str->Option Value},(∀ v,(x,v)∉binds)->bindL kindOf binds m x=m x
 | [],_,_=>rfl
 | (n,v)::r,m,h=>by
  unfold bindL
  rw [bindL_out fun w hw=>h w (mem_cons_of_mem _ hw)]
  split
  ·have:x≠n:=by rintro rfl;exact h v mem_cons_self
   simp [this]
  ·rfl
theorem bindC_out {kindOf:Str->Option NameKind} {x:Str}:∀ {binds:List (Str × Value)} {m:Str->Option Value},(∀ v,(x,v)∉binds)->bindC kindOf binds m x=m x
 | [],_,_=>rfl
 | (n,v)::r,m,h=>by
  unfold bindC
  rw [bindC_out fun w hw=>h w (mem_cons_of_mem _ hw)]
  split
  ·rfl
  ·have:x≠n:=by rintro rfl;exact h v mem_cons_self
   simp [this]
theorem bindL_get {kindOf:Str->Option NameKind} {x:Str} {v:Value}:∀ {P:List Str} {vs:List Value} {i:Nat} {m:Str->Option Value},P.Nodup->P[i]?=some x->vs[i]?=some v->kindOf x=some .local ->
  bindL kindOf (P.zip vs) m x=some v
 | [],_,_,_,_,h,_,_=>by simp at h
 | _::_,[],_,_,_,_,h,_=>by simp at h
 | p::P,w::vs,0,m,nd,h1,h2,hk=>by
  simp at h1 h2;subst h1;subst h2
  show bindL kindOf ((p,w)::P.zip vs) m p=_
  unfold bindL
  rw [bindL_out fun v hv=>(nodup_cons.mp nd).1 (List.of_mem_zip hv).1,if_pos hk]
  simp
 | p::P,w::vs,i+1,m,nd,h1,h2,hk=>by
  show bindL kindOf ((p,w)::P.zip vs) m x=_
  unfold bindL
  exact bindL_get (i:=i) (nodup_cons.mp nd).2 (by simpa using h1) (by simpa using h2) hk
theorem bindC_get {kindOf:Str->Option NameKind} {x:Str} {v:Value}:∀ {P:List Str} {vs:List Value} {i:Nat} {m:Str->Option Value},P.Nodup->P[i]?=some x->vs[i]?=some v->kindOf x≠some .local ->
  bindC kindOf (P.zip vs) m x=some v
 | [],_,_,_,_,h,_,_=>by simp at h
 | _::_,[],_,_,_,_,h,_=>by simp at h
 | p::P,w::vs,0,m,nd,h1,h2,hk=>by
  simp at h1 h2;subst h1;subst h2
  show bindC kindOf ((p,w)::P.zip vs) m p=_
  unfold bindC
  rw [bindC_out fun v hv=>(nodup_cons.mp nd).1 (List.of_mem_zip hv).1,if_neg hk]
  simp
 | p::P,w::vs,i+1,m,nd,h1,h2,hk=>by
  show bindC kindOf ((p,w)::P.zip vs) m x=_
  unfold bindC
  exact bindC_get (i:=i) (nodup_cons.mp nd).2 (by simpa using h1) (by simpa using h2) hk
def start (N:List Str) (vs:List V):St:=vs.map some++List.replicate (N.length - vs.length) none
def cxOf (CX:CXT) (P:Program) (w:World) (K:W.Frag) (mg:Str->Option Value) (base:Heap) (N:List Str) (qual:Str) (scope:Scope) (f:Addr) (cd:Value) (A:Around) (outer:List Env) (s:Shared) (H:Hp) (E:XK):Cx where
 prog:=P
 w:=w
 K:=K
 mg:=mg
 base:=base
 A:=A.deeper (envOfC qual scope s.heap.objs.size f cd)
 N:=N
 s₀:=s
 H₀:=H
 env:=envOfC qual scope s.heap.objs.size f cd
 outer:=outer
 stack:=envOfC qual scope s.heap.objs.size f cd::outer
 ex:=[]
 calm:=true
 fn:=fun _=>true
 pn:=[]
 xe:=fun e s'=>wpAny (model P w) (A.deeper (envOfC qual scope s.heap.objs.size f cd)) (leaving (envOfC qual scope s.heap.objs.size f cd) e) (fun _ s''=>CX outer H s E e s'') (fun e' s''=>CX outer H s E e' s'') s'
theorem cell_has {sc:Scope} {n:Nat} {x:Str} (h:sc.names.lookup x=some .cell):∃ c,(cellsFrom n sc.names []).lookup x=some c:=by
 have q:=PySem.W.cellsFrom_some sc.names n [] (.inl h)
 exact Option.isSome_iff_exists.mp q
theorem inv_start {CX:CXT} {P:Program} {w:World} {K:W.Frag} {mg:Str->Option Value} {base:Heap} {N ps:List Str} {qual:Str} {scope:Scope} {f:Addr} {cd:Value} {A:Around} {outer:List Env} {s s1:Shared} {H:Hp} {E:XK} {us:List Value} {vs:List V}
  (S:FnScope N ps scope) (hd:A.handled=none) (e0:Env0 P w K mg base A outer s H) (hl:vs.length=ps.length) (r:Vals vs us)
  (x:InCallC s s.heap.objs.size (bindL (envOfC qual scope s.heap.objs.size f cd).kindOf (ps.zip us) fun _=>none) (cellsFrom (s.heap.objs.size+1) scope.names []) (bindC (envOfC qual scope s.heap.objs.size f cd).kindOf (ps.zip us) fun _=>none) s1) :
  Inv (cxOf CX P w K mg base N qual scope f cd A outer s H E) [] (start N vs) H s1:=by
 have hpl:ps.length<=N.length:=by have:=congrArg List.length S.pre;rw [length_take] at this;omega
 obtain ⟨h1,tk,rfl,hk⟩:=x.done
 have noA:∀ b:Addr,b∉(cxOf CX P w K mg base N qual scope f cd A outer s H E).ex:=fun b z=>absurd (show b∈([]:List Addr) from z) (by simp)
 refine ⟨⟨e0.mod,S.kind,rfl,rfl,Nat.le_refl _,fun y z c h1 h2=>?_,fun y hy=>?_,fun y c _ h=>?_,fun _=>hd,Around.frames_deeper e0.frames,.inr ⟨rfl,rfl⟩,fun b z=>absurd z (noA b),e0.bs,e0.bsz,fun b _ _=>noA b,fun b z=>absurd z (noA b),e0.funs,e0.frf⟩,
  rfl,e0.bare,Un.kept hk,⟨_,x.toInCall.ns,fun i y v h1 h2 h3=>?_⟩,fun y c h=>⟨_,x.cell y c h⟩,e0.hok.fresh (Nat.le_refl _),fun y c h=>?_,fun p hp=>absurd (show p∈([]:List (Addr × Obj)) from hp) (by simp),e0.hok.kept hk,?_⟩
 ·exact name_of_addr x.apart (PySem.mem_of_lookup h1) (PySem.mem_of_lookup h2)
 ·have hy:scope.names.lookup y=some .cell\/scope.names.lookup y=some .free:=hy
  rcases hy with hy|hy
  ·exact cell_has hy
  ·exact absurd rfl (S.nofree _ (PySem.mem_of_lookup hy))
 ·exact Nat.le_of_lt (x.above y c (PySem.mem_of_lookup h))
 ·have hi:i < vs.length:=by
   unfold start at h2
   by_cases hi:i < vs.length
   ·exact hi
   ·rw [List.getElem?_append_right (by simpa using hi)] at h2
    rw [List.getElem?_replicate] at h2
    split at h2<;>cases h2
  have ha:vs[i]?=some v:=by
   unfold start at h2
   rw [List.getElem?_append_left (by simpa using hi),List.getElem?_map] at h2
   cases e:vs[i]? with
   | none=>rw [e] at h2;cases h2
   | some a=>rw [e] at h2;cases h2;rfl
  obtain ⟨u,hu,rv⟩:=r.get ha
  have hp:ps[i]?=some y:=by
   rw [<-S.pre,List.getElem?_take_of_lt (by omega)];exact h1
  have ndP:ps.Nodup:=by rw [<-S.pre];exact S.nd.sublist (List.take_sublist _ _)
  refine ⟨u,rv,?_⟩
  rcases S.par y (List.mem_of_getElem? hp) with k|k
  ·exact .inl ⟨k,bindL_get ndP hp hu k⟩
  ·obtain ⟨c,e⟩:=cell_has (n:=s.heap.objs.size+1) k
   refine .inr ⟨.inl k,c,e,?_⟩
   have q:=x.cell y c e
   rw [bindC_get ndP hp hu (by show scope.names.lookup y≠_;rw [k];decide)] at q
   exact q
 ·exact e0.hok.fresh (Nat.le_of_lt (x.above y c (PySem.mem_of_lookup h)))
 ·unfold start
  show _=N.length
  rw [length_append,length_map,List.length_replicate]
  omega
theorem fn_of {CX:CXT} {P:Program} {w:World} {K:W.Frag} {mg:Str->Option Value} {base:Heap} {k:Nat} {f:Addr} {name qual:Str} {params:Arguments} {body:List Stmt} {scope:Scope} {dV kV doc pm cdv ct oc:Value} {an od:Option Addr}
  {osl:Array (Option Value)} {N ps:List Str} {sp:Sp} (lk:K.lookup f=some ⟨oc,od,.func (PySem.W.fnOf name qual params body scope dV kV doc pm an cdv ct),osl⟩) (hcd:PySem.W.codeIn K cdv qual=true) (S:FnScope N ps scope)
  (len:∀ vs H Q E,sp vs H Q E->vs.length=ps.length)
  (hbody:∀ (A:Around) (outer:List Env) (s:Shared) (H:Hp) (vs:List V) (Q:VK) (E:XK),Room k (A.deeper (envOfC qual scope s.heap.objs.size f cdv))->sp vs H Q E ->
   ∃ t,PSs (cxOf CX P w K mg base N qual scope f cdv A outer s H E) body t/\t { nx:=fun _ H'=>Q .non H',rt:=Q } (start N vs) H) :
  FnOk P w K mg base CX (k+1) f (PySem.W.fnOf name qual params body scope dV kV doc pm an cdv ct) ps sp:=by
 refine ⟨len,fun A outer s H args us vs Q E hr e0 hb r hsp=>?_⟩
 have hl:=len _ _ _ _ hsp
 have KX:K.In s.heap:=e0.mod.kin.keeps fun b o e=>(e0.bs b o e).1
 have lim:s.heap.NoLimit:=e0.mod.nolimit.keeps fun b o e=>(e0.bs b o e).1
 have hkind:∀ y∈ps.zip us,scope.names.lookup y.1=some .local\/(scope.names.lookup y.1=some .cell/\((cellsFrom (s.heap.objs.size+1) scope.names []).lookup y.1).isSome=true):=fun ⟨n,v⟩ hy=>by
  rcases S.par n (List.of_mem_zip hy).1 with q|q
  ·exact .inl q
  ·exact .inr ⟨q,PySem.W.cellsFrom_some _ _ _ (.inl q)⟩
 refine codeAny_call_function hr.depth (KX _ _ lk) rfl S.co S.gen rfl (PySem.W.codeRec_of KX hcd) (hb _ _ _ _ ?_)
 refine wpAny_newFunctionEnv_cells S.kind hkind fun env he s1 x=>?_
 subst he
 refine ⟨lim.keeps x.toInCall.keep,codeAny_func ?_⟩
 obtain ⟨t,ht,hq⟩:=hbody A outer s H vs Q E (hr.deeper _) hsp
 have I:Inv (cxOf CX P w K mg base N qual scope f cdv A outer s H E) [] (start N vs) H s1:=inv_start S hr.hd e0 hl r x
 refine wpAny_mono (ht [] s1 (start N vs) H _ I hq) (fun fl s' hs=>?_) fun e s' hs=>hs
 have fin:∀ {σ':St} {H':Hp} {v:V} {u:Value},Inv (cxOf CX P w K mg base N qual scope f cdv A outer s H E) [] σ' H' s'->RelV v u->Q v H'->CE outer P w H s Q u s' :=
  fun {σ' H' v u} J rv q=>⟨v,H',J.os,J.bare,J.base,J.hok,rv,q⟩
 cases fl with
 | ret u =>
  obtain ⟨v,σ',H',J,rv,q⟩:=hs
  exact fin J rv q
 | next =>
  obtain ⟨σ',H',J,q⟩:=hs
  exact fin (v:=V.non) (u:=Value.none) J rfl q
 | brk =>
  obtain ⟨_,_,_,q⟩:=hs
  exact False.elim q
 | cont =>
  obtain ⟨_,_,_,q⟩:=hs
  exact False.elim q
section
variable {X:Cx} {x:Str} {p pos:Pos} {e:Expr} {es:List Expr} {t:TA} {id T:String} {r:List V->Hp->VK->Prop}
def tCB (r:List V->Hp->VK->Prop) (t:TA):TE:=fun σ H Q=>t σ H fun vs H1=>r vs H1 Q
theorem pe_callB (hc:CallR X (.builtin id) r) (hg:Gl X x) (hm:X.mg x=none) (hv:bootBuiltins x=some (.builtin id)) (ha:PA X (e::es) t) (hn:x≠"__name__":=by decide) (hdb:(x==("__debug__":Str))=false:=by decide)
  (he:starEach (e::es) X.env=(false,eval e X.env)::starEach es X.env:=by rfl) (hpl:(backTo pos (starEach es X.env)).any (·.1)=false:=by rfl):PE X (.Call (.Name x p) (e::es) [] pos) (tCB r t):=by
 intro pins s σ H Q I h
 refine wpAny_Call_Name_kw (ld_blt I hg hm hv ?_ hn hdb)
 exact PyProof.Rows.callWith_builtin1 (thn (ha pos pins s σ H _ I h) fun us s1 ⟨vs,H1,I1,r1,q1⟩=>hc pins s1 σ H1 vs us Q I1 r1 q1) he hpl
theorem pe_callTy (hc:CallR X (.type T) r) (hg:Gl X x) (hm:X.mg x=none) (hv:bootBuiltins x=some (.type T)) (ha:PA X (e::es) t) (hn:x≠"__name__":=by decide) (hdb:(x==("__debug__":Str))=false:=by decide)
  (he:starEach (e::es) X.env=(false,eval e X.env)::starEach es X.env:=by rfl) (hpl:(backTo pos (starEach es X.env)).any (·.1)=false:=by rfl):PE X (.Call (.Name x p) (e::es) [] pos) (tCB r t):=by
 intro pins s σ H Q I h
 refine wpAny_Call_Name_kw (ld_blt I hg hm hv ?_ hn hdb)
 exact PyProof.Rows.callWith_type1 (thn (ha pos pins s σ H _ I h) fun us s1 ⟨vs,H1,I1,r1,q1⟩=>hc pins s1 σ H1 vs us Q I1 r1 q1) he hpl
end
end L2
namespace HT
open PySem PyProof.Rows
section
open PySem.SeqAt
open PySem.AutoSeq1 (wpAny_loadPart')
open PySem.MeetsSeq PySem.MeetsSeq2 PySem.MeetsSeq3
end
section
variable {prog:Program} {w:World} {A:Around} {E:Value->Shared->Prop} {s:Shared}
def sIx (n d:Nat):Option Int->Nat
 | none=>d
 | some v=>if v < 0 then (v+(n:Int)).toNat else min v.toNat n
theorem sIx_le (n d:Nat) (hd:d<=n) (o:Option Int):sIx n d o<=n:=by
 cases o with
 | none=>exact hd
 | some v =>
  show (if v < 0 then (v+(n:Int)).toNat else min v.toNat n)<=n
  by_cases hv:v < 0
  ·rw [if_pos hv];omega
  ·rw [if_neg hv];exact Nat.min_le_right _ _
theorem clip_eq (v:Int) (n d:Nat):(if v < 0 then max (v+(n:Int)) 0 else min v (n:Int))=((sIx n d (some v):Nat):Int):=by
 show (if v < 0 then max (v+(n:Int)) 0 else min v (n:Int))=(((if v < 0 then (v+(n:Int)).toNat else min v.toNat n):Nat):Int)
 by_cases hv:v < 0
 ·simp only [if_pos hv];omega
 ·simp only [if_neg hv];omega
theorem adjust_gen (lo hi:Option Int) (n:Nat):Builtin.Slice.sliceAdjust lo hi 1 (n:Int)=(((sIx n 0 lo:Nat):Int),((sIx n n hi:Nat):Int)):=by
 have h1:¬ ((1:Int) < 0):=by omega
 unfold Builtin.Slice.sliceAdjust
 simp only [h1,if_false]
 refine Prod.ext ?_ ?_
 ·cases lo with
  | none=>rfl
  | some v=>exact clip_eq v n 0
 ·cases hi with
  | none=>rfl
  | some v=>exact clip_eq v n n
theorem places_gen (i j:Nat):Builtin.Slice.slicePlaces (i:Int) (j:Int) 1=j - i:=by
 unfold Builtin.Slice.slicePlaces
 have h1:(1:Int) > 0:=by omega
 simp only [h1,if_true,Int.ediv_one]
 split<;>omega
theorem slicePart_ {v:Value} {o:Option Int} {Q:Option Int->Shared->Prop} (p:IsPart v o) (h:Q o s):wpAny (model prog w) A (Builtin.Slice.slicePartIndex v) Q E s:=by
 cases p with
 | none=>exact slicePart_none h
 | int i t=>exact slicePart_int h
theorem sliceApplied_gen {sl:Addr} {vl vu:Value} {lo hi:Option Int} {n:Nat} {Q:Int × Int × Nat->Shared->Prop} (hs:s.heap.IsSliceOf sl vl vu .none) (pl:IsPart vl lo) (pu:IsPart vu hi)
  (h:Q (((sIx n 0 lo:Nat):Int),1,sIx n n hi - sIx n 0 lo) s):wpAny (model prog w) A (Builtin.Slice.sliceApplied (.ref sl) (pure (n:Int))) Q E s:=by
 obtain ⟨os,hos,hcs,hds⟩:=id hs
 unfold Builtin.Slice.sliceApplied Builtin.Slice.sliceFields
 refine wpAny_bind (wpAny_bind (wpAny_field hos hds (x:=vl) rfl (wpAny_bind (wpAny_field hos hds (x:=vu) rfl (wpAny_bind (wpAny_field hos hds (x:=.none) rfl (wpAny_pure ?_)))))))
 refine wpAny_bind (slicePart_none ?_)
 show wpAny _ _ (if ((1:Int)==0)=true then _ else _) _ _ s
 rw [if_neg (by decide)]
 refine wpAny_bind (slicePart_ pl (wpAny_bind (slicePart_ pu (wpAny_bind (wpAny_pure ?_)))))
 show wpAny _ _ (match Builtin.Slice.sliceAdjust lo hi 1 (n:Int) with|(lo,hi)=>pure (lo,(1:Int),Builtin.Slice.slicePlaces lo hi 1)) _ _ s
 rw [adjust_gen lo hi n]
 show wpAny _ _ (pure (((sIx n 0 lo:Nat):Int),(1:Int),Builtin.Slice.slicePlaces ((sIx n 0 lo:Nat):Int) ((sIx n n hi:Nat):Int) 1)) _ _ s
 rw [places_gen]
 exact wpAny_pure h
theorem pick_gen (xs:Array Value) (i k:Nat):((List.range k).filterMap fun (m:Nat)=>xs[((i:Int)+(m:Int)*1).toNat]?).toArray=((xs.toList.drop i).take k).toArray:=by
 have e:(fun (m:Nat)=>xs[((i:Int)+(m:Int)*1).toNat]?)=fun m=>xs[i+m]?:=by
  funext m
  have:((i:Int)+(m:Int)*1).toNat=i+m:=by omega
  rw [this]
 rw [e]
 have:=pick_run xs i k
 rw [List.filterMap_map] at this
 have e2:((fun x=>xs[x]?) ∘ fun x=>i+x)=fun m=>xs[i+m]?:=rfl
 rw [e2] at this
 rw [this]
theorem getItem_tuple_cut {t sl:Addr} {items:Array Value} {vl vu:Value} {lo hi:Option Int} {Q:Value->Shared->Prop} (ht:IsTup s.heap t items) (hs:s.heap.IsSliceOf sl vl vu .none) (pl:IsPart vl lo) (pu:IsPart vu hi)
  (hw:¬ (sIx items.size 0 lo=0/\sIx items.size items.size hi=items.size))
  (h:Q (.ref s.heap.objs.size) { s with heap:=s.heap.push { cls:=.type "tuple",data:=.seq ((items.toList.drop (sIx items.size 0 lo)).take (sIx items.size items.size hi - sIx items.size 0 lo)).toArray } })
  (hsz:items.size<=sizeLine):wpAny (model prog w) A (getItem (.ref t) (.ref sl)) Q E s:=by
 have htake:sizeOk (.seq ((items.toList.drop (sIx items.size 0 lo)).take (sIx items.size items.size hi - sIx items.size 0 lo)).toArray):=by
  show ((items.toList.drop (sIx items.size 0 lo)).take (sIx items.size items.size hi - sIx items.size 0 lo)).toArray.size<=sizeLine
  rw [size_toArray,length_take,length_drop,Array.length_toList]
  omega
 have hj:sIx items.size items.size hi<=items.size:=sIx_le _ _ (Nat.le_refl _) hi
 obtain ⟨os,hos,hcs,hds⟩:=id hs
 have hTs:s.TypeIs (.ref sl) "slice":=⟨os,hos,hcs⟩
 unfold getItem
 try with_reducible refine wpAny_holding ?_
 first|refine wpAny_bind (wpAny_pure ?_)|skip
 refine wpAny_bind (wpAny_sequenceKey ht.typeIs (by decide) ?_)
 refine wpAny_bind (wpAny_callSpecial?_slot (name:=Str.ofString "__getitem__") ht.typeIs PyProof.Rows.slot_tuple_getitem
  (wpAny_call_entry PyProof.Rows.slot_tuple_getitem ht.typeIs entry_tuple_getitem ?_ (args_tuple_getitem _ _)))
 show wpAny _ _ (Builtin.Tuple.tupleItemsOf (.ref t) >>= _) _ _ s
 refine wpAny_bind (tupleItemsOf_ ht ?_)
 refine wpAny_bind (wpAny_typeOf hTs ?_)
 rw [if_pos (by decide)]
 refine wpAny_bind (sliceApplied_gen hs pl pu ?_)
 have hno:¬ ((((sIx items.size 0 lo:Nat):Int)==0&&(1:Int)==1&&(sIx items.size items.size hi - sIx items.size 0 lo)==items.size)=true):=by
  intro q
  rw [Bool.and_eq_true,Bool.and_eq_true] at q
  have q1:((sIx items.size 0 lo:Nat):Int)=0:=eq_of_beq q.1.1
  have q2:sIx items.size items.size hi - sIx items.size 0 lo=items.size:=eq_of_beq q.2
  exact hw ⟨by omega,by omega⟩
 show wpAny _ _ (if (((sIx items.size 0 lo:Nat):Int)==0&&(1:Int)==1&&(sIx items.size items.size hi - sIx items.size 0 lo)==items.size)=true then _ else _) _ _ s
 rw [if_neg hno,pick_gen]
 first
  | exact wpAny_bind (m:=Builtin.Tuple.tupleExact _) (wpAny_newObj_type (wpAny_pure ⟨_,rfl,wpAny_pure h⟩) htake)
  | exact wpAny_bind (m:=Builtin.Tuple.tupleExact _) (wpAny_newObj_type (wpAny_bind (wpAny_pure (wpAny_pure ⟨_,rfl,wpAny_pure h⟩))) htake)
  | exact wpAny_bind (wpAny_bind (m:=Builtin.Tuple.tupleExact _) (wpAny_newObj_type (wpAny_pure (wpAny_pure ⟨_,rfl,wpAny_pure h⟩)) htake))
  | exact wpAny_bind (wpAny_bind (m:=Builtin.Tuple.tupleExact _) (wpAny_newObj_type (wpAny_pure ⟨_,rfl,wpAny_pure h⟩) htake))
end
end HT
namespace L2
open PySem PySem.Spec PyProof.Rows
abbrev TO:=St->Hp->(Option Int->Hp->Prop)->Prop
def PO (X:Cx) (e:Option Expr) (t:TO):Prop :=
 ∀ (pins:List (Addr × Obj)) (s:Shared) (σ:St) (H:Hp) (Q:Option Int->Hp->Prop),Inv X pins σ H s->t σ H Q ->
  wpAny (model X.prog X.w) X.A (evalPart e X.env) (fun u s'=>∃ o H',Inv X pins σ H' s'/\IsPart u o/\Q o H') X.xe s
def tNoPart:TO:=fun _ H Q=>Q none H
def tPart (t:TE):TO:=fun σ H Q=>t σ H fun x H1=>∃ i,x=.int i/\Q (some i) H1
theorem intsAre_of {ns:List Int}:∀ {us:List Value},Vals (ns.map V.int) us->IntsAre us ns:=by
 induction ns with
 | nil=>intro us r;rw [List.map_nil] at r;cases r;exact .nil
 | cons n ns ih =>
  intro us r
  rw [map_cons] at r
  cases r with
  | cons r1 r2 =>
   obtain ⟨t,e⟩:=r1
   subst e
   exact .cons n t (ih r2)
section
variable {X:Cx} {e:Expr} {te:TE} {lo hi:Option Expr} {tl th:TO} {pos p2:Pos}
theorem po_none:PO X none tNoPart:=by
 intro pins s σ H Q I h
 rw [evalPart_none]
 exact wpAny_pure ⟨none,H,I,.none,h⟩
theorem po_some (h:PE X e te):PO X (some e) (tPart te):=by
 intro pins s σ H Q I hw
 rw [evalPart_some]
 refine thn (h pins s σ H _ I hw) fun u s1 ⟨x,H1,I1,r1,q1⟩=>?_
 obtain ⟨i,rfl,q⟩:=q1
 obtain ⟨t,rfl⟩:=r1
 exact ⟨some i,H1,I1,.int i t,q⟩
def SlR (X:Cx) (r:V->Option Int->Option Int->Hp->VK->Prop):Prop :=
 ∀ (pins:List (Addr × Obj)) (s:Shared) (σ:St) (H:Hp) (x:V) (v vl vu:Value) (lo hi:Option Int) (sl:Addr) (Q:VK),Inv X pins σ H s->RelV x v->s.heap.IsSliceOf sl vl vu .none->IsPart vl lo->IsPart vu hi->r x lo hi H Q ->
  ∃ T id,typeLookup (.type T) "__getitem__"=pure (some (.builtin id))/\s.TypeIs v T/\wpAny (model X.prog X.w) X.A (getItem v (.ref sl)) (EP X pins σ Q) X.xe s
theorem SlR.or {r r':V->Option Int->Option Int->Hp->VK->Prop} (h:SlR X r) (h':SlR X r'):SlR X (fun x lo hi H Q=>r x lo hi H Q\/r' x lo hi H Q):=by
 intro pins s σ H x v vl vu lo hi sl Q I rx hs pl pu q
 rcases q with q|q
 ·exact h pins s σ H x v vl vu lo hi sl Q I rx hs pl pu q
 ·exact h' pins s σ H x v vl vu lo hi sl Q I rx hs pl pu q
def tSl (r:V->Option Int->Option Int->Hp->VK->Prop) (te:TE) (tl th:TO):TE:=fun σ H Q=>te σ H fun x H1=>tl σ H1 fun l H2=>th σ H2 fun u H3=>r x l u H3 Q
theorem pe_slice {r:V->Option Int->Option Int->Hp->VK->Prop} (hr:SlR X r) (he:PE X e te) (hl:PO X lo tl) (hu:PO X hi th):PE X (.Subscript e (.Slice lo hi none p2) pos) (tSl r te tl th):=by
 intro pins s σ H Q I h
 refine Subscript_ (thn (he pins s σ H _ I h) fun v s1 ⟨x,H1,I1,r1,q1⟩=>?_)
 refine wpAny_Slice (thn (hl pins s1 σ H1 _ I1 q1) fun vl s2 ⟨l,H2,I2,pl,q2⟩=>thn (hu pins s2 σ H2 _ I2 q2) fun vu s3 ⟨u,H3,I3,pu,q3⟩=>?_)
 rw [evalPart_none]
 refine wpAny_pure ?_
 have I4:Inv X pins σ H3 { s3 with heap:=s3.heap.push { cls:=.type "slice",data:=.fields #[vl,vu,.none] } }:=I3.kept (t':=s3.toks) fun b ob q=>Heap.get?_push_of_some _ q
 obtain ⟨T,id,hT,ht,hg⟩:=hr pins { s3 with heap:=s3.heap.push { cls:=.type "slice",data:=.fields #[vl,vu,.none] } } σ H3 x v vl vu l u s3.heap.objs.size Q I4 r1 (Heap.IsSliceOf.new ..) pl pu q3
 show wpAny (model X.prog X.w) X.A (subscriptTail e (.Slice lo hi none p2) v (.ref s3.heap.objs.size)) (EP X pins σ Q) X.xe { s3 with heap:=s3.heap.push { cls:=.type "slice",data:=.fields #[vl,vu,.none] } }
 exact tail_any (ops:=[.ref s3.heap.objs.size,v]) ht hT hg (by with_unfolding_all rfl)
def cutV (xs:List V) (lo hi:Option Int):List V:=(xs.drop (HT.sIx xs.length 0 lo)).take (HT.sIx xs.length xs.length hi - HT.sIx xs.length 0 lo)
theorem cutV_length (xs:List V) (lo hi:Option Int):(cutV xs lo hi).length<=xs.length:=by
 unfold cutV
 rw [length_take,length_drop]
 omega
def rSlT (K:W.Frag):V->Option Int->Option Int->Hp->VK->Prop:=fun x lo hi H Q=>∃ a xs,x=.ref a/\SqT K H a xs /\
 ¬ (HT.sIx xs.length 0 lo=0/\HT.sIx xs.length xs.length hi=xs.length)/\∀ p,H p=none->Q (.ref p) (upd H p (.tup (cutV xs lo hi)))
theorem sl_tup:SlR X (rSlT X.K):=by
 intro pins s σ H x v vl vu lo hi sl Q I rx hs pl pu h
 obtain ⟨a,xs,rfl,hx,hw,q⟩:=h
 cases rx
 obtain ⟨its,r,ht,hz⟩:=I.tuple hx
 have hlen:its.toArray.size=xs.length:=by rw [size_toArray];exact r.length.symm
 refine ⟨"tuple",_,PyProof.Rows.slot_tuple_getitem.lookup,ht.typeIs,?_⟩
 refine HT.getItem_tuple_cut ht hs pl pu (by rw [hlen];exact hw) ?_ (by rw [hlen];exact hz)
 rw [hlen]
 refine ⟨.ref s.heap.objs.size,_,I.laid (t':=s.toks) (o:=.tup (cutV xs lo hi)) (fun b ob q=>Heap.get?_push_of_some _ q) (Nat.le_refl _) ?_,rfl,q _ (I.hok.fresh (Nat.le_refl _))⟩
 exact ⟨Nat.le_trans (cutV_length xs lo hi) hz,_,(r.drop (HT.sIx xs.length 0 lo)).take (HT.sIx xs.length xs.length hi - HT.sIx xs.length 0 lo),IsTup.new _ _⟩
end
def ixN (n:Nat) (i:Int):Option Nat:=if 0<=i then (if i < n then some i.toNat else none) else if -(n:Int)<=i then some (i+n).toNat else none
def atI {α:Type} (xs:List α) (i:Int):Option α:=(ixN xs.length i).bind fun j=>xs[j]?
theorem ixN_seq {n:Nat} {i:Int} {j:Nat} (h:ixN n i=some j):seqIndex? i n=some j/\j < n/\-(n:Int)<=i/\i < n:=by
 unfold ixN at h
 by_cases h0:0<=i
 ·rw [if_pos h0] at h
  by_cases h1:i < n
  ·rw [if_pos h1] at h
   have e:i.toNat=j:=Option.some.inj h
   exact ⟨by rw [seqIndex_of h0 h1,e],by omega,by omega,h1⟩
  ·rw [if_neg h1] at h;cases h
 ·rw [if_neg h0] at h
  by_cases h1:-(n:Int)<=i
  ·rw [if_pos h1] at h
   have e:(i+n).toNat=j:=Option.some.inj h
   exact ⟨by rw [seqIndex_neg (by omega) h1,e],by omega,h1,by omega⟩
  ·rw [if_neg h1] at h;cases h
theorem atI_get {α:Type} {xs:List α} {i:Int} {v:α} (h:atI xs i=some v):∃ j,seqIndex? i xs.length=some j/\xs[j]?=some v/\j < xs.length/\-(xs.length:Int)<=i/\i < xs.length:=by
 unfold atI at h
 cases e:ixN xs.length i with
 | none=>rw [e] at h;cases h
 | some j =>
  rw [e] at h
  obtain ⟨h1,h2,h3,h4⟩:=ixN_seq e
  exact ⟨j,h1,h,h2,h3,h4⟩
theorem atI_nat {α:Type} {xs:List α} {j:Nat} {v:α} (h:xs[j]?=some v):atI xs (j:Int)=some v:=by
 have hj:j < xs.length:=(List.getElem?_eq_some_iff.mp h).1
 have e:ixN xs.length (j:Int)=some j:=by
  unfold ixN
  rw [if_pos (by omega),if_pos (by omega)];simp
 unfold atI;rw [e];exact h
def PlainIx (b:Expr):Prop:=∀ o i,subscripted b false o i=operate [o,i] (getItem o i)
def IxR (X:Cx) (r:R2):Prop :=
 ∀ (value slice:Expr) (pins:List (Addr × Obj)) (s:Shared) (σ:St) (H:Hp) (x y:V) (v u:Value) (Q:VK),Inv X pins σ H s->RelV x v->RelV y u->r x y H Q ->
  subscripted slice false v u=operate [v,u] (getItem v u)->wpAny (model X.prog X.w) X.A (subscriptTail value slice v u) (EP X pins σ Q) X.xe s
def MtR (X:Cx) (id:String) (r:V->List V->Hp->VK->Prop):Prop :=
 ∀ (pins:List (Addr × Obj)) (s:Shared) (σ:St) (H:Hp) (x:V) (xs:List V) (v:Value) (us:List Value) (Q:VK),Inv X pins σ H s->RelV x v->Vals xs us->r x xs H Q ->
  wpAny (model X.prog X.w) X.A (call (.builtin id) (v::us)) (EP X pins σ Q) X.xe s
section
variable {X:Cx} {a b:Expr} {ta tb:TE} {pos:Pos}
theorem IxR.or {r r':R2} (h:IxR X r) (h':IxR X r'):IxR X (fun x y H Q=>r x y H Q\/r' x y H Q):=by
 intro value slice pins s σ H x y v u Q I rx ry q hs
 rcases q with q|q
 ·exact h value slice pins s σ H x y v u Q I rx ry q hs
 ·exact h' value slice pins s σ H x y v u Q I rx ry q hs
theorem pe_ix {r:R2} (hr:IxR X r) (ha:PE X a ta) (hb:PE X b tb) (hs:PlainIx b):PE X (.Subscript a b pos) (tOp r ta tb):=by
 intro pins s σ H Q I h
 exact Subscript_ (binT ha hb I h fun v u s2 x y H2 I2 rx ry q=>hr a b pins s2 σ H2 x y v u Q I2 rx ry q (hs _ _))
def rIxL (K:W.Frag):R2:=fun x y H Q=>∃ p xs i v,x=.ref p/\y=.int i/\SqL K H p xs/\atI xs i=some v/\Q v H
def rIxT (K:W.Frag):R2:=fun x y H Q=>∃ p xs i v,x=.ref p/\y=.int i/\SqT K H p xs/\atI xs i=some v/\Q v H
def rIxS:R2:=fun x y H Q=>∃ z i c,x=.str z/\y=.int i/\z.length<=sizeLine/\atI z.cps.toList i=some c/\Q (.str ⟨#[c]⟩) H
theorem ix_list:IxR X (rIxL X.K):=by
 intro value slice pins s σ H x y v u Q I rx ry h hs
 obtain ⟨p,xs,i,z,rfl,rfl,hq,he,q⟩:=h
 cases rx
 obtain ⟨t,rfl⟩:=ry
 obtain ⟨its,r,pl,hz⟩:=I.list hq
 obtain ⟨j,h1,h2,h3,h4,h5⟩:=atI_get he
 obtain ⟨w,ew,rw'⟩:=r.get h2
 have hl:=r.length
 have hn:=line63
 have fin:EP X pins σ Q w s:=⟨z,H,I,rw',q⟩
 by_cases h0:0<=i
 ·have hj:i.toNat=j:=by
   rw [seqIndex_of h0 h5] at h1
   exact Option.some.inj h1
  exact item_listR pl.isList h0 (by omega) (by rw [hj];simpa using ew) fin hs
 ·have hj:(i+(its.toArray.size:Int)).toNat=j:=by
   rw [seqIndex_neg (by omega) h4] at h1
   rw [size_toArray,<-hl]
   exact Option.some.inj h1
  exact subscriptTail_builtinR (x:=w) pl.isList.typeIs slot_list_getitem.lookup
   (wpAny_getItem_list_neg (Q:=fun r s'=>r=w/\EP X pins σ Q r s') pl.isList (by omega) (by rw [size_toArray]<;>omega) (by omega) (by rw [hj];simpa using ew) ⟨rfl,fin⟩) hs
theorem ix_tup:IxR X (rIxT X.K):=by
 intro value slice pins s σ H x y v u Q I rx ry h hs
 obtain ⟨p,xs,i,z,rfl,rfl,hq,he,q⟩:=h
 cases rx
 obtain ⟨t,rfl⟩:=ry
 obtain ⟨its,r,pl,hz⟩:=I.tuple hq
 obtain ⟨j,h1,h2,h3,h4,h5⟩:=atI_get he
 obtain ⟨w,ew,rw'⟩:=r.get h2
 have hl:=r.length
 have hn:=line63
 have fin:EP X pins σ Q w s:=⟨z,H,I,rw',q⟩
 exact subscriptTail_builtinR (x:=w) pl.typeIs slot_tuple_getitem.lookup
  (getItem_tuple (j:=j) (Q:=fun r s'=>r=w/\EP X pins σ Q r s') pl (by omega) (by omega) (by rw [size_toArray,<-hl];exact h1) (by simpa using ew) ⟨rfl,fin⟩) hs
theorem ix_str:IxR X rIxS:=by
 intro value slice pins s σ H x y v u Q I rx ry h hs
 obtain ⟨z,i,c,rfl,rfl,hz,he,q⟩:=h
 obtain ⟨t,rfl⟩:=rx
 obtain ⟨t',rfl⟩:=ry
 obtain ⟨j,h1,h2,h3,h4,h5⟩:=atI_get he
 have hl:z.cps.toList.length=z.length:=by simp [Str.length]
 rw [hl] at h1 h4 h5
 have hn:=line63
 exact tail_any (typeIs_str s z t) slot_str_getitem.lookup (getItem_str (c:=c) (by
  have e1:decide (i < -(2 ^ 63:Int))=false:=decide_eq_false (by omega)
  have e2:decide (i ≥ 2 ^ 63)=false:=decide_eq_false (by omega)
  rw [e1,e2,Bool.or_false]) (by rw [h1];simpa using h2) ⟨.str ⟨#[c]⟩,H,I.tok _,⟨_,rfl⟩,q⟩) hs
def rIx (K:W.Frag):R2:=fun x y H Q=>rIxL K x y H Q\/rIxT K x y H Q\/rIxS x y H Q
theorem ix_seq:IxR X (rIx X.K):=ix_list.or (ix_tup.or ix_str)
theorem slice_bounds (lo hi:Option Int) (n:Nat):(sliceBounds lo hi none n).1=((HT.sIx n 0 lo:Nat):Int)/\(sliceBounds lo hi none n).2.1=((HT.sIx n n hi:Nat):Int)/\(sliceBounds lo hi none n).2.2=1:=by
 refine ⟨?_,?_,rfl⟩
 ·cases lo with
  | none=>simp [sliceBounds,HT.sIx]
  | some i =>
   simp only [sliceBounds,HT.sIx,Option.getD_none,show (1:Int) > 0 by decide,if_true]
   by_cases h:i < 0
   ·simp only [h,if_true]<;>omega
   ·simp only [h,if_false]<;>omega
 ·cases hi with
  | none=>simp [sliceBounds,HT.sIx]
  | some i =>
   simp only [sliceBounds,HT.sIx,Option.getD_none,show (1:Int) > 0 by decide,if_true]
   by_cases h:i < 0
   ·simp only [h,if_true]<;>omega
   ·simp only [h,if_false]<;>omega
theorem slicePick_cut (its:List Value) (lo hi:Option Int):slicePick its.toArray lo hi none=((its.drop (HT.sIx its.length 0 lo)).take (HT.sIx its.length its.length hi - HT.sIx its.length 0 lo)).toArray:=by
 obtain ⟨h1,h2,h3⟩:=slice_bounds lo hi its.toArray.size
 unfold slicePick
 rw [h1,h2,h3]
 simp only [sliceRange_one,pick_run,size_toArray]<;>rfl
def rSlL (K:W.Frag):V->Option Int->Option Int->Hp->VK->Prop:=fun x lo hi H Q=>∃ a xs,x=.ref a/\SqL K H a xs/\∀ p,H p=none->Q (.ref p) (upd H p (.lst (cutV xs lo hi)))
theorem sl_list:SlR X (rSlL X.K):=by
 intro pins s σ H x v vl vu lo hi sl Q I rx hs pl pu h
 obtain ⟨a,xs,rfl,hx,q⟩:=h
 cases rx
 obtain ⟨its,r,ht,hz⟩:=I.list hx
 have hlen:=r.length
 refine ⟨"list",_,slot_list_getitem.lookup,ht.isList.typeIs,?_⟩
 refine wpAny_getItem_list_slice ht.isList hs pl pu .none (by simp) ?_ (by rw [size_toArray]<;>omega)
 rw [slicePick_cut,<-hlen]
 refine ⟨.ref s.heap.objs.size,_,I.laid (t':=s.toks) (o:=.lst (cutV xs lo hi)) (fun b ob q=>Heap.get?_push_of_some _ q) (Nat.le_refl _) ?_,rfl,q _ (I.hok.fresh (Nat.le_refl _))⟩
 exact ⟨Nat.le_trans (cutV_length xs lo hi) hz,_,0,(r.drop (HT.sIx xs.length 0 lo)).take (HT.sIx xs.length xs.length hi - HT.sIx xs.length 0 lo),Heap.get?_push_size _ rfl⟩
def flatV:V->Bool
 | .non=>true
 | .bl _=>true
 | .int _=>true
 | .str _=>true
 | _=>false
def eqV:V->V->Bool
 | .non,.non=>true
 | .bl a,.bl b=>a==b
 | .bl a,.int b=>(if a then 1 else 0)==b
 | .int a,.bl b=>a==(if b then 1 else 0)
 | .int a,.int b=>a==b
 | .str a,.str b=>a==b
 | _,_=>false
theorem eqAt_V {A:Around} {s:Shared} {y x:V} {u v:Value} (ry:RelV y u) (rx:RelV x v) (fy:flatV y=true) (fx:flatV x=true):SeqAt.EqAt A s u v (eqV y x):=by
 cases y with
 | non =>
  cases ry
  cases x with
  | non=>cases rx;exact SeqAt.EqAt.same _
  | bl b=>cases rx;exact SeqAt.EqAt.none_bool b
  | int b=>obtain ⟨t,rfl⟩:=rx;exact SeqAt.EqAt.none_int b t
  | str b=>obtain ⟨t,rfl⟩:=rx;exact SeqAt.EqAt.none_str b t
  | _=>exact absurd (show false=true from fx) Bool.false_ne_true
 | bl a =>
  cases ry
  cases x with
  | non=>cases rx;exact SeqAt.EqAt.bool_none a
  | bl b=>cases rx;exact SeqAt.EqAt.bool_bool a b
  | int b=>obtain ⟨t,rfl⟩:=rx;exact SeqAt.EqAt.bool_int a b t
  | str b=>obtain ⟨t,rfl⟩:=rx;exact SeqAt.EqAt.bool_str a b t
  | _=>exact absurd (show false=true from fx) Bool.false_ne_true
 | int a =>
  obtain ⟨t',rfl⟩:=ry
  cases x with
  | non=>cases rx;exact SeqAt.EqAt.int_none a t'
  | bl b=>cases rx;exact SeqAt.EqAt.int_bool a t' b
  | int b=>obtain ⟨t,rfl⟩:=rx;exact SeqAt.EqAt.int_int a t' b t
  | str b=>obtain ⟨t,rfl⟩:=rx;exact SeqAt.EqAt.int_str a t' b t
  | _=>exact absurd (show false=true from fx) Bool.false_ne_true
 | str a =>
  obtain ⟨t',rfl⟩:=ry
  cases x with
  | non=>cases rx;exact SeqAt.EqAt.str_none a t'
  | bl b=>cases rx;exact SeqAt.EqAt.str_bool a t' b
  | int b=>obtain ⟨t,rfl⟩:=rx;exact SeqAt.EqAt.str_int a t' b t
  | str b=>obtain ⟨t,rfl⟩:=rx;exact SeqAt.EqAt.str_str a t' b t
  | _=>exact absurd (show false=true from fx) Bool.false_ne_true
 | _=>exact absurd (show false=true from fy) Bool.false_ne_true
def eqU (x:V) (u:Value):Bool:=match u with
 | .none=>eqV .non x
 | .bool b=>eqV (.bl b) x
 | .int i _=>eqV (.int i) x
 | .str z _=>eqV (.str z) x
 | _=>false
theorem eqU_of {x y:V} {u:Value} (r:RelV y u) (f:flatV y=true):eqU x u=eqV y x:=by
 cases y with
 | non=>cases r;rfl
 | bl b=>cases r;rfl
 | int i=>obtain ⟨t,rfl⟩:=r;rfl
 | str z=>obtain ⟨t,rfl⟩:=r;rfl
 | _=>exact absurd (show false=true from f) Bool.false_ne_true
theorem any_eqU {x:V}:∀ {xs:List V} {us:List Value},Vals xs us->xs.all flatV=true->us.any (eqU x)=xs.any fun y=>eqV y x
 | _,_,.nil,_=>rfl
 | y::xs,u::us,.cons r t,f=>by
  rw [all_cons,Bool.and_eq_true] at f
  rw [any_cons,any_cons,eqU_of r f.1,any_eqU t f.2]
theorem mem_eqAt {A:Around} {s:Shared} {x:V} {v:Value} (rx:RelV x v) (fx:flatV x=true):∀ {xs:List V} {us:List Value},Vals xs us->xs.all flatV=true->∀ u∈us,SeqAt.EqAt A s u v (eqU x u)
 | _,_,.nil,_=>fun u hu=>by cases hu
 | y::xs,u::us,.cons r t,f=>fun u' hu=>by
  rw [all_cons,Bool.and_eq_true] at f
  rcases mem_cons.mp hu with rfl|hu
  ·rw [eqU_of r f.1];exact eqAt_V r rx f.1 fx
  ·exact mem_eqAt rx fx t f.2 u' hu
def inV (x:V) (xs:List V):Bool:=xs.any fun y=>eqV y x
def rIn (K:W.Frag) (neg:Bool):R2:=fun x y H Q=>∃ p xs,y=.ref p/\(SqL K H p xs\/SqT K H p xs)/\flatV x=true/\xs.all flatV=true/\Q (.bl (if neg then !inV x xs else inV x xs)) H
theorem op_in_seq:OpR X (compareOp .In) (rIn X.K false):=by
 intro pins s σ H x y v u Q I rx ry h
 obtain ⟨p,xs,rfl,hq,fx,fs,q⟩:=h
 cases ry
 rcases hq with hq|hq
 ·obtain ⟨its,r,pl,hz⟩:=I.list hq
  refine SeqAt.in_listAt (eqU x) pl.isList (fun w hw=>mem_eqAt rx fx r fs w (by simpa using hw)) ⟨.bl _,H,I,rfl,?_⟩
  rw [show its.toArray.any (eqU x)=its.any (eqU x) by simp,any_eqU r fs]
  exact q
 ·obtain ⟨its,r,pl,hz⟩:=I.tuple hq
  refine SeqAt.in_tupleAt (eqU x) pl (fun w hw=>mem_eqAt rx fx r fs w (by simpa using hw)) ⟨.bl _,H,I,rfl,?_⟩
  rw [show its.toArray.any (eqU x)=its.any (eqU x) by simp,any_eqU r fs]
  exact q
theorem op_notIn_seq:OpR X (compareOp .NotIn) (rIn X.K true):=by
 intro pins s σ H x y v u Q I rx ry h
 obtain ⟨p,xs,rfl,hq,fx,fs,q⟩:=h
 cases ry
 rcases hq with hq|hq
 ·obtain ⟨its,r,pl,hz⟩:=I.list hq
  refine SeqAt.notIn_listAt (eqU x) pl.isList (fun w hw=>mem_eqAt rx fx r fs w (by simpa using hw)) ⟨.bl _,H,I,rfl,?_⟩
  rw [show its.toArray.any (eqU x)=its.any (eqU x) by simp,any_eqU r fs]
  exact q
 ·obtain ⟨its,r,pl,hz⟩:=I.tuple hq
  refine SeqAt.notIn_tupleAt (eqU x) pl (fun w hw=>mem_eqAt rx fx r fs w (by simpa using hw)) ⟨.bl _,H,I,rfl,?_⟩
  rw [show its.toArray.any (eqU x)=its.any (eqU x) by simp,any_eqU r fs]
  exact q
theorem call_len_seq:CallR X (.builtin "len") (fun xs H Q=>∃ p ys,xs=[.ref p]/\(SqL X.K H p ys\/SqT X.K H p ys)/\Q (.int ys.length) H):=by
 intro pins s σ H xs us Q I r h
 obtain ⟨p,ys,rfl,hq,q⟩:=h
 obtain ⟨u,rfl,rx⟩:=vals1 r
 cases rx
 have hn:=line63
 rcases hq with hq|hq
 ·obtain ⟨its,r',pl,hz⟩:=I.list hq
  have hlen:=r'.length
  exact Calls.call_len_list pl.isList (by simp only [size_toArray]<;>omega) ⟨.int ys.length,H,I.tok _,⟨s.toks+1,by rw [size_toArray,hlen]⟩,q⟩
 ·obtain ⟨its,r',pl,hz⟩:=I.tuple hq
  have hlen:=r'.length
  exact len_tuple pl (by simp only [size_toArray]<;>omega) ⟨.int ys.length,H,I.tok _,⟨s.toks+1,by rw [size_toArray,hlen]⟩,q⟩
theorem call_len_str:CallR X (.builtin "len") (fun xs H Q=>∃ z,xs=[.str z]/\z.length<=sizeLine/\Q (.int z.length) H):=by
 intro pins s σ H xs us Q I r h
 obtain ⟨z,rfl,hz,q⟩:=h
 obtain ⟨u,rfl,t,rfl⟩:=vals1 r
 have hn:=line63
 exact len_str (by omega) ⟨.int z.length,H,I.tok _,⟨_,rfl⟩,q⟩
theorem call_list_of:CallR X (.type "list") (fun xs H Q=>∃ p ys,xs=[.ref p]/\(SqL X.K H p ys\/SqT X.K H p ys)/\∀ l,H l=none->Q (.ref l) (upd H l (.lst ys))):=by
 intro pins s σ H xs us Q I r h
 obtain ⟨p,ys,rfl,hq,q⟩:=h
 obtain ⟨u,rfl,rx⟩:=vals1 r
 cases rx
 have fin:∀ (its:List Value),Vals ys its->ys.length<=sizeLine->∀ (h':Heap) (c':Nat),(∀ b o',s.heap.get? b=some o'->h'.get? b=some o') ->
   h'.get? s.heap.objs.size=some { cls:=.type "list",dict:=none,data:=.seq its.toArray c',slots:=#[] }->EP X pins σ Q (.ref s.heap.objs.size) { s with heap:=h' }:=fun its r' hz h' c' kp e =>
  ⟨.ref s.heap.objs.size,_,I.laid (t':=s.toks) kp (Nat.le_refl _) (show ObjOk X.prog X.w _ h' _ (.lst ys) from ⟨hz,its,c',r',e⟩),rfl,q _ (I.hok.fresh (Nat.le_refl _))⟩
 rcases hq with hq|hq
 ·obtain ⟨its,r',pl,hz⟩:=I.list hq
  have hlen:=r'.length
  obtain ⟨o,ho,hc,n,hd⟩:=pl.isList
  exact call_list_seq p (.inl rfl) ho hc hd (fun h' c' kp e=>fin its r' hz h' c' kp e) (by simp only [size_toArray]<;>omega)
 ·obtain ⟨its,r',pl,hz⟩:=I.tuple hq
  have hlen:=r'.length
  obtain ⟨o,ho,hc,n,hd⟩:=pl
  exact call_list_seq p (.inr rfl) ho hc hd (fun h' c' kp e=>fin its r' hz h' c' kp e) (by simp only [size_toArray]<;>omega)
def tyV (K:W.Frag) (T:String) (x:V) (H:Hp):Prop:=match x with
 | .str _=>T="str"
 | .int _=>T="int"
 | .ref p=>(T="list"/\∃ xs,SqL K H p xs)\/(T="tuple"/\∃ o,K.lookup p=some o/\o.cls=.type "tuple"/\o.dict=none) \/
   (T="dict"/\((∃ kvs,H p=some (.dK kvs))\/∃ kvs,H p=some (.dT kvs)))\/(T="set"/\∃ S n,H p=some (.set S n))
 | _=>False
theorem tyV_is {pins:List (Addr × Obj)} {σ:St} {H:Hp} {s:Shared} {T:String} {x:V} {v:Value} (I:Inv X pins σ H s) (r:RelV x v) (ty:tyV X.K T x H) :
  s.TypeIs v T/\∀ a,v=.ref a->∃ ob,s.heap.get? a=some ob/\ob.dict=none:=by
 cases x with
 | str z =>
  obtain ⟨t,rfl⟩:=r
  cases (show T="str" from ty)
  exact ⟨typeIs_str s z t,fun _ e=>nomatch e⟩
 | int i =>
  obtain ⟨t,rfl⟩:=r
  cases (show T="int" from ty)
  exact ⟨typeIs_int s i t,fun _ e=>nomatch e⟩
 | ref p =>
  cases r
  rcases ty with ⟨rfl,xs,hq⟩|⟨rfl,o,hk,hc,hd⟩|⟨rfl,hk⟩|⟨rfl,S,n,hk⟩
  ·obtain ⟨its,_,pl,_⟩:=I.list hq
   refine ⟨pl.isList.typeIs,fun a e=>?_⟩
   cases e
   obtain ⟨o,n,e,c,hd,_⟩:=pl
   exact ⟨o,e,hd⟩
  ·refine ⟨⟨o,I.kIn p o hk,hc⟩,fun a e=>?_⟩
   cases e
   exact ⟨o,I.kIn _ o hk,hd⟩
  ·have z:∃ o,s.heap.get? p=some o/\o.ExactDict:=by
    rcases hk with ⟨kvs,hk⟩|⟨kvs,hk⟩
    ·obtain ⟨_,_,_,_,o,_,_,e,ex,_⟩:=I.hok p _ hk
     exact ⟨o,e,ex⟩
    ·obtain ⟨_,_,_,_,o,_,_,e,ex,_⟩:=I.hok p _ hk
     exact ⟨o,e,ex⟩
   obtain ⟨o,e,ex⟩:=z
   refine ⟨⟨o,e,ex.1⟩,fun a e2=>?_⟩
   cases e2
   exact ⟨o,e,ex.2.1⟩
  ·obtain ⟨o,_,_,_,e,ex,_⟩:=I.hok p _ hk
   refine ⟨⟨o,e,ex.1⟩,fun a e2=>?_⟩
   cases e2
   exact ⟨o,e,ex.2.1⟩
 | _=>exact False.elim ty
def tBM (K:W.Frag) (T:String) (r:V->List V->Hp->VK->Prop) (to:TE) (t:TA):TE:=fun σ H Q=>to σ H fun x H1=>tyV K T x H1/\t σ H1 fun xs H2=>r x xs H2 Q
variable {o e:Expr} {es:List Expr} {to:TE} {t:TA} {name:Str} {apos cpos:Pos} {T id:String} {r:V->List V->Hp->VK->Prop}
theorem pe_bm (pa:PlainAttrs T) (slot:Slot T name id) (hty:typeOf (.builtin id)=pure (.type "method_descriptor")) (hm:MtR X id r) (ho:PE X o to) (ha:PA X (e::es) t)
  (hbase:attributeBase o name X.env (eval o X.env)=eval o X.env:=by rfl)
  (hfew:((backTo cpos (starEach (e::es) X.env)).all (fun x=>!x.1)&&(backToKw cpos (keywordEach [] X.env)).all (fun x=>x.1.isSome)
   && decide ((e::es).length+([]:List Keyword).length+(if ([]:List Keyword).isEmpty then 0 else 1) < 30))=true:=by rfl)
  (hline:(apos.endLine==cpos.line)=true:=by rfl) (hs:starEach (e::es) X.env=(false,eval e X.env)::starEach es X.env:=by rfl) (hplain:(backTo cpos (starEach es X.env)).any (·.1)=false:=by rfl) :
  PE X (.Call (.Attribute o name apos) (e::es) [] cpos) (tBM X.K T r to t):=by
 intro pins s σ H Q I h
 refine wpAny_Call_method_late hbase hfew hline rfl (thn (ho pins s σ H _ I h) fun v s1 ⟨x,H1,I1,r1,ty,q1⟩=>?_)
 obtain ⟨h1,h2⟩:=tyV_is I1 r1 ty
 refine ⟨T,id,pa,slot,hty,h1,h2,?_⟩
 have hA:=ha cpos pins s1 σ H1 _ I1 q1
 rw [hs] at hA ⊢
 refine Calls.callWith_builtin (by show (false||(backTo cpos (starEach es X.env)).any (·.1))=false;rw [hplain]<;>rfl) (Calls.evalArgs_plain ?_)
 exact thn hA fun us s2 ⟨vs,H2,I2,r2,q2⟩=>hm pins s2 σ H2 x vs v us Q I2 r1 r2 q2
/- xs.append(e),list.index on a module's tuple .. are MtR facts of 06m -/
end
def MtM (X:Cx) (id:String) (r:V->List V->Hp->VK->Prop):Prop :=
 ∀ (pins:List (Addr × Obj)) (s:Shared) (σ:St) (H:Hp) (x:V) (xs:List V) (v:Value) (us:List Value) (Q:VK),Inv X pins σ H s->RelV x v->Vals xs us->r x xs H Q ->
  wpAny (model X.prog X.w) X.A (call (.builtin id) (v::us)) (EP X pins σ Q) X.xe s
theorem Vals.one {x:V} {us:List Value} (h:Vals [x] us):∃ u,us=[u]/\RelV x u:=by
 cases h with
 | cons r q=>cases q;exact ⟨_,rfl,r⟩
section
variable {X:Cx} {pins:List (Addr × Obj)} {σ:St} {H:Hp} {s:Shared} {l:Addr} {xs ys:List V}
theorem Inv.lset {its its':List Value} {n:Nat} {f:Array Value->Array Value} {t':Nat} (I:Inv X pins σ H s) (hH:H l=some (.lst xs))
  (e:s.heap.get? l=some { cls:=.type "list",data:=.seq its.toArray n }) (hf:f its.toArray=its'.toArray) (hv:Vals ys its') (hz:ys.length<=sizeLine) :
  Inv X pins σ (upd H l (.lst ys)) { s with heap:=s.heap.update l (Obj.mapSeq f),toks:=t' }:=by
 have q:=PySem.IsL.update e f
 rw [hf] at q
 refine I.write (x:=l) (e:=l) (by rw [hH];exact trivial) (.inl rfl) (fun b' u hb hu=>(Heap.get?_update_other s.heap (Obj.mapSeq f) (Ne.symm hb)).trans hu) ⟨_,q⟩ ?_
 exact ⟨hz,its',_,hv,q⟩
theorem Inv.lnew {its:List Value} {t':Nat} (I:Inv X pins σ H s) (hv:Vals ys its) (hz:ys.length<=sizeLine) :
  Inv X pins σ (upd H s.heap.objs.size (.lst ys)) { s with heap:=s.heap.push { cls:=.type "list",data:=.seq its.toArray },toks:=t' } :=
 I.laid (fun _ _ q=>Heap.get?_push_of_some _ q) (Nat.le_refl _) ⟨hz,its,0,hv,Heap.get?_push_size _ rfl⟩
theorem Inv.fresh (I:Inv X pins σ H s):H s.heap.objs.size=none:=I.hok.fresh (Nat.le_refl _)
theorem Inv.lstM (I:Inv X pins σ H s) (hH:H l=some (.lst xs)):xs.length<=sizeLine/\∃ (its:List Value) (n:Nat),Vals xs its/\xs.length=its.length/\s.heap.get? l=some { cls:=.type "list",data:=.seq its.toArray n }:=by
 obtain ⟨z,its,n,r,e⟩:=I.hok l _ hH
 exact ⟨z,its,n,r,r.length,e⟩
theorem notLongL {n:Nat} (h:n<=sizeLine):Builtin.List.listTooLong n=false:=by
 unfold Builtin.List.listTooLong
 exact decide_eq_false (by omega)
end
section
variable {X:Cx}
def rAppend:V->List V->Hp->VK->Prop:=fun x vs H Q=>∃ l xs y,x=.ref l/\vs=[y]/\H l=some (.lst xs)/\xs.length < sizeLine/\Q .non (upd H l (.lst (xs++[y])))
theorem mt_append:MtM X "list.append" rAppend:=by
 intro pins s σ H x vs v us Q I rx rv h
 obtain ⟨l,xs,y,rfl,rfl,hH,hz,q⟩:=h
 cases rx
 obtain ⟨u,rfl,ru⟩:=rv.one
 obtain ⟨z,its,n,r,hl,e⟩:=I.lstM hH
 refine call_meets F.slot_list_append ⟨_,e,rfl⟩ F.entry_list_append (F.args_list_append_2 _ _) (PySem.list_append l its.toArray n u (by rw [size_toArray];omega)) ⟨e,?_⟩
 refine ⟨.non,_,I.lset (its':=its++[u]) hH e (by simp) (r.append (.cons ru .nil)) ?_,rfl,q⟩
 rw [length_append,List.length_singleton]
 omega
def rExtend:V->List V->Hp->VK->Prop:=fun x vs H Q=>∃ l b xs zs,x=.ref l/\vs=[.ref b]/\H l=some (.lst xs)/\H b=some (.lst zs)/\xs.length+zs.length<=sizeLine/\Q .non (upd H l (.lst (xs++zs)))
theorem mt_extend:MtM X "list.extend" rExtend:=by
 intro pins s σ H x vs v us Q I rx rv h
 obtain ⟨l,b,xs,zs,rfl,rfl,hH,hB,hz,q⟩:=h
 cases rx
 obtain ⟨u,rfl,ru⟩:=rv.one
 cases ru
 obtain ⟨z,its,n,r,hl,e⟩:=I.lstM hH
 obtain ⟨z2,its2,n2,r2,hl2,e2⟩:=I.lstM hB
 have hsz:its.toArray.size+its2.toArray.size<=sizeLine:=by rw [size_toArray,size_toArray];omega
 have hlong:¬ (!its.toArray.isEmpty&&Builtin.List.listTooLong (its.toArray.size+its2.toArray.size))=true:=by
  rw [notLongL hsz,Bool.and_false]
  exact Bool.false_ne_true
 refine call_meets F.slot_list_extend ⟨_,e,rfl⟩ F.entry_list_extend (F.args_list_extend_2 _ _)
  (AutoSeq1.list_extend_list_list_0 l its.toArray n b its2.toArray n2 hlong (by rw [size_toArray];omega) (by omega)) ⟨e,e2,?_⟩
 refine ⟨.non,_,I.lset (its':=its++its2) hH e (by simp) (r.append r2) ?_,rfl,q⟩
 rw [length_append]
 omega
def rCat:R2:=fun x y H Q=>∃ l b xs zs,x=.ref l/\y=.ref b/\H l=some (.lst xs)/\H b=some (.lst zs)/\xs.length+zs.length<=sizeLine/\∀ p,H p=none->Q (.ref p) (upd H p (.lst (xs++zs)))
theorem op_cat:OpR X (binaryOp .Add) rCat:=by
 intro pins s σ H x y v u Q I rx ry h
 obtain ⟨l,b,xs,zs,rfl,rfl,hH,hB,hz,q⟩:=h
 cases rx
 cases ry
 obtain ⟨z,its,n,r,hl,e⟩:=I.lstM hH
 obtain ⟨z2,its2,n2,r2,hl2,e2⟩:=I.lstM hB
 refine PySem.P.add_list e e2 ?_ (by rw [size_toArray,size_toArray];omega)
 have ea:its.toArray++its2.toArray=(its++its2).toArray:=by simp
 rw [ea]
 exact ⟨.ref _,_,I.lnew (t':=s.toks) (r.append r2) (by rw [length_append];omega),rfl,q _ I.fresh⟩
end
end L2
namespace Att
open PySem PySem.W PySem.Calls PyProof.Rows
theorem ints_of_wellAll {P:Params} {h:Heap}:∀ (ns:List Int) (vs:List Value),WellAll P h vs (ns.map WData.int)->IntsAre vs ns:=by
 intro ns
 induction ns with
 | nil =>
  intro vs w
  rw [List.map_nil] at w
  cases w
  exact .nil
 | cons n ns ih =>
  intro vs w
  rw [map_cons] at w
  cases w with
  | cons a b =>
   cases a
   exact .cons _ _ (ih _ b)
theorem script_of {l:OpenLaw} {n:Nat} (hn:l.most=some n) {P:Params} {h:Heap} {args:List WData} {vals:List Value}
  (hpre:l.row.toRowW.claim.pre args=true) (hwl:WellAll P h vals args) :
  ∃ a vs ns,vals=[Value.ref a]/\args=[WData.list (ns.map WData.int)]/\h.get? a=some { cls:=.type "list",data:=.seq vs.toArray }/\IntsAre vs ns/\ns.length<=n:=by
 have hsh:WShape.hasAll [] args [.list .int]=true:=(pre_splitW hpre).1
 have hc:l.pre.holds [] { args:=args }=true:=(pre_splitW hpre).2
 obtain ⟨d,r,rfl,h1,h2⟩:=hasAllW_cons hsh
 obtain rfl:=hasAllW_nil h2
 obtain ⟨xs,rfl,h3⟩:=hasW_list h1
 obtain ⟨ns,rfl⟩:=items_int h3
 have hlen:ns.length<=n:=by
  unfold OpenLaw.pre at hc
  have h4:(WTm.not (.lt (.lit (.int (n:Int))) (.len (.arg 0)))).holds [] { args:=[.list (ns.map .int)] }=true:=by
   have h4:=(holds_andW hc).1
   rw [hn] at h4
   exact h4
  have h5:=condW_of h4 (w_not (w_lt w_lit (w_len_list (w_arg rfl))))
  rw [length_map] at h5
  refine Nat.le_of_not_lt fun q=>?_
  have q':(n:Int) < ((ns.length:Nat):Int):=by omega
  first
   | (rw [decide_eq_true q'] at h5;exact absurd h5 (by decide))
   | (simp at h5;omega)
 cases hwl with
 | cons w1 w2 =>
  cases w2
  cases w1 with
  | list ho hall=>exact ⟨_,_,ns,rfl,rfl,ho,ints_of_wellAll ns _ hall,hlen⟩
theorem post_true (l:OpenLaw) (args:List WData):l.row.toRowW.claim.post args (.bool true) args=true :=
 postW_of (r:=l.row.toRowW) (X:=(true==true))
  (show WShape.has [] (.bool true) .bool=true by first|rfl|decide|simp [WShape.has,WShape.arms,WShape.armsAll])
  (show (WTm.eq .res (.lit (.bool true))).value [] { args:=args,res:=some (.bool true),after:=args }=some (.bool (true==true)) from w_eq_bool (w_res rfl) w_lit) rfl
theorem attach_call {l:OpenLaw} {n:Nat} {q:Program} {loose:List Str} {XP:(Str->Option Value)->Heap->Prop} {YP:World->Heap->Prop} {d:DefRec}
  (hn:l.most=some n) (hdf:d.params.defaults=[])
  (call:∀ (w:World) (s₀ s₁:Shared) (mg mb:Str->Option Value) (fa:Addr) (o:Obj) (pm cd doc:Value) (a:Addr) (vs:List Value) (ns:List Int),
   Ground q loose [] XP w s₀ mg mb s₁.heap->YP w s₁.heap ->
   s₁.heap.get? fa=some o->o.data=.func (docDef d.name d.params d.body d.scope pm cd doc)->s₁.heap.CodeRec cd d.name->mg d.name=some (.ref fa) ->
   s₁.heap.get? a=some { cls:=.type "list",data:=.seq vs.toArray }->IntsAre vs ns->ns.length<=n->s₁.gens=#[] ->
   codeAny (model l.prog w) callerA (.call (.ref fa) ⟨[.ref a],[]⟩) (fun r s'=>r=.ok (.ret (.bool true))/\OldK s₁.heap s'.heap/\s'.os=s₁.os/\AllBare s'.gens) s₁) :
  WalkO q loose XP YP l.row.toRowW d [] (fun f vs=>PySem.call f vs):=by
 intro w s₀ s₁ mg mb G Y fa o pm cd doc dV kV ho hd hcd hD hmg hg args vals as hpre hlay hrd hwl hlo
 obtain rfl:dV=.none:=Dflts.none hD hdf
 obtain rfl:kV=.none:=Dflts.noKw hD
 obtain ⟨a,vs,ns,rfl,rfl,hobj,hints,hlen⟩:=script_of hn hpre hwl
 refine enter_call (codeAny_mono (call w s₀ s₁ mg mb fa o pm cd doc a vs ns G Y ho (fd_plain hd) hcd hmg hobj hints hlen hg) fun r s' hq=>?_)
 obtain ⟨rfl,h2,h3,h4⟩:=hq
 exact ⟨.inl ⟨.bool true,.bool true,[],rfl,fun _=>rfl,.bool true,post_true l _,fun _=>⟨List.Pairwise.nil,fun _ hm=>(nomatch hm)⟩⟩,h2,h3,h4⟩
end Att
namespace L2
open PySem PySem.Spec PyProof.Rows
theorem vals_ints:∀ {vs:List Value} {ns:List Int},IntsAre vs ns->Vals (ns.map V.int) vs
 | _,_,.nil=>.nil
 | _,_,.cons n t h=>.cons ⟨t,rfl⟩ (vals_ints h)
def Only (H:Hp):Prop:=∀ b,H b=none\/∃ o xs,H b=some (.frz o (.lst xs))
theorem law_call {P:Program} {w:World} {K:W.Frag} {mg mb:Str->Option Value} {CX:CXT} {k:Nat} {fa a:Addr} {fd:FuncData} {x:Str} {sp:Sp} {s₁:Shared} {vs:List Value} {ns:List Int}
  (KX:K.In s₁.heap) (hns:s₁.heap.Ns mainGlobals mg) (hb:s₁.heap.Ns builtinsNs mb) (hbb:∀ x:Str,x≠"__name__"->mb x=bootBuiltins x) (hlim:s₁.heap.NoLimit) (hse:s₁.heap.NoSeer) (hg:s₁.gens=#[])
  (ha:s₁.heap.get? a=some { cls:=.type "list",data:=.seq vs.toArray }) (hi:IntsAre vs ns) (hl:ns.length<=sizeLine) (hr:Room k callerA)
  (F:∀ base:Heap,K.In base->base.Ns mainGlobals mg->FnOk P w K mg base CX k fa fd [x] sp) (hbind:∀ (s:Shared) (u:Value),BindsTo s fd ⟨[u],[]⟩ [(x,u)])
  (hsp:∀ H:Hp,Only H->SqL K H a (ns.map V.int)->sp [.ref a] H (fun v _=>v=.bl true) fun _ _ _=>False)
  (hCX:∀ H e s',CX [] H s₁ (fun _ _ _=>False) e s'->False) :
  codeAny (model P w) callerA (.call (.ref fa) ⟨[.ref a],[]⟩) (fun r s'=>r=.ok (.ret (.bool true))/\OldK s₁.heap s'.heap/\s'.os=s₁.os/\AllBare s'.gens) s₁:=by
 have rv:=vals_ints hi
 have lenV:=hi.length
 have core:∀ H:Hp,Only H->SqL K H a (ns.map V.int)->HOk P w H s₁.heap->(∀ b,H b≠none->b=a)->(H a≠none->K.lookup a=none) ->
   codeAny (model P w) callerA (.call (.ref fa) ⟨[.ref a],[]⟩) (fun r s'=>r=.ok (.ret (.bool true))/\OldK s₁.heap s'.heap/\s'.os=s₁.os/\AllBare s'.gens) s₁:=by
  intro H hO hS hok hA hK
  have base_of:∀ {b:Addr} {o:Obj},s₁.heap.get? b=some o->H b=none->(hidT s₁.heap H).get? b=some o:=fun e n=>hidT_get e n
  have noA:∀ {b:Addr} {o:Obj} {es:Array DictEntry} {ep:Nat},s₁.heap.get? b=some o->o.data=.dict es ep->H b=none:=fun {b o es ep} e d=>by
   cases q:H b with
   | none=>rfl
   | some u =>
    have e':b=a:=hA b (by rw [q];simp)
    subst e'
    rw [ha] at e;cases e
    have d':Data.seq vs.toArray _=Data.dict es ep:=d
    cases d'
  have nsK:∀ {b:Addr} {m:Str->Option Value},s₁.heap.Ns b m->(hidT s₁.heap H).Ns b m:=fun {b m} ⟨o,es,ep,e,d,r⟩=>⟨o,es,ep,base_of e (noA e d),d,r⟩
  have hKb:K.In (hidT s₁.heap H):=fun b o e=>base_of (KX b o e) (by
   cases q:H b with
   | none=>rfl
   | some u =>
    have e':b=a:=hA b (by rw [q];simp)
    subst e'
    rw [hK (by rw [q];simp)] at e;cases e)
  have seK:(hidT s₁.heap H).NoSeer:=⟨let ⟨mc,h1,h2⟩:=hse.statics;⟨mc,nsK h1,h2⟩,let ⟨mm,h1,h2⟩:=hse.mods;⟨mm,nsK h1,h2⟩,let ⟨mx,h1,h2⟩:=hse.imp;⟨mx,nsK h1,h2⟩,by
   obtain ⟨mx,bm,ob,h1,h2,h3,h4,h5⟩:=hse.main
   refine ⟨mx,bm,ob,nsK h1,h2,base_of h3 ?_,h4,h5⟩
   cases q:H bm with
   | none=>rfl
   | some u =>
    have e':bm=a:=hA bm (by rw [q];simp)
    subst e'
    rw [ha] at h3;cases h3
    exact absurd (show (Value.type "list")=.type "module" from h4) (by decide)⟩
  have hM:Mod K mg (hidT s₁.heap H):=⟨hKb,nsK hns,⟨mb,nsK hb,hbb⟩,let ⟨mc,h1,h2⟩:=hlim;⟨mc,nsK h1,h2⟩,seK⟩
  have e0:Env0 P w K mg (hidT s₁.heap H) callerA [] s₁ H:=⟨rfl,hM,fun b o e=>of_hidT e,Nat.le_of_eq (hidT_size _ _),trivial,fun b hb=>absurd (show b∈([]:List Addr) from hb) (by simp),hok,.of_eq hg⟩
  refine codeAny_mono ((F _ hKb (nsK hns)).run callerA [] s₁ H ⟨[.ref a],[]⟩ [.ref a] [.ref a] _ _ hr e0 (hbind s₁ (.ref a)) (.cons rfl .nil) (hsp H hO hS)) fun r s' h=>?_
  cases r with
  | error e=>exact (hCX H e s' h).elim
  | ok fl =>
   cases fl with
   | next=>exact False.elim h
   | brk=>exact False.elim h
   | cont=>exact False.elim h
   | ret u =>
    obtain ⟨v,H',os,bare,un,hok',r',q⟩:=h
    have q':v=.bl true:=q
    subst q'
    obtain rfl:u=Value.bool true:=r'
    refine ⟨rfl,OldK.of_keep fun b o e=>?_,os,bare⟩
    cases q:H b with
    | none=>exact un.keep b o e q (by intro z;exact absurd (show b∈([]:List Addr) from z) (by simp)) (by simp)
    | some u =>
     rcases hO b with z|⟨ob,xs,z⟩
     ·rw [q] at z;cases z
     ·have z2:=un.frzs b ob _ z
      obtain ⟨e1,_⟩:=hok b _ z
      obtain ⟨e2,_⟩:=hok' b _ z2
      rw [e] at e1;cases e1
      exact e2
 cases hk:K.lookup a with
 | some o =>
  have e:=KX a o hk
  rw [ha] at e
  cases e
  refine core (fun _=>none) (fun _=>.inl rfl) (.inr ⟨_,vs.toArray,_,hk,rfl,rfl,rfl,by rw [size_toArray,lenV];exact hl,by simpa using rv⟩) (fun b u z=>by have z':(none:Option HO)=some u:=z;cases z') (fun b z=>absurd rfl z) fun z=>absurd rfl z
 | none =>
  refine core (fun b=>if b=a then some (.frz { cls:=.type "list",data:=.seq vs.toArray } (.lst (ns.map V.int))) else none) (fun b=>?_) (.inl (.inr ⟨{ cls:=.type "list",data:=.seq vs.toArray },if_pos rfl⟩)) (fun b u z=>?_) (fun b z=>?_) fun _=>hk
  ·by_cases hb:b=a
   ·exact .inr ⟨_,_,if_pos hb⟩
   ·exact .inl (if_neg hb)
  ·by_cases hb:b=a
   ·have z':=(if_pos hb).symm.trans z
    cases z'
    subst hb
    exact ⟨ha,by rw [length_map];exact hl,vs,_,rv,ha⟩
   ·have z':=(if_neg hb).symm.trans z
    cases z'
  ·by_cases hb:b=a
   ·exact hb
   ·exact absurd (if_neg hb) z
theorem walk_of {l:PySem.W.OpenLaw} {n k:Nat} {q:Program} {loose:List Str} {XP:(Str->Option Value)->Heap->Prop} {YP:World->Heap->Prop} {d:DefRec} {K:Params->W.Frag} {CX:World->CXT} {sp:World->Sp} {x:Str}
  (hn:l.most=some n) (hn2:n<=sizeLine) (hdf:d.params.defaults=[]) (hr:Room k callerA) (hi:importsNone q=true)
  (hY:∀ (w:World) (h:Heap),YP w h->(K w.params).In h)
  (F:∀ (w:World) (mg:Str->Option Value) (fa:Addr) (h:Heap),(K w.params).In h->h.Ns mainGlobals mg->mg d.name=some (.ref fa) ->
   ∃ fd:FuncData,(∀ (s:Shared) (u:Value),BindsTo s fd ⟨[u],[]⟩ [(x,u)]) /\
    ∀ base:Heap,(K w.params).In base->base.Ns mainGlobals mg->FnOk l.prog w (K w.params) mg base (CX w) k fa fd [x] (sp w))
  (hsp:∀ (w:World) (H:Hp) (a:Addr) (ns:List Int),ns.length<=n->Only H->SqL (K w.params) H a (ns.map V.int)->sp w [.ref a] H (fun v _=>v=.bl true) fun _ _ _=>False)
  (hCX:∀ (w:World) (H:Hp) (s:Shared) (e:Value) (s':Shared),CX w [] H s (fun _ _ _=>False) e s'->False) :
  PySem.W.WalkO q loose XP YP l.row.toRowW d [] (fun f vs=>PySem.call f vs):=by
 refine Att.attach_call hn hdf fun w s₀ s₁ mg mb fa o pm cd doc a vs ns G Y ho hd hcd hmg hobj hints hlen hg=>?_
 have KX:=hY w _ Y
 obtain ⟨fd,hb,hF⟩:=F w mg fa _ KX G.T.g hmg
 exact law_call KX G.T.g G.T.b G.T.builtins G.T.nolimit (G.T.seer hi) hg hobj hints (Nat.le_trans hlen hn2) hr hF hb (fun H hO hS=>hsp w H a ns hlen hO hS) fun H e s'=>hCX w H s₁ e s'
def defArgs (s:Stmt):Arguments:=match s with
 | .FunctionDef _ a _ _ _ _ _ _ _ _=>a
 | _=>{ posonlyargs:=[],args:=[],vararg:=none,kwonlyargs:=[],kw_defaults:=[],kwarg:=none,defaults:=[] }
def defBody (s:Stmt):List Stmt:=match s with
 | .FunctionDef _ _ b _ _ _ _ _ _ _=>b
 | _=>[]
def defScope (s:Stmt):Scope:=match s with
 | .FunctionDef _ _ _ _ _ _ sc _ _ _=>sc
 | _=>{ kind:=.function,names:=[],isGenerator:=false,isCoroutine:=false }
abbrev CX0:CXT:=fun _ _ _ _ _ _=>False
abbrev E0:XK:=fun _ _ _=>False
theorem pass0 {X:Cx}:Passes CX0 X E0:=fun _ _ _ _ _ _ _ h=>h.elim
structure Fun (K:W.Frag) (x qual:Str) (st:Stmt) (f:Addr) (fd:FuncData):Prop where
 ex:∃ (oc:Value) (od:Option Addr) (kV doc pm:Value) (an:Option Addr) (cdv ct:Value) (osl:Array (Option Value)),
  fd=PySem.W.fnOf x qual (defArgs st) (defBody st) (defScope st) .none kV doc pm an cdv ct/\K.lookup f=some ⟨oc,od,.func fd,osl⟩/\PySem.W.codeIn K cdv qual=true
 kp:PySem.W.keepIn K (.ref f)=true
section
variable {P:Program} {w:World} {K:W.Frag} {mg:Str->Option Value} {base:Heap}
theorem Fun.ok {x qual:Str} {st:Stmt} {f:Addr} {fd:FuncData} {N ps:List Str} {k:Nat} {sp:Sp} (F:Fun K x qual st f fd) (S:FnScope N ps (defScope st)) (len:∀ vs H Q E,sp vs H Q E->vs.length=ps.length)
  (hbody:∀ (cdv:Value) (A:Around) (outer:List Env) (s:Shared) (H:Hp) (vs:List V) (Q:VK) (E:XK),Room k (A.deeper (envOfC qual (defScope st) s.heap.objs.size f cdv))->sp vs H Q E ->
   ∃ t,PSs (cxOf CX0 P w K mg base N qual (defScope st) f cdv A outer s H E).nox (defBody st) t/\t { nx:=fun _ H'=>Q .non H',rt:=Q } (start N vs) H):FnOk P w K mg base CX0 (k+1) f fd ps sp:=by
 obtain ⟨oc,od,kV,doc,pm,an,cdv,ct,osl,rfl,lk,hcd⟩:=F.ex
 refine fn_of lk hcd S len fun A outer s H vs Q E hr hsp=>?_
 obtain ⟨t,h,q⟩:=hbody cdv A outer s H vs Q E hr hsp
 exact ⟨t,h.nox,q⟩
theorem Fun.binds {x qual:Str} {st:Stmt} {f:Addr} {fd:FuncData} {ps:List Str} (F:Fun K x qual st f fd)
  (h:∀ (kV doc pm:Value) (an:Option Addr) (cdv ct:Value) (us:List Value),us.length=ps.length->bindArgs (PySem.W.fnOf x qual (defArgs st) (defBody st) (defScope st) .none kV doc pm an cdv ct) ⟨us,[]⟩=pure (ps.zip us)):Binds K fd ps []:=by
 obtain ⟨oc,od,kV,doc,pm,an,cdv,ct,osl,rfl,lk,hcd⟩:=F.ex
 exact .all (h kV doc pm an cdv ct)
theorem fun_mk {x qual:Str} {st:Stmt} {f:Addr} {oc:Value} {od an:Option Addr} {osl:Array (Option Value)} {kV doc pm cdv ct:Value} (l:K.lookup f=some ⟨oc,od,.func (PySem.W.fnOf x qual (defArgs st) (defBody st) (defScope st) .none kV doc pm an cdv ct),osl⟩)
  (c:PySem.W.codeIn K cdv qual=true) (k:PySem.W.keepIn K (.ref f)=true):Fun K x qual st f (PySem.W.fnOf x qual (defArgs st) (defBody st) (defScope st) .none kV doc pm an cdv ct):=⟨⟨oc,od,kV,doc,pm,an,cdv,ct,osl,rfl,l,c⟩,k⟩
end
section
variable {X:Cx}
theorem pv (i:Nat) {x:Str} {pos:Pos} (hN:X.N[i]?=some x:=by rfl) (hv:Vis X.env.scope x:=by first|exact Or.inl rfl|exact Or.inr (Or.inl rfl)|exact Or.inr (Or.inr rfl)) (hd:(x==("__debug__":Str))=false:=by decide)
  (hcd:(x==("__classdict__":Str))=false:=by decide):PE X (.Name x pos) (tVar i):=pe_var hN hv hd hcd
end
theorem ite2 {c A B:Prop} [Decidable c] (h1:c->A) (h2:¬ c->B):if c then A else B:=by
 by_cases h:c
 ·rw [if_pos h]
  exact h1 h
 ·rw [if_neg h]
  exact h2 h
def Same (H H':Hp):Prop:=∀ b o,H b=some o->H' b=some o
theorem Same.refl (H:Hp):Same H H:=fun _ _ h=>h
theorem Same.trans {H H1 H2:Hp} (a:Same H H1) (b:Same H1 H2):Same H H2:=fun c o h=>b c o (a c o h)
theorem Same.free {H H':Hp} (e:Same H H') {l:Addr} (h:H' l=Option.none):H l=Option.none:=by
 cases q:H l with
 | none=>rfl
 | some o =>
  rw [e l o q] at h
  cases h
theorem Same.seq {K:W.Frag} {H H':Hp} {a:Addr} {xs:List V} (e:Same H H') (h:SqL K H a xs):SqL K H' a xs:=by
 rcases h with (h|⟨o,h⟩)|h
 ·exact .inl (.inl (e _ _ h))
 ·exact .inl (.inr ⟨o,e _ _ h⟩)
 ·exact .inr h
section
variable {κ:Type} [DecidableEq κ]
def valV (kvs:List (κ × V)) (k:κ):Option V:=(kvs.find? fun kv=>decide (kv.1=k)).map (·.2)
def putK (kvs:List (κ × V)) (k:κ) (v:V):List (κ × V) :=
 if (kvs.any fun kv=>decide (kv.1=k))=true then kvs.map (fun kv=>if kv.1=k then (kv.1,v) else kv) else kvs++[(k,v)]
theorem valV_pos {p:κ × V} {r:List (κ × V)} {k:κ} (e:p.1=k):valV (p::r) k=some p.2:=by simp [valV,List.find?_cons,e]
theorem valV_neg {p:κ × V} {r:List (κ × V)} {k:κ} (e:¬ p.1=k):valV (p::r) k=valV r k:=by simp [valV,List.find?_cons,e]
theorem valV_any (k:κ):∀ kvs:List (κ × V),(kvs.any fun kv=>decide (kv.1=k))=(valV kvs k).isSome
 | []=>rfl
 | p::r=>by
  rw [any_cons]
  by_cases e:p.1=k
  ·simp only [valV_pos e,decide_eq_true e,Bool.true_or,Option.isSome_some]
  ·rw [valV_neg e,decide_eq_false e,Bool.false_or];exact valV_any k r
theorem length_putK (kvs:List (κ × V)) (k:κ) (v:V):(putK kvs k v).length<=kvs.length+1:=by
 unfold putK
 split
 ·rw [length_map];omega
 ·rw [length_append,length_cons,List.length_nil];omega
theorem RelO.isSome_eq {o:Option V} {u:Option Value} (r:RelO o u):o.isSome=u.isSome:=by
 cases o with
 | none=>cases u with
  | none=>rfl
  | some _=>exact (show False from r).elim
 | some _=>cases u with
  | none=>exact (show False from r).elim
  | some _=>rfl
theorem KV.val {kvs:List (κ × V)} {vs:List (κ × Value)} (r:KV kvs vs) (k:κ):RelO (valV kvs k) (valueAt vs k):=by
 unfold KV at r
 induction r with
 | nil=>exact True.intro
 | @cons p q ps qs h t ih =>
  obtain ⟨h1,h2⟩:=h
  by_cases e:p.1=k
  ·have e':q.1=k:=h1.symm.trans e
   have b:valueAt (q::qs) k=some q.2:=by simp [valueAt,List.find?_cons,e']
   rw [valV_pos e,b];exact h2
  ·have e':¬ q.1=k:=fun z=>e (h1.trans z)
   have b:valueAt (q::qs) k=valueAt qs k:=by simp [valueAt,List.find?_cons,e']
   rw [valV_neg e,b];exact ih
theorem KV.any {kvs:List (κ × V)} {vs:List (κ × Value)} (r:KV kvs vs) (k:κ):(kvs.any fun kv=>decide (kv.1=k))=vs.any fun kv=>decide (kv.1=k):=by
 unfold KV at r
 induction r with
 | nil=>rfl
 | cons h t ih=>rw [any_cons,any_cons,ih,h.1]
theorem KV.repl {kvs:List (κ × V)} {vs:List (κ × Value)} (r:KV kvs vs) (k:κ) {y:V} {u:Value} (ry:RelV y u) :
  KV (kvs.map fun kv=>if kv.1=k then (kv.1,y) else kv) (vs.map fun kv=>if kv.1=k then (kv.1,u) else kv):=by
 unfold KV at r ⊢
 induction r with
 | nil=>exact .nil
 | @cons p q ps qs h t ih =>
  rw [map_cons,map_cons]
  refine .cons ?_ ih
  obtain ⟨h1,h2⟩:=h
  by_cases e:p.1=k
  ·rw [if_pos e,if_pos (h1.symm.trans e)];exact ⟨h1,ry⟩
  ·rw [if_neg e,if_neg (fun z=>e (h1.trans z))];exact ⟨h1,h2⟩
theorem KV.put {kvs:List (κ × V)} {vs:List (κ × Value)} (r:KV kvs vs) (k:κ) {y:V} {u:Value} (ry:RelV y u):KV (putK kvs k y) (stored vs k u):=by
 unfold putK stored
 rw [r.any k]
 by_cases e:(vs.any fun kv=>decide (kv.1=k))=true
 ·rw [if_pos e,if_pos e];exact r.repl k ry
 ·rw [if_neg e,if_neg e];exact Paired.snoc r ⟨rfl,ry⟩
theorem KV.length {kvs:List (κ × V)} {vs:List (κ × Value)} (r:KV kvs vs):kvs.length=vs.length:=Paired.length r
end
theorem kV_is {P:Program} {w:World} {k:Key} {u:Value} (r:RelV (kV k) u):(mixKind P w).is k u=true:=by
 cases k with
 | inl i=>obtain ⟨t,e⟩:=(show ∃ t,u=Value.int i t from r);subst e;exact mixKind_int P w i t
 | inr x=>obtain ⟨t,e⟩:=(show ∃ t,u=Value.str x t from r);subst e;exact mixKind_str P w x t
theorem items_are {P:Program} {w:World}:∀ {ks:List Key} {us:List Value},Vals (ks.map kV) us->ItemsAre (mixKind P w) ks us
 | [],_,r=>by rw [List.map_nil] at r;cases r;exact .nil
 | k::ks,_,r=>by
  rw [map_cons] at r
  cases r with
  | cons h t=>exact .cons (kV_is h) (items_are t)
abbrev KT (H:Hp):List (List Key × V)->List (List Key × Addr × Value)->Prop:=Paired fun p q=>p.1=q.1/\H q.2.1=some (.tup (p.1.map kV))/\RelV p.2 q.2.2
theorem KT.val {H:Hp} {kvs:List (List Key × V)} {xs:List (List Key × Addr × Value)} (r:KT H kvs xs) (k:List Key):RelO (valV kvs k) ((atKey xs k).map (·.2)):=by
 induction r with
 | nil=>exact True.intro
 | @cons p q ps qs h t ih =>
  obtain ⟨h1,_,h2⟩:=h
  by_cases e:p.1=k
  ·have e':q.1=k:=h1.symm.trans e
   have b:atKey (q::qs) k=some q.2:=by simp [atKey,List.find?_cons,e']
   rw [valV_pos e,b];exact h2
  ·have e':¬ q.1=k:=fun z=>e (h1.trans z)
   have b:atKey (q::qs) k=atKey qs k:=by simp [atKey,List.find?_cons,e']
   rw [valV_neg e,b];exact ih
theorem KT.repl {H:Hp} {kvs:List (List Key × V)} {xs:List (List Key × Addr × Value)} (r:KT H kvs xs) (k:List Key) {y:V} {u:Value} (ry:RelV y u) :
  KT H (kvs.map fun kv=>if kv.1=k then (kv.1,y) else kv) (xs.map (putAt k u)):=by
 induction r with
 | nil=>exact .nil
 | @cons p q ps qs h t ih =>
  rw [map_cons,map_cons]
  refine .cons ?_ ih
  obtain ⟨h1,h2,h3⟩:=h
  unfold putAt
  by_cases e:p.1=k
  ·rw [if_pos e,if_pos (h1.symm.trans e)];exact ⟨h1,h2,ry⟩
  ·rw [if_neg e,if_neg (fun z=>e (h1.trans z))];exact ⟨h1,h2,h3⟩
theorem KT.put {H:Hp} {kvs:List (List Key × V)} {xs:List (List Key × Addr × Value)} (r:KT H kvs xs) (k:List Key) {b:Addr} {y:V} {u:Value} (hb:H b=some (.tup (k.map kV))) (ry:RelV y u) :
  KT H (putK kvs k y) (storedH xs k b u):=by
 have e:(kvs.any fun kv=>decide (kv.1=k))=(atKey xs k).isSome:=by
  rw [valV_any,(r.val k).isSome_eq,Option.isSome_map]
 unfold putK storedH
 rw [e]
 by_cases q:(atKey xs k).isSome=true
 ·rw [if_pos q,if_pos q];exact r.repl k ry
 ·rw [if_neg q,if_neg q];exact Paired.snoc r ⟨rfl,hb,ry⟩
theorem KT.keeps {H H':Hp} {kvs:List (List Key × V)} {xs:List (List Key × Addr × Value)} (r:KT H kvs xs) (ht:∀ b ys,H b=some (.tup ys)->H' b=some (.tup ys)):KT H' kvs xs :=
 Paired.mapP r fun _ _ z=>⟨z.1,ht _ _ z.2.1,z.2.2⟩
section
variable {P:Program} {w:World} {H:Hp} {h:Heap} {a:Addr}
theorem rd_of {u:HO} (ok:HOk P w H h) (e:Rd H a u):ObjOk P w H h a u:=e.ok ok
theorem dk_rd {kvs:List (Key × V)} (ok:HOk P w H h) (e:Rd H a (.dK kvs)):kvs.length<=sizeLine/\(a==sysModules)=false/\∃ vs,KV kvs vs/\h.DictOf (mixKind P w) a vs :=
 show ObjOk P w H h a (.dK kvs) from rd_of ok e
theorem dk_of {kvs:List (Key × V)} (ok:HOk P w H h) (e:H a=some (.dK kvs)):kvs.length<=sizeLine/\(a==sysModules)=false/\∃ vs,KV kvs vs/\h.DictOf (mixKind P w) a vs:=dk_rd ok (.inl e)
theorem key_of {ks:List Key} (ok:HOk P w H h) (e:H a=some (.tup (ks.map kV))):(tupleKind (mixKind P w)).is h ks a:=by
 obtain ⟨_,its,r,o,h1,h2,n,h3⟩:=(show ObjOk P w H h a (.tup (ks.map kV)) from ok a _ e)
 exact ⟨o,its.toArray,n,h1,h2,h3,by simpa using items_are r⟩
theorem dt_rd {kvs:List (List Key × V)} (ok:HOk P w H h) (e:Rd H a (.dT kvs)):kvs.length<=sizeLine/\(a==sysModules)=false /\
  ∃ xs,KT H kvs xs/\h.DictOfH (tupleKind (mixKind P w)) a xs:=by
 obtain ⟨z,y,xs,r,o,es,ep,h1,h2,h3,h4,h5⟩:=(show ObjOk P w H h a (.dT kvs) from rd_of ok e)
 refine ⟨z,y,xs,r,o,es,ep,h1,h2,h3,h4,fun x hx=>?_,h5⟩
 have all:∀ {l:List (List Key × V)} {m:List (List Key × Addr × Value)},KT H l m->∀ x∈m,(tupleKind (mixKind P w)).is h x.1 x.2.1:=by
  intro l m q
  induction q with
  | nil=>intro x hx;exact nomatch hx
  | @cons p q ps qs hq t ih =>
   intro x hx
   rcases mem_cons.mp hx with e|hx
   ·subst e
    exact key_of ok (by rw [<-hq.1];exact hq.2.1)
   ·exact ih x hx
 exact all r x hx
theorem dt_of {kvs:List (List Key × V)} (ok:HOk P w H h) (e:H a=some (.dT kvs)):kvs.length<=sizeLine/\(a==sysModules)=false /\
  ∃ xs,KT H kvs xs/\h.DictOfH (tupleKind (mixKind P w)) a xs:=dt_rd ok (.inl e)
end
def DGet (H:Hp) (a:Addr) (y:V) (r:Option V):Prop :=
 (∃ kvs k,Rd H a (.dK kvs)/\y=kV k/\r=valV kvs k)\/∃ kvs k b,Rd H a (.dT kvs)/\y=.ref b/\H b=some (.tup (k.map kV))/\r=valV kvs k
def DPut (H:Hp) (a:Addr) (y v:V) (H':Hp):Prop :=
 (∃ kvs k,H a=some (.dK kvs)/\y=kV k/\kvs.length < sizeLine/\H'=upd H a (.dK (putK kvs k v))) \/
 ∃ kvs k b,H a=some (.dT kvs)/\y=.ref b/\H b=some (.tup (k.map kV))/\kvs.length < sizeLine/\H'=upd H a (.dT (putK kvs k v))
theorem DGet.k {H:Hp} {a:Addr} {kvs:List (Key × V)} {k:Key} (e:H a=some (.dK kvs)):DGet H a (kV k) (valV kvs k):=.inl ⟨kvs,k,.inl e,rfl,rfl⟩
theorem DGet.t {H:Hp} {a b:Addr} {kvs:List (List Key × V)} {k:List Key} (e:H a=some (.dT kvs)) (eb:H b=some (.tup (k.map kV))):DGet H a (.ref b) (valV kvs k):=.inr ⟨kvs,k,b,.inl e,rfl,eb,rfl⟩
theorem DPut.k {H:Hp} {a:Addr} {kvs:List (Key × V)} {k:Key} {v:V} (e:H a=some (.dK kvs)) (hl:kvs.length < sizeLine):DPut H a (kV k) v (upd H a (.dK (putK kvs k v))):=.inl ⟨kvs,k,e,rfl,hl,rfl⟩
theorem DPut.t {H:Hp} {a b:Addr} {kvs:List (List Key × V)} {k:List Key} {v:V} (e:H a=some (.dT kvs)) (eb:H b=some (.tup (k.map kV))) (hl:kvs.length < sizeLine) :
  DPut H a (.ref b) v (upd H a (.dT (putK kvs k v))):=.inr ⟨kvs,k,b,e,rfl,eb,hl,rfl⟩
section
variable {X:Cx} {pins:List (Addr × Obj)} {σ:St} {H:Hp} {s:Shared} {a:Addr} {y v:V} {u r:Value} {o:Option V} {A:Around} {E:Value->Shared->Prop}
theorem Inv.big (I:Inv X pins σ H s):sysModules < s.heap.objs.size:=by
 have h:mainGlobals < s.heap.objs.size:=(I.mod.glob.keeps I.bk).lt
 exact Nat.lt_trans (by decide) h
theorem d_in {Q:Value->Shared->Prop} (hu:A.units+1 < cLine) (I:Inv X pins σ H s) (g:DGet H a y o) (ry:RelV y u) (h:∀ s',Inv X pins σ H s'->Q (.bool o.isSome) s') :
  wpAny (model X.prog X.w) A (compareOp .In u (.ref a)) Q E s:=by
 rcases g with ⟨kvs,k,e,ey,l⟩|⟨kvs,k,b,e,ey,eb,l⟩
 ·subst ey
  obtain ⟨z,hd,vs,rel,dd⟩:=dk_rd I.hok e
  refine wpAny_in_of (kV_is ry) hd dd.mapOf ?_
  rw [<-(rel.val k).isSome_eq,<-l]
  exact h _ (I.tok _)
 ·subst ey
  cases (show u=Value.ref b from ry)
  obtain ⟨z,hd,xs,rel,dd⟩:=dt_rd I.hok e
  refine wpAny_in_heap (tupleKind_room_in1 hu) (key_of I.hok eb) hd dd ?_
  have q:=(rel.val k).isSome_eq
  rw [Option.isSome_map] at q
  rw [<-q,<-l]
  exact h _ (I.tok _)
theorem d_write {h':Heap} {t':Nat} {ob:HO} (I:Inv X pins σ H s) (mu:Mut (H a)) (hs:Heap.SameBut a s.heap h') (he:∃ q,h'.get? a=some q) (new:ObjOk X.prog X.w (upd H a ob) h' a ob) :
  Inv X pins σ (upd H a ob) { s with heap:=h',toks:=t' } :=
 I.write (x:=a) (e:=a) mu (.inl rfl) (fun b q hb z=>(hs.2 b hb).trans z) he new
theorem dk_new {P:Program} {w:World} {H':Hp} {h':Heap} {kvs:List (Key × V)} {vs:List (Key × Value)} (z:kvs.length<=sizeLine) (hd:(a==sysModules)=false) (rel:KV kvs vs) (dd:h'.DictOf (mixKind P w) a vs) :
  ObjOk P w H' h' a (.dK kvs):=⟨z,hd,vs,rel,dd⟩
theorem d_setItem {H':Hp} {Q:Unit->Shared->Prop} (hu:A.units+1 < cLine) (I:Inv X pins σ H s) (g:DPut H a y v H') (ry:RelV y u) (rv:RelV v r) (h:∀ s',Inv X pins σ H' s'->Q () s') :
  wpAny (model X.prog X.w) A (setItem (.ref a) u r) Q E s:=by
 rcases g with ⟨kvs,k,e,ey,l,eH⟩|⟨kvs,k,b,e,ey,eb,l,eH⟩
 ·subst ey eH
  obtain ⟨z,hd,vs,rel,dd⟩:=dk_of I.hok e
  have hz:vs.length<=sizeLine:=by rw [<-rel.length];exact z
  have hl:(putK kvs k v).length<=sizeLine:=by have:=length_putK kvs k v;omega
  refine wpAny_setItem_pairs (hsz:=hz) (kV_is ry) dd fun h' dd' hs=>h _ ?_
  have he:∃ q,h'.get? a=some q:=let ⟨q,_,_,hq,_⟩:=dd';⟨q,hq⟩
  exact d_write I (by rw [e];exact True.intro) hs he (dk_new hl hd (rel.put k rv) dd')
 ·subst ey eH
  cases (show u=Value.ref b from ry)
  obtain ⟨z,hd,xs,rel,dd⟩:=dt_of I.hok e
  have hz:xs.length<=sizeLine:=by rw [<-Paired.length rel];exact z
  have hl:(putK kvs k v).length<=sizeLine:=by have:=length_putK kvs k v;omega
  refine wpAny_setItem_heap (hsz:=hz) (tupleKind_room_in1 hu) (key_of I.hok eb) dd fun h' dd' hs=>h _ ?_
  obtain ⟨q,es,ep,hq,h2,h3,h4,_,h5⟩:=dd'
  refine d_write I (by rw [e];exact True.intro) hs ⟨q,hq⟩ ⟨hl,hd,_,(rel.put k eb rv).keeps fun c ys ec=>?_,q,es,ep,hq,h2,h3,h4,h5⟩
  rw [upd_ne (ne_of ec e (fun z=>nomatch z))]
  exact ec
end
def tDIn (ty td:TE):TE:=fun σ H Q=>ty σ H fun y H1=>td σ H1 fun x H2=>∃ a o,x=.ref a/\DGet H2 a y o/\Q (.bl o.isSome) H2
def sDPut (td ty tv:TE):TS:=fun D σ H=>tv σ H fun v H1=>td σ H1 fun x H2=>ty σ H2 fun y H3=>∃ a H4,x=.ref a/\DPut H3 a y v H4/\D.nx σ H4
section
variable {X:Cx} {o i value:Expr} {pos pos':Pos} {td ty tv:TE}
theorem pc_din (hu:X.A.units+1 < cLine) (hi:PE X i ty) (ho:PE X o td):PC X .In i o (tDIn ty td):=by
 intro pins s σ H Q I h
 refine thn (hi pins s σ H _ I h) fun iv s1 ⟨y,H1,I1,ry,q1⟩=>thn (ho pins s1 σ H1 _ I1 q1) fun u s2 ⟨x,H2,I2,rx,a,ov,ex,g,q2⟩=>?_
 subst ex
 obtain rfl:u=Value.ref a:=rx
 exact d_in hu I2 g ry fun s3 I3=>⟨.bl ov.isSome,H2,I3,rfl,q2⟩
theorem ps_dput (hu:X.A.units+1 < cLine) (ho:PE X o td) (hi:PE X i ty) (hv:PE X value tv) (hs:swapsWith value (some (.Subscript o i pos')) pos.line X.env=pure false) :
  PS X (.Assign [.Subscript o i pos'] value pos) (sDPut td ty tv):=by
 intro pins s σ H D I h
 refine wpAny_Assign_Subscript (thn (hv pins s σ H _ I h) fun r s1 ⟨v,H1,I1,rv,q1⟩=>thn (ho pins s1 σ H1 _ I1 q1) fun u s2 ⟨x,H2,I2,rx,q2⟩=>thn (hi pins s2 σ H2 _ I2 q2) fun iv s3 ⟨y,H3,I3,ry,a,H4,ex,g,q3⟩=>?_) hs
 subst ex
 obtain rfl:u=Value.ref a:=rx
 exact d_setItem hu I3 g ry rv fun s4 I4=>⟨σ,H4,I4,q3⟩
end
theorem dk_empty {P:Program} {w:World} {H:Hp} (h:Heap) (hb:sysModules < h.objs.size):ObjOk P w H (h.push { cls:=.type "dict",data:=.dict #[] }) h.objs.size (.dK []) :=
 ⟨Nat.zero_le _,beq_eq_false_iff_ne.mpr (Ne.symm (Nat.ne_of_lt hb)),[],.nil,Heap.DictOf.new h⟩
def tDNewK:TE:=fun _ H Q=>∀ p,H p=none->Q (.ref p) (upd H p (.dK []))
section
variable {X:Cx} {pos:Pos}
theorem pe_dnewK:PE X (.Dict [] [] pos) tDNewK:=fun pins s σ H Q I h =>
 wpAny_Dict_empty ⟨.ref s.heap.objs.size,_,I.laid (a:=s.heap.objs.size) (o:=.dK []) (t':=s.toks) (fun _ _ q=>Heap.get?_push_of_some _ q) (Nat.le_refl _) (dk_empty s.heap I.big),rfl,h _ (I.hok.fresh (Nat.le_refl _))⟩
end
end L2
set_option maxHeartbeats 4000000
namespace L2
open PySem PySem.Spec PyProof.Rows
def PTs (Y:Cx) (ifs:List Expr) (t:TT):Prop :=
 ∀ (pins:List (Addr × Obj)) (s:Shared) (σ:St) (H:Hp) (Q:Bool->Hp->Prop),Inv Y pins σ H s->t σ H Q ->
  wpAny (model Y.prog Y.w) Y.A (forIn ifs true fun c r=>if r=true then do let ok <- isTrue c Y.env (eval c Y.env);pure (ForInStep.yield ok) else pure (ForInStep.yield r)) (TP Y pins σ Q) Y.xe s
theorem pts_nil {Y:Cx}:PTs Y [] (fun _ H Q=>Q true H):=by
 intro pins s σ H Q I h
 rw [List.forIn_nil]
 exact wpAny_pure ⟨H,I,h⟩
theorem pts_one {Y:Cx} {c:Expr} {t:TT} (hc:PT Y c t):PTs Y [c] t:=by
 intro pins s σ H Q I h
 rw [List.forIn_cons]
 refine wpAny_bind ?_
 rw [if_pos rfl]
 refine wpAny_bind (thn (hc pins s σ H Q I h) fun b s1 q=>wpAny_pure ?_)
 show wpAny _ _ (forIn [] b _) _ _ _
 rw [List.forIn_nil]
 exact wpAny_pure q
def LcW (prog:Program) (w:World) (A:Around) (elt:Expr) (gens:List Comprehension) (scope:Scope) (pos:Pos) (d:Nat) (acc:Value) (env:Env) (Q:Shared->Prop) (s:Shared):Prop :=
 match gens[d+1]? with
 | some g'=>(g'.is_async=0/\∀ x,foldedSetIterable g'.iter env x=pure x)/\wpAny (model prog w) A (eval g'.iter env) (fun x s4=>wpAny (model prog w) A (pyIter x) (fun itv s5 =>
   codeAny (model prog w) A (.compStart (.ListComp elt gens scope pos) (d+1) itv acc env) (fun r s6=>r=.ok .next/\Q s6) s5) (fun _ _=>False) s4) (fun _ _=>False) s
 | none=>wpAny (model prog w) A (eval elt env) (fun x s4=>wpAny (model prog w) A (call (.builtin "list.append") [acc,x]) (fun _ s5=>Q s5) (fun _ _=>False) s4) (fun _ _=>False) s
section
variable {prog:Program} {w:World} {A:Around} {R:Result->Shared->Prop} {s:Shared}
theorem compLoop_any {elt target iter:Expr} {ifs:List Expr} {gens:List Comprehension} {scope:Scope} {pos:Pos} {d:Nat} {it acc:Value} {env:Env} (hg:gens[d]?=some ⟨target,iter,ifs,0⟩) (I:Nat->Shared->Prop)
  (turn:∀ n s,I n s->wpAny (model prog w) A (pyNext it) (fun r s₁=>match r with
   | none=>R (.ok .next) s₁
   | some v=>wpAny (model prog w) A (letOwnedTupleGo target it v) (fun _ s₁'=>wpAny (model prog w) A (assign target env v) (fun _ s₂ =>
     wpAny (model prog w) A (forIn ifs true fun c r=>if r=true then do let ok <- isTrue c env (eval c env);pure (ForInStep.yield ok) else pure (ForInStep.yield r)) (fun ok s₃ =>
      if ok=true then LcW prog w A elt gens scope pos d acc env (fun s₅=>∃ m,m < n/\I m s₅) s₃
      else ∃ m,m < n/\I m s₃) (fun _ _=>False) s₂) (fun _ _=>False) s₁') (fun _ _=>False) s₁) (fun _ _=>False) s)
  (n:Nat) (h:I n s) :
  codeAny (model prog w) A (.compLoop (.ListComp elt gens scope pos) d it acc env) R s:=by
 refine codeAny_loop rfl I (fun n s hI=>?_) n h
 show wpAny _ A ((compTurn (.ListComp elt gens scope pos) d it acc env).onRaise (fun x=>do noteFrame x env;theTreesLotGoes x)) _ _ s
 refine wpAny_noted (wpAny_noRaise ?_)
 unfold compTurn
 dsimp only
 rw [hg]
 dsimp only
 refine wpAny_bind (wpAny_standAt (wpAny_bind (thn (turn n s hI) (fun r s₁ h₁=>?_))))
 cases r with
 | none=>exact wpAny_pure h₁
 | some v =>
  refine wpAny_bind (thn h₁ fun _ s₁' h₁=>wpAny_bind (thn h₁ fun _ s₂ h₂=>wpAny_bind (thn h₂ fun ok s₃ h₃=>?_)))
  cases ok with
  | false=>exact wpAny_pure ⟨rfl,h₃⟩
  | true =>
   rw [if_pos rfl] at h₃ ⊢
   unfold LcW at h₃
   cases e:gens[d+1]? with
   | none =>
    rw [e] at h₃
    exact wpAny_bind (wpAny_bind (thn h₃ fun x s₄ h₄=>wpAny_bind (thn h₄ fun _ s₅ h₅=>wpAny_pure (wpAny_pure ⟨rfl,h₅⟩))))
   | some g' =>
    rw [e] at h₃
    dsimp only at h₃ ⊢
    obtain ⟨⟨ha,hf⟩,h₃⟩:=h₃
    refine wpAny_bind (thn h₃ fun x s₄ h₄=>wpAny_bind (wpAny_standAt ?_))
    rw [ha,if_neg (by decide)]
    refine wpAny_bind (wpAny_of_eq (hf x) (wpAny_bind (wpAny_holding ?_)))
    rw [if_neg (by decide)]
    refine thn h₄ fun itv s₅ h₅=>wpAny_bind (wpAny_runOwn (codeAny_mono h₅ fun r s₆ ⟨hr,q⟩=>?_))
    subst hr
    exact wpAny_pure ⟨rfl,q⟩
theorem compStart_any {elt target iter:Expr} {ifs:List Expr} {gens:List Comprehension} {scope:Scope} {pos:Pos} {d:Nat} {it acc:Value} {env:Env} (hg:gens[d]?=some ⟨target,iter,ifs,0⟩)
  (h0:codeAny (model prog w) A (.compLoop (.ListComp elt gens scope pos) d it acc env) R s)
  (h:wpAny (model prog w) A (pyIter it) (fun it' s'=>codeAny (model prog w) A (.compLoop (.ListComp elt gens scope pos) d it' acc env) R s') (fun _ _=>False) s) :
  codeAny (model prog w) A (.compStart (.ListComp elt gens scope pos) d it acc env) R s:=by
 refine codeAny_of_tree ?_
 show wpAny _ _ ((compStart (.ListComp elt gens scope pos) d it acc env).onRaise (fun x=>do noteFrame x env;standAt theWindowsPlace)) _ _ s
 refine wpAny_notedAt (wpAny_noRaise ?_)
 unfold compStart
 have hc:clausesOf (.ListComp elt gens scope pos)=gens:=rfl
 rw [hc,hg]
 show wpAny _ _ (ask >>= _) _ _ s
 refine wpAny_bind (wpAny_askSetting (wpAny_ite ?_))
 split
 ·first
   | exact wpAny_bind (wpAny_pure (wpAny_pure (And.intro rfl h0)))
   | exact wpAny_pure (And.intro rfl h0)
 ·first
   | exact wpAny_bind (wpAny_rule (wpAny_bind (wpAny_standAt (wpAny_bind (wpAny_mono h (fun it' s' h'=>wpAny_pure (And.intro rfl h')) fun _ _ x=>x)))))
   | (refine wpAny_bind (wpAny_rule ?_);show wpAny _ _ (standAt iter.pos >>= _) _ _ s;exact wpAny_bind (wpAny_standAt (wpAny_bind (wpAny_mono h (fun it' s' h'=>wpAny_pure (And.intro rfl h')) fun _ _ x=>x))))
end
def loopT (J:It) (g:TG) (tb:TS):TS:=fun D σ H=>∃ W:Nat->Nat->St->Hp->Prop,(∃ m,W 0 m σ H)/\∀ i m σ H,W i m σ H ->
 (J.stop i H/\D.nx σ H)\/(J.go i H/\∃ N:St->Hp->Prop,(∀ σ' H',N σ' H'->∃ m',m' < m/\W (i+1) m' σ' H')/\∀ x H',J.yld i H x H'->g x σ H' fun σ2 H2=>tb { D with nx:=N,ct:=N,bk:=D.nx } σ2 H2)
def tIfB (ti:TT) (tb:TS):TS:=fun D σ H=>ti σ H fun b H1=>if b=true then tb D σ H1 else D.nx σ H1
def PB (Y:Cx) (elt:Expr) (gens:List Comprehension) (scope:Scope) (pos:Pos) (d:Nat) (acc:Addr) (tb:TS):Prop :=
 ∀ (pins:List (Addr × Obj)) (s:Shared) (σ:St) (H:Hp) (D:Ends),Inv Y pins σ H s->tb D σ H->LcW Y.prog Y.w Y.A elt gens scope pos d (.ref acc) Y.env (fun s'=>∃ σ' H',Inv Y pins σ' H' s'/\D.nx σ' H') s
section
variable {Y:Cx} {elt:Expr} {gens:List Comprehension} {scope:Scope} {pos:Pos} {d:Nat} {acc:Addr}
def tEmit (acc:Addr) (te:TE):TS:=fun D σ H=>te σ H fun v H1=>∃ xs,H1 acc=some (.lst xs)/\xs.length < sizeLine/\D.nx σ (upd H1 acc (.lst (xs++[v])))
theorem pb_emit {te:TE} (hg:gens[d+1]?=none) (hx:Y.xe=fun _ _=>False) (he:PE Y elt te):PB Y elt gens scope pos d acc (tEmit acc te):=by
 intro pins s σ H D I h
 unfold LcW
 rw [hg]
 dsimp only
 have he':=he pins s σ H _ I h
 rw [hx] at he'
 refine thn he' fun u s1 ⟨v,H1,I1,r1,xs,e,hl,q⟩=>?_
 have a2:=mt_append pins s1 σ H1 (.ref acc) [v] (.ref acc) [u] (fun _ H2=>D.nx σ H2) I1 rfl (.cons r1 .nil) ⟨acc,xs,v,rfl,rfl,e,hl,q⟩
 rw [hx] at a2
 exact thn a2 fun _ s2 ⟨_,H2,I2,_,q2⟩=>⟨σ,H2,I2,q2⟩
theorem lc_loop {tg iter:Expr} {ifs:List Expr} {g:TG} {ti:TT} {tb:TS} {pins:List (Addr × Obj)} {s:Shared} {σ:St} {H:Hp} {D:Ends} {J:It} {fp:List Addr} {it:Addr} {tn:Nat->Heap->Prop}
  (hgd:gens[d]?=some ⟨tg,iter,ifs,0⟩) (hx:Y.xe=fun _ _=>False) (hc:Y.calm=true) (hg:PG Y tg g) (ht:PTs Y ifs ti) (hb:PB Y elt gens scope pos d acc tb)
  (I:Inv Y pins σ H s) (T:Turn Y.prog Y.w Y.K tg J fp it tn) (st:tn 0 s.heap) (f2:∀ b∈fp,FpOk Y pins H b) (h:loopT J g (tIfB ti tb) D σ H) :
  codeAny (model Y.prog Y.w) Y.A (.compLoop (.ListComp elt gens scope pos) d (.ref it) (.ref acc) Y.env) (fun r s'=>r=.ok .next/\∃ σ' H',Inv Y pins σ' H' s'/\D.nx σ' H') s:=by
 obtain ⟨W,⟨m0,w0⟩,turn⟩:=h
 have stat:∀ {H':Hp},(∀ b∈fp,H' b=none)->∀ b∈fp,FpOk Y pins H' b:=fun hn b hb=>⟨hn b hb,(f2 b hb).2⟩
 refine compLoop_any hgd (fun n s'=>∃ i σ' H',Inv Y pins σ' H' s'/\tn i s'.heap/\(∀ b∈fp,H' b=none)/\W i n σ' H') ?_ m0 ⟨0,σ,H,I,st,fun b hb=>(f2 b hb).1,w0⟩
 rintro n s3 ⟨i,σ3,H3,I3,st3,fr3,w3⟩
 rcases turn i n σ3 H3 w3 with ⟨stop,qn⟩|⟨go,N,hN,step⟩
 ·refine thn (T.done Y rfl rfl rfl hc i pins s3 σ3 H3 _ I3 (stat fr3) st3 stop) fun r s4 ⟨hr,I4⟩=>?_
  subst hr
  exact ⟨rfl,σ3,H3,I4,qn⟩
 ·refine thn (T.item Y rfl rfl rfl hc i pins s3 σ3 H3 _ I3 (stat fr3) st3 go) fun r s4 ⟨u,hr,h4⟩=>?_
  subst hr
  refine thn h4 fun _ s5 ⟨x,H5,I5,r5,y5,st5,fr5⟩=>?_
  have I5':=I5.pinned (stat fr5) (T.obj _ _ st5)
  have a1:=hg _ s5 σ3 H5 x u _ I5' r5 (step x H5 y5)
  rw [hx] at a1
  refine thn a1 fun _ s6 ⟨σ6,H6,I6,q6⟩=>?_
  have a2:=ht _ s6 σ6 H6 _ I6 q6
  rw [hx] at a2
  refine thn a2 fun ok s7 ⟨H7,I7,q7⟩=>?_
  have again:∀ {s8:Shared} {σ7:St} {H7:Hp},Inv Y (pins++pinsAt fp s5.heap) σ7 H7 s8->N σ7 H7->∃ m,m < n/\∃ i σ' H',Inv Y pins σ' H' s8/\tn i s8.heap/\(∀ b∈fp,H' b=none)/\W i m σ' H':=fun {s8 σ7 H7} I7 n7=>by
   obtain ⟨m',hm,w7⟩:=hN σ7 H7 n7
   refine ⟨m',hm,i+1,σ7,H7,I7.unpinned,T.keep _ _ _ st5 fun b hb o e=>(I7.pin (b,o) (mem_append_right _ (mem_append_right _ (mem_pinsAt hb e)))).1,fun b hb=>?_,w7⟩
   obtain ⟨o,e,d⟩:=T.obj _ _ st5 b hb
   exact (I7.pin (b,o) (mem_append_right _ (mem_append_right _ (mem_pinsAt hb e)))).2.1
  cases ok with
  | false =>
   rw [if_neg Bool.false_ne_true] at q7 ⊢
   exact again I7 q7
  | true =>
   rw [if_pos rfl] at q7 ⊢
   have a3:=hb _ s7 σ6 H7 _ I7 q7
   unfold LcW at a3 ⊢
   cases e:gens[d+1]? with
   | none =>
    rw [e] at a3
    exact thn a3 fun x s8 h8=>thn h8 fun _ s9 ⟨σ9,H9,I9,n9⟩=>again I9 n9
   | some g' =>
    rw [e] at a3
    exact ⟨a3.1,thn a3.2 fun x s8 h8=>thn h8 fun _ s9 h9=>codeAny_mono h9 fun r s10 ⟨hr,σ9,H9,I9,n9⟩=>⟨hr,again I9 n9⟩⟩
theorem pb_for {tg iter:Expr} {ifs:List Expr} {wi:TI} {g:TG} {ti:TT} {tb:TS} (hgd:gens[d+1]?=some ⟨tg,iter,ifs,0⟩) (hx:Y.xe=fun _ _=>False) (hc:Y.calm=true) (hs:∀ x,foldedSetIterable iter Y.env x=pure x) (hi:PI Y tg iter wi) (hg:PG Y tg g) (ht:PTs Y ifs ti)
  (hb:PB Y elt gens scope pos (d+1) acc tb):PB Y elt gens scope pos d acc (tFor wi g (tIfB ti tb)):=by
 intro pins s σ H D I h
 unfold LcW
 rw [hgd]
 dsimp only
 refine ⟨⟨rfl,hs⟩,?_⟩
 have a1:=hi pins s σ H _ I h
 rw [hx] at a1
 refine thn a1 fun x s1 h1=>thn h1 fun itv s2 ⟨it,fp,tn,J,H2,e,I2,T,st2,f2,q2⟩=>?_
 subst e
 have lp:=lc_loop (acc:=acc) hgd hx hc hg ht hb I2 T st2 f2 q2
 exact compStart_any hgd lp (T.self _ _ _ _ _ st2 lp)
end
def clFrom (env:Env):List (Str × NameKind)->List (Str × Addr)->List (Str × Addr)
 | [],acc=>acc
 | (n,k)::r,acc=>if k==.free then clFrom env r ((n,(env.cells.lookup n).getD 0)::acc) else clFrom env r acc
theorem clFrom_go {env:Env} (f:Str × NameKind->List (Str × Addr)->Sem (ForInStep (List (Str × Addr))))
  (hf:∀ n k cs,f (n,k) cs=if k==.free then (do let c <- cellOf env n;pure (.yield ((n,c)::cs))) else pure (.yield cs)) :
  ∀ (names:List (Str × NameKind)) (acc:List (Str × Addr)),(∀ x∈names,x.2=.free->∃ c,env.cells.lookup x.1=some c)->forIn names acc f=pure (clFrom env names acc)
 | [],acc,_=>by rw [List.forIn_nil];rfl
 | (n,k)::r,acc,h=>by
  rw [List.forIn_cons,hf]
  unfold clFrom
  by_cases hk:(k==NameKind.free)=true
  ·rw [if_pos hk,if_pos hk]
   obtain ⟨c,hc⟩:=h (n,k) mem_cons_self (by simpa using hk)
   have hc':env.cells.lookup n=some c:=hc
   have e:cellOf env n=pure c:=by unfold cellOf;rw [hc']
   rw [e,hc']
   exact clFrom_go f hf r _ fun x hx=>h x (mem_cons_of_mem _ hx)
  ·rw [if_neg hk,if_neg hk]
   exact clFrom_go f hf r _ fun x hx=>h x (mem_cons_of_mem _ hx)
theorem closureFor_cl {scope:Scope} {env:Env} (h:∀ x∈scope.names,x.2=.free->∃ c,env.cells.lookup x.1=some c):closureFor scope env=pure (clFrom env scope.names []):=by
 unfold closureFor
 dsimp only
 rw [clFrom_go (env:=env) _ (fun n k cs=>by cases hk:k==NameKind.free<;>simp [hk]) scope.names [] h]
 rfl
theorem clFrom_look {env:Env} {x:Str} {c:Addr}:∀ (names:List (Str × NameKind)) (acc:List (Str × Addr)),(∀ y∈names,y.2=.free->∃ c,env.cells.lookup y.1=some c) ->
  (clFrom env names acc).lookup x=some c->(((x,NameKind.free)∈names/\env.cells.lookup x=some c)\/acc.lookup x=some c)
 | [],acc,_,e=>.inr e
 | (n,k)::r,acc,h,e=>by
  unfold clFrom at e
  have hr:∀ y∈r,y.2=.free->∃ c,env.cells.lookup y.1=some c:=fun y hy=>h y (mem_cons_of_mem _ hy)
  by_cases hk:(k==NameKind.free)=true
  ·rw [if_pos hk] at e
   have hk':k=.free:=by simpa using hk
   subst hk'
   rcases clFrom_look r _ hr e with ⟨h1,h2⟩|h1
   ·exact .inl ⟨mem_cons_of_mem _ h1,h2⟩
   ·rw [List.lookup_cons] at h1
    cases q:x==n with
    | true =>
     rw [q] at h1
     have:x=n:=by simpa using q
     subst this
     obtain ⟨c',hc'⟩:=h (x,.free) mem_cons_self rfl
     have hc'':env.cells.lookup x=some c':=hc'
     rw [hc''] at h1
     exact .inl ⟨mem_cons_self,by rw [hc''];exact h1⟩
    | false =>
     rw [q] at h1
     exact .inr h1
  ·rw [if_neg hk] at e
   rcases clFrom_look r _ hr e with ⟨h1,h2⟩|h1
   ·exact .inl ⟨mem_cons_of_mem _ h1,h2⟩
   ·exact .inr h1
theorem clFrom_some {env:Env} {x:Str}:∀ (names:List (Str × NameKind)) (acc:List (Str × Addr)),(x,NameKind.free)∈names\/(acc.lookup x).isSome=true->((clFrom env names acc).lookup x).isSome=true
 | [],acc,h=>by rcases h with h|h;cases h;exact h
 | (n,k)::r,acc,h=>by
  unfold clFrom
  by_cases hk:(k==NameKind.free)=true
  ·rw [if_pos hk]
   refine clFrom_some r _ ?_
   rw [List.lookup_cons]
   cases q:x==n with
   | true=>exact .inr rfl
   | false =>
    rcases h with h|h
    ·rcases mem_cons.mp h with e|e
     ·cases e;simp at q
     ·exact .inl e
    ·exact .inr h
  ·rw [if_neg hk]
   refine clFrom_some r _ ?_
   rcases h with h|h
   ·rcases mem_cons.mp h with e|e
    ·cases e;exact absurd rfl hk
    ·exact .inl e
   ·exact .inr h
theorem clFrom_mem {env:Env} {x:Str} {c:Addr}:∀ (names:List (Str × NameKind)) (acc:List (Str × Addr)),(∀ y∈names,y.2=.free->∃ c,env.cells.lookup y.1=some c)->(x,c)∈clFrom env names acc->env.cells.lookup x=some c\/(x,c)∈acc
 | [],acc,_,e=>.inr e
 | (n,k)::r,acc,h,e=>by
  unfold clFrom at e
  have hr:∀ y∈r,y.2=.free->∃ c,env.cells.lookup y.1=some c:=fun y hy=>h y (mem_cons_of_mem _ hy)
  by_cases hk:(k==NameKind.free)=true
  ·rw [if_pos hk] at e
   have hk':k=.free:=by simpa using hk
   subst hk'
   rcases clFrom_mem r _ hr e with h1|h1
   ·exact .inl h1
   ·rcases mem_cons.mp h1 with q|q
    ·obtain ⟨c',hc'⟩:=h (n,.free) mem_cons_self rfl
     have hc'':env.cells.lookup n=some c':=hc'
     rw [hc''] at q
     cases q
     exact .inl hc''
    ·exact .inr q
  ·rw [if_neg hk] at e
   exact clFrom_mem r _ hr e
theorem cellsFrom_look {x:Str} {c:Addr}:∀ (names:List (Str × NameKind)) (n:Nat) (acc:List (Str × Addr)),(cellsFrom n names acc).lookup x=some c->((x,NameKind.cell)∈names/\n<=c)\/acc.lookup x=some c
 | [],n,acc,e=>.inr e
 | (y,k)::r,n,acc,e=>by
  unfold cellsFrom at e
  by_cases hk:(k==NameKind.cell)=true
  ·rw [if_pos hk] at e
   have hk':k=.cell:=by simpa using hk
   subst hk'
   rcases cellsFrom_look r _ _ e with ⟨h1,h2⟩|h1
   ·exact .inl ⟨mem_cons_of_mem _ h1,by omega⟩
   ·rw [List.lookup_cons] at h1
    cases q:x==y with
    | true =>
     rw [q] at h1
     have:x=y:=by simpa using q
     subst this
     cases h1
     exact .inl ⟨mem_cons_self,Nat.le_refl _⟩
    | false=>rw [q] at h1;exact .inr h1
  ·rw [if_neg hk] at e
   rcases cellsFrom_look r _ _ e with ⟨h1,h2⟩|h1
   ·exact .inl ⟨mem_cons_of_mem _ h1,h2⟩
   ·exact .inr h1
theorem cellsFrom_old {x:Str}:∀ (names:List (Str × NameKind)) (n:Nat) (acc:List (Str × Addr)),(x,NameKind.cell)∉names->(cellsFrom n names acc).lookup x=acc.lookup x
 | [],n,acc,_=>rfl
 | (y,k)::r,n,acc,h=>by
  unfold cellsFrom
  have hr:(x,NameKind.cell)∉r:=fun z=>h (mem_cons_of_mem _ z)
  by_cases hk:(k==NameKind.cell)=true
  ·rw [if_pos hk,cellsFrom_old r _ _ hr,List.lookup_cons]
   cases q:x==y with
   | true =>
    have:x=y:=by simpa using q
    subst this
    have hk':k=.cell:=by simpa using hk
    subst hk'
    exact absurd mem_cons_self h
   | false=>rfl
  ·rw [if_neg hk]
   exact cellsFrom_old r _ _ hr
theorem cellsFrom_new:∀ (names:List (Str × NameKind)) (h:Heap) (acc:List (Str × Addr)) (lo:Nat),lo<=h.objs.size->(∀ y c,(y,c)∈acc->lo<=c->h.IsCell c none)->(acc.Pairwise fun x y=>lo<=x.2->x.2≠y.2)->(∀ y c,(y,c)∈acc->c < h.objs.size) ->
  (∀ y c,(y,c)∈cellsFrom h.objs.size names acc->lo<=c->(pushCells h names).IsCell c none)/\((cellsFrom h.objs.size names acc).Pairwise fun x y=>lo<=x.2->x.2≠y.2)
 | [],h,acc,lo,_,h1,h2,_=>⟨h1,h2⟩
 | (n,k)::r,h,acc,lo,hlo,h1,h2,h3=>by
  unfold cellsFrom pushCells
  by_cases hk:(k==NameKind.cell)=true
  ·rw [if_pos hk,if_pos hk]
   have:=cellsFrom_new r (h.push { cls:=.type "cell",data:=.cell none }) ((n,h.objs.size)::acc) lo (by rw [Heap.size_push];omega) (fun y c hm hc=>by
    rcases mem_cons.mp hm with e|hm
    ·cases e;exact ⟨_,Heap.get?_push_size _ rfl,rfl⟩
    ·exact (h1 y c hm hc).keeps fun b o e=>Heap.get?_push_of_some _ e) (List.pairwise_cons.mpr ⟨fun y hy _ e=>by
     have:=h3 y.1 y.2 hy
     have e':h.objs.size=y.2:=e
     exact absurd (e' ▸ this) (Nat.lt_irrefl _),h2⟩) (fun y c hm=>by
    rw [Heap.size_push]
    rcases mem_cons.mp hm with e|hm
    ·cases e;exact Nat.lt_succ_self _
    ·exact Nat.lt_succ_of_lt (h3 y c hm))
   rw [Heap.size_push] at this
   exact this
  ·rw [if_neg hk,if_neg hk]
   exact cellsFrom_new r h acc lo hlo h1 h2 h3
def inEnv (scope:Scope) (env:Env) (C:Addr):Env :=
 { scope:=relabel scope env,locals:=C,globals:=env.globals,cells:=cellsFrom (C+1) scope.names (clFrom env scope.names []),qual:=env.qual,func:=none,code:=env.code,frame:=env.frame,builtins:=env.builtins }
theorem newEnv_in {M:Model} {A:Around} {E:Value->Shared->Prop} {s:Shared} {scope:Scope} {env:Env} {Q:Env->Shared->Prop}
  (h:Q (newEnv scope s.heap.objs.size env.globals (cellsFrom (s.heap.objs.size+1) scope.names (clFrom env scope.names [])) env.qual none .none (some env) builtinsNs)
   { s with heap:=pushCells (s.heap.push { cls:=.type "dict",data:=.dict #[] }) scope.names }) :
  wpAny M A (newFunctionEnv scope env.globals (clFrom env scope.names []) [] env.qual none .none (some env)) Q E s:=by
 simp only [newFunctionEnv,Option.isSome_some,if_true]
 refine wpAny_bind (wpAny_alloc ?_)
 refine wpAny_bind (wpAny_layCells _ (fun name kind cells=>by cases hkc:kind==NameKind.cell<;>simp [hkc]) _ _ _ _ ?_)
 rw [show ({ s with heap:=s.heap.push { cls:=.type "dict",data:=.dict #[] } }:Shared).heap.objs.size=s.heap.objs.size+1 from Heap.size_push ..]
 rw [List.forIn_nil]
 exact wpAny_bind (wpAny_pure (wpAny_pure h))
def Cx.inn (X:Cx) (scope:Scope) (N:List Str) (s₃:Shared) (H₃:Hp) (fp:List Addr):Cx :=
 { X with N:=N,s₀:=s₃,H₀:=H₃,env:=inEnv scope X.env s₃.heap.objs.size,outer:=X.stack,stack:=X.stack,ex:=fp,fn:=fun x=>scope.names.lookup x==some .cell,pn:=[],xe:=fun _ _=>False }
def capN (own:List Str) (cap:List (Str × Nat)):List Str:=own++cap.map (·.1)
def capS (own:List Str) (cap:List (Str × Nat)) (σ:St):St:=own.map (fun _=>none)++cap.map fun p=>(σ[p.2]?).join
structure LcScope (X:Cx) (scope:Scope) (own:List Str) (cap:List (Str × Nat)):Prop where
 kind:scope.kind=.function
 nd:(scope.names.map (·.1)).Nodup
 loc:∀ x∈scope.names,x.2=.local->scope.names.lookup x.1=some .local
 fre:∀ x∈scope.names,x.2=.free->X.env.kindOf x.1=some .cell\/X.env.kindOf x.1=some .free
 cap:∀ p∈cap,X.N[p.2]?=some p.1/\(p.1,NameKind.free)∈scope.names
theorem nodup_kind {names:List (Str × NameKind)} (nd:(names.map (·.1)).Nodup) {x:Str} {k k':NameKind} (h:(x,k)∈names) (h':(x,k')∈names):k=k':=by
 induction names with
 | nil=>cases h
 | cons p r ih =>
  rw [map_cons,nodup_cons] at nd
  rcases mem_cons.mp h with e|h<;>rcases mem_cons.mp h' with e'|h'
  ·rw [<-e] at e';cases e';rfl
  ·exact absurd (mem_map.mpr ⟨_,h',by rw [<-e]⟩) nd.1
  ·exact absurd (mem_map.mpr ⟨_,h,by rw [<-e']⟩) nd.1
  ·exact ih nd.2 h h'
theorem nodup_look {names:List (Str × NameKind)} (nd:(names.map (·.1)).Nodup) {x:Str} {k:NameKind} (h:(x,k)∈names):names.lookup x=some k:=by
 cases e:names.lookup x with
 | some k'=>rw [nodup_kind nd h (PySem.mem_of_lookup e)]
 | none =>
  have:∀ p∈names,(x==p.1)=false:=by
   have:=List.lookup_eq_none_iff.mp e
   intro p hp
   have:=this p hp
   simpa using this
  have:=this _ h
  simp at this
theorem name_of_addr' {lo:Nat}:∀ {cs:List (Str × Addr)},(cs.Pairwise fun x y=>lo<=x.2->x.2≠y.2)->∀ {n n':Str} {c:Addr},(n,c)∈cs->(n',c)∈cs->lo<=c->n=n'
 | x::r,hp,n,n',c,h,h',hc=>by
  obtain ⟨h1,h2⟩:=List.pairwise_cons.mp hp
  rcases mem_cons.mp h with e|h<;>rcases mem_cons.mp h' with e'|h'
  ·rw [<-e'] at e;exact (Prod.mk.inj e).1
  ·exact absurd (by rw [<-e]) (h1 _ h' (by rw [<-e];exact hc))
  ·exact absurd (by rw [<-e']) (h1 _ h (by rw [<-e'];exact hc))
  ·exact name_of_addr' h2 h h' hc
theorem map_look {f:Str->NameKind->Bool} {x:Str}:∀ {names:List (Str × NameKind)},(names.map fun p=>if f p.1 p.2=true then (p.1,NameKind.cell) else p).lookup x=(names.lookup x).map fun k=>if f x k=true then NameKind.cell else k
 | []=>rfl
 | (n,k)::r=>by
  rw [map_cons]
  have ih:=@map_look f x r
  cases hx:x==n with
  | true =>
   have:x=n:=by simpa using hx
   subst this
   cases hc:f x k<;>simp [List.lookup_cons,hc]
  | false =>
   cases hc:f n k<;>simp only [List.lookup_cons,hx,hc,if_true,if_false,Bool.false_eq_true]<;>exact ih
theorem relabel_look {scope:Scope} {env:Env} {x:Str}:(relabel scope env).names.lookup x =
  (scope.names.lookup x).map fun k=>if (k==NameKind.free&&env.scope.kind==.function&&env.kindOf x==some .cell)=true then NameKind.cell else k:=by
 have e:(relabel scope env).names=scope.names.map fun p=>if (fun n k=>(k==NameKind.free&&env.scope.kind==.function&&env.kindOf n==some .cell)) p.1 p.2=true then (p.1,NameKind.cell) else p:=by
  unfold relabel
  dsimp only
 rw [e]
 exact map_look (f:=fun n k=>(k==NameKind.free&&env.scope.kind==.function&&env.kindOf n==some .cell))
section
variable {X:Cx} {pins:List (Addr × Obj)} {σ:St} {H:Hp} {s:Shared} {scope:Scope} {own:List Str} {cap:List (Str × Nat)} {fp:List Addr}
theorem inv_in (L:LcScope X scope own cap) (I:Inv X pins σ H s) (hf:∀ b∈fp,FpOk X pins H b) (ho:∀ b∈fp,∃ o,s.heap.get? b=some o) :
  Inv (X.inn scope (capN own cap) s H fp) [] (capS own cap σ) H { s with heap:=pushCells (s.heap.push { cls:=.type "dict",data:=.dict #[] }) scope.names }:=by
 have hcl:∀ x∈scope.names,x.2=.free->∃ c,X.env.cells.lookup x.1=some c:=fun x hx hk=>I.ok.has x.1 (L.fre x hx hk)
 have old:∀ x c,(clFrom X.env scope.names []).lookup x=some c->(x,NameKind.free)∈scope.names/\X.env.cells.lookup x=some c:=fun x c e=>by
  rcases clFrom_look _ _ hcl e with h|h
  ·exact h
  ·cases h
 have keep:∀ b o,s.heap.get? b=some o->(pushCells (s.heap.push { cls:=.type "dict",data:=.dict #[] }) scope.names).get? b=some o:=fun b o e=>pushCells_keeps _ _ b o (Heap.get?_push_of_some _ e)
 have look:∀ x c,(X.inn scope (capN own cap) s H fp).env.cells.lookup x=some c->((x,NameKind.cell)∈scope.names/\s.heap.objs.size+1<=c)\/((x,NameKind.free)∈scope.names/\X.env.cells.lookup x=some c):=fun x c e=>by
  rcases cellsFrom_look _ _ _ e with h|h
  ·exact .inl h
  ·exact .inr (old x c h)
 have oldlt:∀ x c,X.env.cells.lookup x=some c->c < s.heap.objs.size:=fun x c e=>by
  obtain ⟨v,hv⟩:=I.cell x c e
  exact hv.lt
 have nf:∀ x,(x,NameKind.free)∈scope.names->(x,NameKind.cell)∉scope.names:=fun x h h'=>by cases nodup_kind L.nd h h'
 have ml:∀ y c,(y,c)∈clFrom X.env scope.names []->c < s.heap.objs.size:=fun y c hm=>by
  rcases clFrom_mem _ _ hcl hm with h|h
  ·exact oldlt y c h
  ·cases h
 have clnd:(clFrom X.env scope.names []).Pairwise fun x y=>s.heap.objs.size+1<=x.2->x.2≠y.2:=List.pairwise_iff_forall_sublist.mpr fun {a b} hs hle=>by
  have:a∈clFrom X.env scope.names []:=hs.subset mem_cons_self
  have:=ml a.1 a.2 this
  exact absurd (Nat.lt_of_le_of_lt hle this) (Nat.not_lt.mpr (Nat.le_succ _))
 have nst:=cellsFrom_new scope.names (s.heap.push { cls:=.type "dict",data:=.dict #[] }) (clFrom X.env scope.names []) (s.heap.objs.size+1) (by rw [Heap.size_push];exact Nat.le_refl _)
  (fun y c hm hc=>absurd (Nat.lt_of_le_of_lt hc (ml y c hm)) (Nat.not_lt.mpr (Nat.le_succ _))) clnd (fun y c hm=>by rw [Heap.size_push];exact Nat.lt_succ_of_lt (ml y c hm))
 rw [Heap.size_push] at nst
 have newcell:∀ x c,(X.inn scope (capN own cap) s H fp).env.cells.lookup x=some c->s.heap.objs.size+1<=c->(pushCells (s.heap.push { cls:=.type "dict",data:=.dict #[] }) scope.names).IsCell c none:=fun x c e hc=>nst.1 x c (PySem.mem_of_lookup e) hc
 have kindY:∀ x,(X.inn scope (capN own cap) s H fp).env.kindOf x=(scope.names.lookup x).map fun k=>if (k==NameKind.free&&X.env.scope.kind==.function&&X.env.kindOf x==some .cell)=true then NameKind.cell else k:=fun x=>relabel_look
 refine ⟨⟨I.ok.mod,L.kind,I.ok.glob,I.ok.blt,Nat.le_refl _,fun x y c h1 h2=>?inj,fun x hx=>?has,fun x c hx h=>?cab,I.ok.hd,I.ok.frames,.inl rfl,fun b hb=>⟨?ex1,fun x c h=>?ex2⟩,fun b o e=>I.bs b o e,Nat.le_trans I.ok.bsz I.sz,fun b o e hb=>?noex,fun b hb hb'=>?exfs,I.stack,I.stkFree⟩,
  rfl,I.bare,Un.kept keep,⟨fun _=>none,?ns,fun i x v h1 h2 h3=>?look⟩,fun x c h=>?cell,I.fresh,fun x c h=>?freeC,fun p hp=>absurd (show p∈([]:List (Addr × Obj)) from hp) (by simp),I.hok.kept keep,?len⟩
 case inj =>
  rcases look x c h1 with ⟨_,g1⟩|⟨_,g1⟩<;>rcases look y c h2 with ⟨_,g2⟩|⟨_,g2⟩
  ·exact name_of_addr' nst.2 (PySem.mem_of_lookup h1) (PySem.mem_of_lookup h2) g1
  ·exact absurd (Nat.lt_of_le_of_lt g1 (oldlt y c g2)) (Nat.not_lt.mpr (Nat.le_succ _))
  ·exact absurd (Nat.lt_of_le_of_lt g2 (oldlt x c g1)) (Nat.not_lt.mpr (Nat.le_succ _))
  ·exact I.ok.inj x y c g1 g2
 case has =>
  rw [kindY] at hx
  cases e:scope.names.lookup x with
  | none=>rw [e] at hx;rcases hx with h|h<;>cases h
  | some k =>
   rw [e] at hx
   have hm:=PySem.mem_of_lookup e
   have hk:k=.cell\/k=.free:=by
    by_cases hc:(k==NameKind.free&&X.env.scope.kind==.function&&X.env.kindOf x==some .cell)=true
    ·simp only [Bool.and_eq_true,beq_iff_eq] at hc
     exact .inr hc.1.1
    ·rw [Option.map_some,if_neg hc] at hx
     rcases hx with h|h
     ·exact .inl (Option.some.inj h)
     ·exact .inr (Option.some.inj h)
   rcases hk with rfl|rfl
   ·exact Option.isSome_iff_exists.mp (PySem.W.cellsFrom_some scope.names _ _ (.inl e))
   ·exact Option.isSome_iff_exists.mp (PySem.W.cellsFrom_some scope.names _ _ (.inr (clFrom_some _ _ (.inl hm))))
 case cab =>
  have hx':scope.names.lookup x=some .cell:=by simpa [Cx.inn] using hx
  rcases look x c h with ⟨_,g⟩|⟨g,_⟩
  ·exact Nat.le_of_succ_le g
  ·exact absurd (PySem.mem_of_lookup hx') (nf x g)
 case ex1 =>
  obtain ⟨o,e⟩:=ho b hb
  exact Nat.ne_of_lt (Heap.lt_size e)
 case ex2 =>
  obtain ⟨o,e⟩:=ho b hb
  rcases look x c h with ⟨_,g⟩|⟨_,g⟩
  ·rintro rfl
   exact absurd (Nat.lt_of_le_of_lt g (Heap.lt_size e)) (Nat.not_lt.mpr (Nat.le_succ _))
  ·exact (hf b hb).2.2.2.2.1 x c g
 case noex =>
  rcases (hf b hb).2.2.2.1 with g|g
  ·exact I.ok.noex b o e g
  ·exact absurd (Nat.lt_of_lt_of_le (Heap.lt_size e) I.ok.bsz) (Nat.not_lt.mpr g)
 case exfs =>
  rcases mem_cons.mp (I.stkSub b hb') with g|g
  ·exact (hf b hb).2.1 g
  ·exact (hf b hb).2.2.1 g
 case ns=>exact (Heap.Ns.new s.heap (.type "dict")).keeps (pushCells_keeps _ _)
 case look =>
  obtain ⟨j,p,hp,rfl,hv⟩:∃ (j:Nat) (p:Str × Nat),cap[j]?=some p/\p.1=x/\σ[p.2]?=some (some v):=by
   have h1:(own++cap.map (·.1))[i]?=some x:=h1
   unfold capS at h2
   by_cases hi:i < own.length
   ·rw [List.getElem?_append_left (by simpa using hi),List.getElem?_map] at h2
    cases e:own[i]? with
    | none=>rw [e] at h2;cases h2
    | some y=>rw [e] at h2;cases h2
   ·rw [List.getElem?_append_right (by omega)] at h1
    rw [List.getElem?_append_right (by simpa using hi)] at h2
    rw [length_map] at h2
    rw [List.getElem?_map] at h1 h2
    cases e:cap[i - own.length]? with
    | none=>rw [e] at h1;cases h1
    | some p =>
     rw [e] at h1 h2
     refine ⟨_,p,e,Option.some.inj h1,?_⟩
     have h2:(σ[p.2]?).join=some v:=Option.some.inj h2
     cases q:σ[p.2]? with
     | none=>rw [q] at h2;cases h2
     | some z=>rw [q] at h2;exact congrArg some h2
  obtain ⟨c1,c2⟩:=L.cap p (List.mem_of_getElem? hp)
  have hk:=L.fre _ c2 rfl
  obtain ⟨m,hn,hl⟩:=I.loc
  obtain ⟨u,ru,lk⟩:=hl p.2 p.1 v c1 hv (.inr hk)
  refine ⟨u,ru,.inr ?_⟩
  rcases lk with ⟨lk,_⟩|⟨_,c,e,hc⟩
  ·rcases hk with hk|hk
   ·have:X.env.kindOf p.1=some .cell:=hk
    rw [lk] at this;cases this
   ·have:X.env.kindOf p.1=some .free:=hk
    rw [lk] at this;cases this
  ·have hlk:=nodup_look L.nd c2
   refine ⟨?_,c,?_,hc.keeps keep⟩
   ·rw [kindY,hlk,Option.map_some]
    split
    ·exact .inl rfl
    ·exact .inr rfl
   ·show (cellsFrom _ scope.names _).lookup p.1=some c
    rw [cellsFrom_old _ _ _ (nf _ c2)]
    obtain ⟨c',e'⟩:=Option.isSome_iff_exists.mp (clFrom_some (env:=X.env) scope.names [] (.inl c2))
    rw [e',<-e]
    exact (old _ _ e').2.symm
 case cell =>
  rcases look x c h with ⟨_,g⟩|⟨_,g⟩
  ·exact ⟨_,newcell x c h g⟩
  ·obtain ⟨v,hv⟩:=I.cell x c g
   exact ⟨v,hv.keeps keep⟩
 case freeC =>
  rcases look x c h with ⟨_,g⟩|⟨_,g⟩
  ·exact I.hok.fresh (Nat.le_of_succ_le g)
  ·exact I.freeC x c g
 case len =>
  show (capS own cap σ).length=(capN own cap).length
  unfold capS capN
  simp
end
def tLC (wi:TI) (g:TG) (ti:TT) (tb:Addr->TS) (own:List Str) (cap:List (Str × Nat)):TE:=fun σ H Q=>wi σ H fun J H1=>∀ acc,H1 acc=none ->
 loopT J g (tIfB ti (tb acc)) { nx:=fun _ H'=>Q (.ref acc) H',rt:=fun _ _=>False } (capS own cap σ) (upd H1 acc (.lst []))
theorem pe_lc {X:Cx} {elt tg iter:Expr} {ifs:List Expr} {rest:List Comprehension} {scope:Scope} {pos:Pos} {wi:TI} {g:TG} {ti:TT} {tb:Addr->TS} (own:List Str) (cap:List (Str × Nat)) (hc:X.calm=true) (L:LcScope X scope own cap) (hi:PI X tg iter wi)
  (hin:∀ (s₃:Shared) (H₃:Hp) (fp:List Addr) (acc:Addr),PG (X.inn scope (capN own cap) s₃ H₃ fp) tg g/\PTs (X.inn scope (capN own cap) s₃ H₃ fp) ifs ti/\PB (X.inn scope (capN own cap) s₃ H₃ fp) elt (⟨tg,iter,ifs,0⟩::rest) scope pos 0 acc (tb acc))
  (hs:∀ x,foldedSetIterable iter X.env x=pure x:=by intro _;rfl):PE X (.ListComp elt (⟨tg,iter,ifs,0⟩::rest) scope pos) (tLC wi g ti tb own cap):=by
 intro pins s σ H Q I h
 rw [eval_ListComp]
 have hcl:∀ x∈scope.names,x.2=.free->∃ c,X.env.cells.lookup x.1=some c:=fun x hx hk=>I.ok.has x.1 (L.fre x hx hk)
 refine wpAny_comprehension_free (use:=none) rfl hs (closureFor_cl hcl) L.kind L.loc (thn (hi pins s σ H _ I h) fun x s1 h1=>thn h1 fun itv s2 ⟨it,fp,tn,J,H2,e,I2,T,st2,f2,q2⟩=>?_)
 subst e
 refine wpAny_newObj_type ?_
 have I3:=I2.lnew (t':=s2.toks) (ys:=[]) (its:=[]) .nil (Nat.zero_le _)
 have fr2:H2 s2.heap.objs.size=none:=I2.fresh
 have f3:∀ b∈fp,FpOk X pins (upd H2 s2.heap.objs.size (.lst [])) b:=fun b hb=>by
  obtain ⟨o,eo,_⟩:=T.obj 0 _ st2 b hb
  obtain ⟨g1,g2⟩:=f2 b hb
  exact ⟨by rw [upd_ne (Nat.ne_of_lt (Heap.lt_size eo))];exact g1,g2⟩
 have k3:∀ b o,s2.heap.get? b=some o->(s2.heap.push { cls:=.type "list",data:=.seq ([]:List Value).toArray }).get? b=some o:=fun b o e=>Heap.get?_push_of_some _ e
 have st3:tn 0 (s2.heap.push { cls:=.type "list",data:=.seq ([]:List Value).toArray }):=T.keep 0 _ _ st2 fun b _ o e=>k3 b o e
 refine newEnv_in ?_
 have I4:=inv_in L I3 f3 fun b hb=>by obtain ⟨o,eo,_⟩:=T.obj 0 _ st3 b hb;exact ⟨o,eo⟩
 obtain ⟨hg,ht,hb⟩:=hin { s2 with heap:=s2.heap.push { cls:=.type "list",data:=.seq ([]:List Value).toArray },toks:=s2.toks } (upd H2 s2.heap.objs.size (.lst [])) fp s2.heap.objs.size
 have st4:=T.keep 0 _ (pushCells ((s2.heap.push { cls:=.type "list",data:=.seq ([]:List Value).toArray }).push { cls:=.type "dict",data:=.dict #[] }) scope.names) st3 fun b _ o e=>pushCells_keeps _ _ b o (Heap.get?_push_of_some _ e)
 have f4:∀ b∈fp,FpOk (X.inn scope (capN own cap) { s2 with heap:=s2.heap.push { cls:=.type "list",data:=.seq ([]:List Value).toArray },toks:=s2.toks } (upd H2 s2.heap.objs.size (.lst [])) fp) [] (upd H2 s2.heap.objs.size (.lst [])) b:=fun b hb =>
  ⟨(f3 b hb).1,(I4.ok.exf b hb).1,I4.ok.exfs b hb,.inl hb,(I4.ok.exf b hb).2,fun p hp=>absurd (show p∈([]:List (Addr × Obj)) from hp) (by simp)⟩
 have lp:=lc_loop (Y:=X.inn scope (capN own cap) { s2 with heap:=s2.heap.push { cls:=.type "list",data:=.seq ([]:List Value).toArray },toks:=s2.toks } (upd H2 s2.heap.objs.size (.lst [])) fp) (acc:=s2.heap.objs.size) (gens:=⟨tg,iter,ifs,0⟩::rest) (d:=0) rfl rfl hc hg ht hb I4 T st4 f4 (q2 _ fr2)
 have lp':=codeAny_mono lp (R':=compPost (model X.prog X.w) X.A X.xe none (EP X pins σ Q) (.ref s2.heap.objs.size) (s2.heap.push { cls:=.type "list",data:=.seq ([]:List Value).toArray }).objs.size) fun r s' ⟨hr,σ',H',I',q'⟩=>by
  subst hr
  obtain ⟨m',hn',_⟩:=id I'.loc
  refine ⟨m',hn',fun h' hsb=>?_⟩
  refine ⟨.ref s2.heap.objs.size,H',?_,rfl,q'⟩
  have neC:∀ b o,(s2.heap.push { cls:=.type "list",data:=.seq ([]:List Value).toArray }).get? b=some o->b≠(s2.heap.push { cls:=.type "list",data:=.seq ([]:List Value).toArray }).objs.size:=fun b o e=>Nat.ne_of_lt (Heap.lt_size e)
  have B:=I'.base
  refine I3.call' (ch:=fp) I'.os ⟨fun b o e n hb hx=>(hsb.2 b (neC b o e)).trans (B.keep b o e n hb hx),fun b o e n hb hx=>?_,B.free,fun b o e hx=>?_,B.tups,B.frzs,B.tbls⟩ (fun b u e=>?_) I'.bare fun b hb=>⟨(f3 b hb).2.2.2.1,(f3 b hb).2.1,(f3 b hb).2.2.2.2.1,(f3 b hb).2.2.2.2.2⟩
  ·obtain ⟨sl,e1⟩:=B.slot b o e n hb hx
   exact ⟨sl,(hsb.2 b (neC b o e)).trans e1⟩
  ·obtain ⟨o',e1⟩:=B.there b o e hx
   exact ⟨o',(hsb.2 b (neC b o e)).trans e1⟩
  ·have hC:H' (s2.heap.push { cls:=.type "list",data:=.seq ([]:List Value).toArray }).objs.size=none:=I'.free
   refine (I'.hok b u e).stay (fun c v hc' q=>(hsb.2 c ?_).trans q) (fun _ q=>q) fun _ _ q=>q
   rintro rfl
   rcases hc' with hc'|hc'
   ·rw [<-hc',hC] at e;cases e
   ·rw [hC] at hc';cases hc'
 exact compStart_any rfl lp' (T.self _ _ _ _ _ st4 lp')
theorem ps_setlc {X:Cx} {i:Nat} {y:Str} {py spos:Pos} {elt tg iter:Expr} {ifs:List Expr} {rest:List Comprehension} {scope:Scope} {pos:Pos} {wi:TI} {g:TG} {ti:TT} {tb:Addr->TS} (own:List Str) (cap:List (Str × Nat)) (hN:X.N.Nodup) (hyi:X.N[i]?=some y) (hy:X.env.scope.names.lookup y=some .local) (hc:X.calm=true) (L:LcScope X scope own cap) (hi:PI X tg iter wi)
  (hin:∀ (s₃:Shared) (H₃:Hp) (fp:List Addr) (acc:Addr),PG (X.inn scope (capN own cap) s₃ H₃ fp) tg g/\PTs (X.inn scope (capN own cap) s₃ H₃ fp) ifs ti/\PB (X.inn scope (capN own cap) s₃ H₃ fp) elt (⟨tg,iter,ifs,0⟩::rest) scope pos 0 acc (tb acc))
  (hsw:swapsWith (.ListComp elt (⟨tg,iter,ifs,0⟩::rest) scope pos) (some (.Name y py)) spos.line X.env=pure true:=by rfl) (hs:∀ x,foldedSetIterable iter X.env x=pure x:=by intro _;rfl) :
  PS X (.Assign [.Name y py] (.ListComp elt (⟨tg,iter,ifs,0⟩::rest) scope pos) spos) (tAsg (tLC wi g ti tb own cap) (gName i)):=by
 intro pins s σ H D I h
 rw [exec_Assign_Name_used _ _ _ _ hsw]
 refine wpAny_bind (wpAny_standAt (wpAny_bind ?_))
 show wpAny _ X.A (do let _ <- comprehension (.ListComp elt (⟨tg,iter,ifs,0⟩::rest) scope pos) scope X.env _ (newList []) false (eval iter X.env) (some (assign (.Name y py) X.env))) _ _ s
 have hcl:∀ x∈scope.names,x.2=.free->∃ c,X.env.cells.lookup x.1=some c:=fun x hx hk=>I.ok.has x.1 (L.fre x hx hk)
 refine wpAny_bind (wpAny_mono (wpAny_comprehension_free (use:=some (assign (.Name y py) X.env)) (Q:=fun _ s'=>SP X pins D .next s') rfl hs (closureFor_cl hcl) L.kind L.loc (thn (hi pins s σ H _ I h) fun x s1 h1=>thn h1 fun itv s2 ⟨it,fp,tn,J,H2,e,I2,T,st2,f2,q2⟩=>?_)) (fun _ s' hq=>wpAny_pure (wpAny_pure hq)) fun _ _ e=>e)
 subst e
 refine wpAny_newObj_type ?_
 have I3:=I2.lnew (t':=s2.toks) (ys:=[]) (its:=[]) .nil (Nat.zero_le _)
 have fr2:H2 s2.heap.objs.size=none:=I2.fresh
 have f3:∀ b∈fp,FpOk X pins (upd H2 s2.heap.objs.size (.lst [])) b:=fun b hb=>by
  obtain ⟨o,eo,_⟩:=T.obj 0 _ st2 b hb
  obtain ⟨g1,g2⟩:=f2 b hb
  exact ⟨by rw [upd_ne (Nat.ne_of_lt (Heap.lt_size eo))];exact g1,g2⟩
 have k3:∀ b o,s2.heap.get? b=some o->(s2.heap.push { cls:=.type "list",data:=.seq ([]:List Value).toArray }).get? b=some o:=fun b o e=>Heap.get?_push_of_some _ e
 have st3:tn 0 (s2.heap.push { cls:=.type "list",data:=.seq ([]:List Value).toArray }):=T.keep 0 _ _ st2 fun b _ o e=>k3 b o e
 refine newEnv_in ?_
 have I4:=inv_in L I3 f3 fun b hb=>by obtain ⟨o,eo,_⟩:=T.obj 0 _ st3 b hb;exact ⟨o,eo⟩
 obtain ⟨hg,ht,hb⟩:=hin { s2 with heap:=s2.heap.push { cls:=.type "list",data:=.seq ([]:List Value).toArray },toks:=s2.toks } (upd H2 s2.heap.objs.size (.lst [])) fp s2.heap.objs.size
 have st4:=T.keep 0 _ (pushCells ((s2.heap.push { cls:=.type "list",data:=.seq ([]:List Value).toArray }).push { cls:=.type "dict",data:=.dict #[] }) scope.names) st3 fun b _ o e=>pushCells_keeps _ _ b o (Heap.get?_push_of_some _ e)
 have f4:∀ b∈fp,FpOk (X.inn scope (capN own cap) { s2 with heap:=s2.heap.push { cls:=.type "list",data:=.seq ([]:List Value).toArray },toks:=s2.toks } (upd H2 s2.heap.objs.size (.lst [])) fp) [] (upd H2 s2.heap.objs.size (.lst [])) b:=fun b hb =>
  ⟨(f3 b hb).1,(I4.ok.exf b hb).1,I4.ok.exfs b hb,.inl hb,(I4.ok.exf b hb).2,fun p hp=>absurd (show p∈([]:List (Addr × Obj)) from hp) (by simp)⟩
 have lp:=lc_loop (Y:=X.inn scope (capN own cap) { s2 with heap:=s2.heap.push { cls:=.type "list",data:=.seq ([]:List Value).toArray },toks:=s2.toks } (upd H2 s2.heap.objs.size (.lst [])) fp) (acc:=s2.heap.objs.size) (gens:=⟨tg,iter,ifs,0⟩::rest) (d:=0) rfl rfl hc hg ht hb I4 T st4 f4 (q2 _ fr2)
 have lp':=codeAny_mono lp (R':=compPost (model X.prog X.w) X.A X.xe (some (assign (.Name y py) X.env)) (fun _ s'=>SP X pins D .next s') (.ref s2.heap.objs.size) (s2.heap.push { cls:=.type "list",data:=.seq ([]:List Value).toArray }).objs.size) fun r s' ⟨hr,σ',H',I',q'⟩=>by
  subst hr
  obtain ⟨m',hn',_⟩:=id I'.loc
  have B:=I'.base
  have I5:Inv X pins σ H' s':=I3.call' (ch:=fp) I'.os B I'.hok I'.bare fun b hb=>⟨(f3 b hb).2.2.2.1,(f3 b hb).2.1,(f3 b hb).2.2.2.2.1,(f3 b hb).2.2.2.2.2⟩
  have hC:H' (s2.heap.push { cls:=.type "list",data:=.seq ([]:List Value).toArray }).objs.size=none:=I'.free
  show wpAny _ X.A (assign (.Name y py) X.env (.ref s2.heap.objs.size)) _ _ _
  refine wpAny_assign_Name (store_ok2 I5 hN hyi (.inl hy) (v:=.ref s2.heap.objs.size) rfl (fun s6 I6 ⟨a6,sb6,ha6⟩=>?_) (.inr hy))
  have neL:X.env.locals≠(s2.heap.push { cls:=.type "list",data:=.seq ([]:List Value).toArray }).objs.size:=Nat.ne_of_lt I3.lt
  have ha:a6≠(s2.heap.push { cls:=.type "list",data:=.seq ([]:List Value).toArray }).objs.size:=by
   rcases ha6 with rfl|ha6
   ·exact neL
   ·obtain ⟨v,hv⟩:=I3.cell y a6 ha6
    exact Nat.ne_of_lt hv.lt
  refine ⟨m',hn'.sameBut sb6 ha.symm,fun h' hsb=>?_⟩
  refine ⟨_,H',?_,q'⟩
  have kb:∀ b o,b≠(s2.heap.push { cls:=.type "list",data:=.seq ([]:List Value).toArray }).objs.size->s6.heap.get? b=some o->h'.get? b=some o:=fun b o hb e=>(hsb.2 b hb).trans e
  refine I6.turned (t':=s6.toks) (it:=(s2.heap.push { cls:=.type "list",data:=.seq ([]:List Value).toArray }).objs.size) kb hC neL.symm (.inr I3.sz) (fun x c e z=>?_) (fun p hp z=>?_)
  ·obtain ⟨v,hv⟩:=I3.cell x c e
   exact absurd z (Nat.ne_of_lt hv.lt)
  ·have:=(I3.pin p hp).1
   exact absurd z (Nat.ne_of_lt (Heap.lt_size this))
 exact compStart_any rfl lp' (T.self _ _ _ _ _ st4 lp')
mutual
inductive Den (K:W.Frag) (H:Hp):V->PyData->Prop
 | non:Den K H .non .none
 | bl (b):Den K H (.bl b) (.bool b)
 | int (i):Den K H (.int i) (.int i)
 | str (x):Den K H (.str x) (.str x)
 | lst {a us ds}:SqL K H a us->Dens K H us ds->Den K H (.ref a) (.list ds)
 | tup {a us ds}:SqT K H a us->Dens K H us ds->Den K H (.ref a) (.tuple ds)
inductive Dens (K:W.Frag) (H:Hp):List V->List PyData->Prop
 | nil:Dens K H [] []
 | cons {v vs d ds}:Den K H v d->Dens K H vs ds->Dens K H (v::vs) (d::ds)
end
theorem Same.tup {K:W.Frag} {H H':Hp} {a:Addr} {xs:List V} (e:Same H H') (h:SqT K H a xs):SqT K H' a xs:=by
 rcases h with (h|⟨o,h⟩)|h
 ·exact .inl (.inl (e _ _ h))
 ·exact .inl (.inr ⟨o,e _ _ h⟩)
 ·exact .inr h
section
variable {X:Cx} {pins:List (Addr × Obj)} {σ:St} {H:Hp} {s:Shared}
mutual
theorem Den.reads (I:Inv X pins σ H s):∀ {v d} {u:Value},Den X.K H v d->RelV v u->∃ as,Reads s.heap u d as
 | _,_,_,.non,r=>by cases r;exact ⟨_,.none⟩
 | _,_,_,.bl b,r=>by cases r;exact ⟨_,.bool b⟩
 | _,_,_,.int i,r=>by obtain ⟨t,rfl⟩:=r;exact ⟨_,.int i t⟩
 | _,_,_,.str i,r=>by obtain ⟨t,rfl⟩:=r;exact ⟨_,.str i t⟩
 | _,_,_,.lst h hr,r=>by
  cases r
  obtain ⟨its,rv,⟨o,n,e,c,_,d⟩,_⟩:=I.list h
  obtain ⟨as,q⟩:=Dens.reads I hr rv
  exact ⟨_,.list e c d (by simpa using q)⟩
 | _,_,_,.tup h hr,r=>by
  cases r
  obtain ⟨its,rv,⟨o,e,c,n,d⟩,_⟩:=I.tuple h
  obtain ⟨as,q⟩:=Dens.reads I hr rv
  exact ⟨_,.tuple e c d (by simpa using q)⟩
theorem Dens.reads (I:Inv X pins σ H s):∀ {vs ds} {us:List Value},Dens X.K H vs ds->Vals vs us->∃ as,ReadsAll s.heap us ds as
 | _,_,_,.nil,r=>by cases r;exact ⟨_,.nil⟩
 | _,_,_,.cons h hr,r=>by
  cases r with
  | cons r1 r2 =>
   obtain ⟨as,q⟩:=Den.reads I h r1
   obtain ⟨bs,q2⟩:=Dens.reads I hr r2
   exact ⟨_,.cons q q2⟩
end
end
def rEqD (K:W.Frag) (f:Bool->Bool):R2:=fun x y H Q=>∃ dx dy,Den K H x dx/\Den K H y dy/\dx.canLay0=true/\dy.canLay0=true/\dx.depth<=32/\Q (.bl (f (PyData.eqv dx dy))) H
section
variable {X:Cx}
theorem op_eqD (hu:X.A.units+64 < cLine):OpR X (compareOp .Eq) (rEqD X.K id):=by
 intro pins s σ H x y v u Q I rx ry h
 obtain ⟨dx,dy,h1,h2,h3,h4,h5,q⟩:=h
 obtain ⟨as,r1⟩:=h1.reads I rx
 obtain ⟨bs,r2⟩:=h2.reads I ry
 exact SeqAt.compareEq_reads r1 r2 h3 h4 (by omega) ⟨.bl _,H,I,rfl,q⟩
theorem op_neD (hu:X.A.units+64 < cLine):OpR X (compareOp .NotEq) (rEqD X.K not):=by
 intro pins s σ H x y v u Q I rx ry h
 obtain ⟨dx,dy,h1,h2,h3,h4,h5,q⟩:=h
 obtain ⟨as,r1⟩:=h1.reads I rx
 obtain ⟨bs,r2⟩:=h2.reads I ry
 exact SeqAt.compareNe_reads r1 r2 h3 h4 (by omega) ⟨.bl _,H,I,rfl,q⟩
theorem vals_bools {bs:List Bool}:∀ {us:List Value},Vals (bs.map V.bl) us->us=bs.map Value.bool:=by
 induction bs with
 | nil=>intro us h;cases h;rfl
 | cons b r ih =>
  intro us h
  cases h with
  | cons h1 h2=>cases h1;rw [ih h2];rfl
theorem range_all {bs:List Bool}:(List.range bs.length).all (fun i=>bs.getD i false)=bs.all id:=by
 rw [Bool.eq_iff_iff,all_eq_true,all_eq_true]
 constructor
 ·intro h b hb
  obtain ⟨i,hi,rfl⟩:=List.mem_iff_getElem.mp hb
  have:=h i (mem_range.mpr hi)
  simpa [hi] using this
 ·intro h i hi
  have hi:=mem_range.mp hi
  have:=h _ (List.getElem_mem hi)
  simpa [hi] using this
theorem range_any {bs:List Bool}:(List.range bs.length).any (fun i=>bs.getD i false)=bs.any id:=by
 rw [Bool.eq_iff_iff,any_eq_true,any_eq_true]
 constructor
 ·rintro ⟨i,hi,h⟩
  have hi:=mem_range.mp hi
  exact ⟨_,List.getElem_mem hi,by simpa [hi] using h⟩
 ·rintro ⟨b,hb,h⟩
  obtain ⟨i,hi,rfl⟩:=List.mem_iff_getElem.mp hb
  exact ⟨i,mem_range.mpr hi,by simpa [hi] using h⟩
theorem bools_truth {prog:Program} {w:World} {A:Around} {bs:List Bool}:TruthOf prog w A (fun i v=>(bs.map Value.bool).toArray[i]?=some v) (fun i=>bs.getD i false):=by
 intro i v s Q E hv hq
 simp only [List.getElem?_toArray,List.getElem?_map] at hv
 cases e:bs[i]? with
 | none=>rw [e] at hv;cases hv
 | some b =>
  rw [e] at hv;cases hv
  have hq:Q (bs.getD i false) s:=hq
  rw [List.getD_eq_getElem?_getD,e] at hq
  exact wpAny_truthy_bool hq
theorem call_all_bools (hc:X.calm=true):CallR X (.builtin "all") (fun xs H Q=>∃ (a:Addr) (bs:List Bool),xs=[.ref a]/\SqL X.K H a (bs.map V.bl)/\Q (.bl (bs.all id)) H):=by
 intro pins s σ H xs us Q I r h
 obtain ⟨a,bs,rfl,hq,q⟩:=h
 obtain ⟨u,rfl,r1⟩:=vals1 r
 cases r1
 obtain ⟨its,rv,p,hz⟩:=I.list hq
 cases vals_bools rv
 refine call_all_walk (wpAny_pyIter_list p.isList ?_)
 have hne:a≠s.heap.objs.size:=by obtain ⟨o,n,e,_⟩:=p;exact Nat.ne_of_lt (Heap.lt_size e)
 refine ⟨_,_,_,_,_,_,_,rfl,Walks.list (A:=X.A.in1) (I.ok.hd hc) s.heap.objs.size a hne _,⟨⟨_,Heap.get?_push_size _ rfl,rfl,rfl⟩,(p.keeps fun b o e=>Heap.get?_push_of_some _ e).isList⟩,bools_truth,fun h' tk k=>?_⟩
 have e1:((bs.map Value.bool).toArray.size)=bs.length:=by simp
 rw [e1,range_all]
 refine ⟨.bl _,H,I.kept fun b o e=>k b o ?_ (Heap.get?_push_of_some _ e),rfl,q⟩
 simp only [mem_singleton]
 exact Nat.ne_of_lt (Heap.lt_size e)
theorem call_any_bools (hc:X.calm=true):CallR X (.builtin "any") (fun xs H Q=>∃ (a:Addr) (bs:List Bool),xs=[.ref a]/\SqL X.K H a (bs.map V.bl)/\Q (.bl (bs.any id)) H):=by
 intro pins s σ H xs us Q I r h
 obtain ⟨a,bs,rfl,hq,q⟩:=h
 obtain ⟨u,rfl,r1⟩:=vals1 r
 cases r1
 obtain ⟨its,rv,p,hz⟩:=I.list hq
 cases vals_bools rv
 refine call_any_walk (wpAny_pyIter_list p.isList ?_)
 have hne:a≠s.heap.objs.size:=by obtain ⟨o,n,e,_⟩:=p;exact Nat.ne_of_lt (Heap.lt_size e)
 refine ⟨_,_,_,_,_,_,_,rfl,Walks.list (A:=X.A.in1) (I.ok.hd hc) s.heap.objs.size a hne _,⟨⟨_,Heap.get?_push_size _ rfl,rfl,rfl⟩,(p.keeps fun b o e=>Heap.get?_push_of_some _ e).isList⟩,bools_truth,fun h' tk k=>?_⟩
 have e1:((bs.map Value.bool).toArray.size)=bs.length:=by simp
 rw [e1,range_any]
 refine ⟨.bl _,H,I.kept fun b o e=>k b o ?_ (Heap.get?_push_of_some _ e),rfl,q⟩
 simp only [mem_singleton]
 exact Nat.ne_of_lt (Heap.lt_size e)
end
def lcCheck (osc:Scope) (oN:List Str) (scope:Scope) (own:List Str) (cap:List (Str × Nat)):Bool :=
 scope.kind==.function&&decide ((scope.names.map (·.1)).Nodup)&&(scope.names.all fun x=>x.2 != .local||scope.names.lookup x.1==some .local)
  && (scope.names.all fun x=>x.2 != .free||(osc.names.lookup x.1==some .cell||osc.names.lookup x.1==some .free))
  && (cap.all fun p=>oN[p.2]?==some p.1&&scope.names.contains (p.1,NameKind.free))
theorem LcScope.of {X:Cx} {scope:Scope} {own:List Str} {cap:List (Str × Nat)} (h:lcCheck X.env.scope X.N scope own cap=true):LcScope X scope own cap:=by
 unfold lcCheck at h
 simp only [Bool.and_eq_true,all_eq_true,beq_iff_eq,decide_eq_true_eq,Bool.or_eq_true,bne_iff_ne,ne_eq] at h
 obtain ⟨⟨⟨⟨h1,h2⟩,h3⟩,h4⟩,h5⟩:=h
 refine ⟨h1,h2,fun x hx hk=>?_,fun x hx hk=>?_,fun p hp=>?_⟩
 ·rcases h3 x hx with z|z
  ·exact absurd hk z
  ·exact z
 ·rcases h4 x hx with z|z
  ·exact absurd hk z
  ·exact z
 ·obtain ⟨a,b⟩:=h5 p hp
  exact ⟨a,by simpa using b⟩
section
variable {X:Cx} {e:Expr} {te:TE} {pos:Pos}
theorem pset (i:Nat) {x:Str} {pos':Pos} (hN:X.N.Nodup) (he:PE X e te) (hi:X.N[i]?=some x:=by rfl) (hx:Loc X.env.scope x:=by first|exact Or.inl rfl|exact Or.inr rfl) (hs:swapsWith e (some (.Name x pos')) pos.line X.env=pure false:=by rfl)
  (hf:X.fn x=true\/X.env.scope.names.lookup x=some .local:=by first|exact .inl rfl|exact .inr rfl|assumption):PS X (.Assign [.Name x pos'] e pos) (tAsg te (gName i)):=ps_set hN hi hx he hs hf
theorem pgn (i:Nat) {x:Str} (hN:X.N.Nodup) (hi:X.N[i]?=some x:=by rfl) (hx:Loc X.env.scope x:=by first|exact Or.inl rfl|exact Or.inr rfl) (hf:X.fn x=true\/X.env.scope.names.lookup x=some .local:=by first|exact .inl rfl|exact .inr rfl|assumption):PG X (.Name x pos) (gName i):=pg_name hN hi hx hf
end
structure Df (P:Program) (w:World) (K:W.Frag) (mg:Str->Option Value) (base:Heap) (x:Str) (ps:List Str) (k:Nat) (sp:Sp):Prop where
 ex:∃ f fd,FnOk P w K mg base CX0 k f fd ps sp/\mg x=some (.ref f)/\PySem.W.keepIn K (.ref f)=true/\Binds K fd ps []
theorem pe_df {X:Cx} {x:Str} {ps:List Str} {k:Nat} {sp:Sp} {p pos:Pos} {e:Expr} {es:List Expr} {t:TA} (D:Df X.prog X.w X.K X.mg X.base x ps k sp) (hr:Room k X.A) (ha:PA X (e::es) t) (hg:Gl X x:=by rfl) (hdb:(x==("__debug__":Str))=false:=by decide)
  (he:starEach (e::es) X.env=(false,eval e X.env)::starEach es X.env:=by rfl) (hpl:(backTo pos (starEach es X.env)).any (·.1)=false:=by rfl):PE X (.Call (.Name x p) (e::es) [] pos) (tCall sp [] E0 t):=by
 obtain ⟨f,fd,F,hm,hk,hb⟩:=D.ex
 exact pe_call F hr hg hm hk hb .nil pass0 ha hdb he hpl
section
variable {X:Cx} {o e:Expr} {to:TE} {te:TE} {apos cpos:Pos}
theorem pm_append (ho:PE X o to) (he:PE X e te) (hs:starEach [e] X.env=[(false,eval e X.env)]) (hbase:attributeBase o "append" X.env (eval o X.env)=eval o X.env:=by rfl)
  (hline:(apos.endLine==cpos.line)=true:=by rfl):PE X (.Call (.Attribute o "append" apos) [e] [] cpos) (tBM X.K "list" rAppend to (tCons te tNil)) :=
 pe_bm PySem.F.plainAttrs_list PySem.F.slot_list_append PySem.F.type_list_append mt_append ho (pa_cons he pa_nil hs) hbase (by rw [hs];rfl) hline hs rfl
end
theorem nd_of {N:List Str} (h:decide N.Nodup=true):N.Nodup:=of_decide_eq_true h
section
variable {X:Cx} {K:W.Frag}
theorem pg_tupK (K:W.Frag) (n:Nat) (hK:X.K=K) {es:List Expr} {k:Nat} {t:TGs} {pos:Pos} (hc:X.calm=true) (h:PGs X es t) (hn:(assignEach es X.env).length=n) (hst:(assignEach es X.env).findIdx? (·.1)=none):PG X (.Tuple es k pos) (gTup K n t):=by
 subst hK;exact pg_tup hc h hn hst
theorem pi_listK (K:W.Frag) (hK:X.K=K) {tg l:Expr} {tl:TE} (hl:PE X l tl):PI X tg l (iList K tl):=by subst hK;exact pi_list hl
theorem pi_tupK (K:W.Frag) (hK:X.K=K) {tg l:Expr} {tl:TE} (hl:PE X l tl):PI X tg l (iTup K tl):=by subst hK;exact pi_tup hl
def rLen (K:W.Frag):List V->Hp->VK->Prop:=fun xs H Q=>∃ p ys,xs=[.ref p]/\(SqL K H p ys\/SqT K H p ys)/\Q (.int ys.length) H
theorem call_lenK (K:W.Frag) (hK:X.K=K):CallR X (.builtin "len") (rLen K):=by subst hK;exact call_len_seq
def rAll (K:W.Frag):List V->Hp->VK->Prop:=fun xs H Q=>∃ (a:Addr) (bs:List Bool),xs=[.ref a]/\SqL K H a (bs.map V.bl)/\Q (.bl (bs.all id)) H
def rAny (K:W.Frag):List V->Hp->VK->Prop:=fun xs H Q=>∃ (a:Addr) (bs:List Bool),xs=[.ref a]/\SqL K H a (bs.map V.bl)/\Q (.bl (bs.any id)) H
def rListOf (K:W.Frag):List V->Hp->VK->Prop:=fun xs H Q=>∃ p ys,xs=[.ref p]/\(SqL K H p ys\/SqT K H p ys)/\∀ l,H l=none->Q (.ref l) (upd H l (.lst ys))
theorem call_allK (K:W.Frag) (hK:X.K=K) (hc:X.calm=true):CallR X (.builtin "all") (rAll K):=by subst hK;exact call_all_bools hc
theorem call_anyK (K:W.Frag) (hK:X.K=K) (hc:X.calm=true):CallR X (.builtin "any") (rAny K):=by subst hK;exact call_any_bools hc
theorem call_listK (K:W.Frag) (hK:X.K=K):CallR X (.type "list") (rListOf K):=by subst hK;exact call_list_of
theorem op_eqK (K:W.Frag) (hK:X.K=K) (hu:X.A.units+64 < cLine):OpR X (compareOp .Eq) (rEqD K id):=by subst hK;exact op_eqD hu
theorem op_neK (K:W.Frag) (hK:X.K=K) (hu:X.A.units+64 < cLine):OpR X (compareOp .NotEq) (rEqD K not):=by subst hK;exact op_neD hu
theorem op_inK (K:W.Frag) (hK:X.K=K):OpR X (compareOp .In) (rIn K false):=by subst hK;exact op_in_seq
theorem op_notInK (K:W.Frag) (hK:X.K=K):OpR X (compareOp .NotIn) (rIn K true):=by subst hK;exact op_notIn_seq
theorem pm_appendK (K:W.Frag) (hK:X.K=K) {o e:Expr} {to te:TE} {apos cpos:Pos} (ho:PE X o to) (he:PE X e te) (hs:starEach [e] X.env=[(false,eval e X.env)]) (hbase:attributeBase o "append" X.env (eval o X.env)=eval o X.env)
  (hline:(apos.endLine==cpos.line)=true):PE X (.Call (.Attribute o "append" apos) [e] [] cpos) (tBM K "list" rAppend to (tCons te tNil)):=by subst hK;exact pm_append ho he hs hbase hline
end
def intE (e:Expr):Option Int:=match e with
 | .Constant (.int i) _ _=>some i
 | _=>none
theorem intE_of {e:Expr} {i:Int} (h:intE e=some i):∃ k p,e=.Constant (.int i) k p:=by
 unfold intE at h
 split at h
 ·cases h;exact ⟨_,_,rfl⟩
 ·cases h
def intsOf:List Expr->Option (List Int)
 | []=>some []
 | e::r=>match intE e,intsOf r with
  | some i,some l=>some (i::l)
  | _,_=>none
theorem pa_ints {X:Cx}:∀ {es:List Expr} {ns:List Int},intsOf es=some ns->PA X es (fun _ H Q=>Q (ns.map V.int) H)
 | [],ns,h=>by
  cases h
  exact pa_nil
 | e::r,ns,h=>by
  unfold intsOf at h
  split at h
  ·rename_i i ms e1 e2
   cases h
   obtain ⟨k,p,rfl⟩:=intE_of e1
   exact pa_cons pe_int (pa_ints e2) rfl
  ·cases h
theorem iteb {b:Bool} {A B:Prop} (h1:b=true->A) (h2:b=false->B):if b=true then A else B:=by
 cases b
 ·rw [if_neg Bool.false_ne_true];exact h2 rfl
 ·rw [if_pos rfl];exact h1 rfl
theorem Same.put {H H':Hp} {p:Addr} {o:HO} (e:Same H H') (h:H p=none):Same H (upd H' p o):=fun b o' hb=>by rw [upd_ne (ne_of_none hb h)];exact e b o' hb
theorem Same.new {H:Hp} {p:Addr} {o:HO} (h:H p=none):Same H (upd H p o):=(Same.refl H).put h
theorem Same.gone {H H':Hp} {p:Addr} (e:Same H H') (h:H' p=none):H p=none:=e.free h
theorem tyl {K:W.Frag} {H:Hp} {p:Addr} {xs:List V} (h:SqL K H p xs):tyV K "list" (.ref p) H:=.inl ⟨rfl,_,h⟩
structure QE (X:Cx) (e:Expr) (t:TE):Prop where
 h:PE X e t
structure QT (X:Cx) (e:Expr) (t:TT):Prop where
 h:PT X e t
structure QW (X:Cx) (e:Expr) (t:TT):Prop where
 h:PW X e t
structure QA (X:Cx) (e:List Expr) (t:TA):Prop where
 h:PA X e t
structure QS (X:Cx) (e:Stmt) (t:TS):Prop where
 h:PS X e t
structure QSs (X:Cx) (e:List Stmt) (t:TS):Prop where
 h:PSs X e t
structure QG (X:Cx) (e:Expr) (t:TG):Prop where
 h:PG X e t
structure QGs (X:Cx) (e:List Expr) (t:TGs):Prop where
 h:PGs X e t
structure QTs (X:Cx) (e:List Expr) (t:TT):Prop where
 h:PTs X e t
structure QO (X:Cx) (e:Option Expr) (t:TO):Prop where
 h:PO X e t
structure QI (X:Cx) (tg e:Expr) (t:TI):Prop where
 h:PI X tg e t
structure QB (Y:Cx) (elt:Expr) (gens:List Comprehension) (scope:Scope) (pos:Pos) (d:Nat) (acc:Addr) (tb:TS):Prop where
 h:PB Y elt gens scope pos d acc tb
theorem qpv (i:Nat) {x:Str} {pos:Pos} (hN:X.N[i]?=some x:=by rfl) (hv:Vis X.env.scope x:=by first|exact Or.inl rfl|exact Or.inr (Or.inl rfl)|exact Or.inr (Or.inr rfl)) (hd:(x==("__debug__":Str))=false:=by decide) (hcd:(x==("__classdict__":Str))=false:=by decide):QE X (.Name x pos) (tVar i):=⟨pv i hN hv hd hcd⟩
theorem qpe_bltn {x:Str} {v:V} {u:Value} {pos:Pos} (hg:Gl X x) (hm:X.mg x=none) (hv:bootBuiltins x=some u) (r:RelV v u) (hn:x≠"__name__":=by decide) (hd:(x==("__debug__":Str))=false:=by decide):QE X (.Name x pos) (tC v):=⟨pe_bltn hg hm hv r hn hd⟩
theorem qpe_bl {b j pos}:QE X (.Constant (.bool b) j pos) (tC (.bl b)):=⟨pe_bl ⟩
theorem qpe_non {j pos}:QE X (.Constant .none j pos) (tC .non):=⟨pe_non ⟩
theorem qpe_int {i j pos}:QE X (.Constant (.int i) j pos) (tC (.int i)):=⟨pe_int ⟩
theorem qpe_str {x j pos}:QE X (.Constant (.str x) j pos) (tC (.str x)):=⟨pe_str ⟩
theorem qpe_un {op:UnaryOp} {r:V->Hp->VK->Prop} (ho:UnR X (unaryOp op) r) (ha:QE X a ta):QE X (.UnaryOp op a pos) (tUn r ta):=⟨pe_un ho ha.h⟩
theorem qpe_not (ha:QE X a ta):QE X (.UnaryOp .Not a pos) (tNotV ta):=⟨pe_not ha.h⟩
theorem qpe_op {op:Operator} {r:R2} (ho:OpR X (binaryOp op) r) (ha:QE X a ta) (hb:QE X b tb):QE X (.BinOp a op b pos) (tOp r ta tb):=⟨pe_op ho ha.h hb.h⟩
theorem qpe_and {rest:List Expr} (ha:QE X a ta) (hb:QE X (.BoolOp .And (b::rest) pos) tb):QE X (.BoolOp .And (a::b::rest) pos) (tAndV ta tb):=⟨pe_and ha.h hb.h⟩
theorem qpe_one {op} {t:TE} (h:QE X a t):QE X (.BoolOp op [a] pos) t:=⟨pe_one h.h⟩
theorem qpe_cmpR {op:CmpOp} {r:R2} (ho:OpR X (compareOp op) r) (ha:QE X a ta) (hb:QE X b tb) (hm:behindInMarks op b=false):QE X (.Compare a [op] [b] pos) (tOp r ta tb):=⟨pe_cmpR ho ha.h hb.h hm⟩
theorem qpe_tup {x1} (h:QA X es t):QE X (.Tuple es x1 pos) (tTup t):=⟨pe_tup h.h⟩
theorem qpe_lst (h:QA X es t):QE X (.List es pos) (tLst t):=⟨pe_lst h.h⟩
theorem qpe_slice {lo hi:Option Expr} {r:V->Option Int->Option Int->Hp->VK->Prop} (hr:SlR X r) (he:QE X e te) (hl:QO X lo tl) (hu:QO X hi th):QE X (.Subscript e (.Slice lo hi none p2) pos) (tSl r te tl th):=⟨pe_slice hr he.h hl.h hu.h⟩
theorem qpe_ix {r:R2} (hr:IxR X r) (ha:QE X a ta) (hb:QE X b tb) (hs:PlainIx b):QE X (.Subscript a b pos) (tOp r ta tb):=⟨pe_ix hr ha.h hb.h hs⟩
theorem qpe_df {X:Cx} {x:Str} {ps:List Str} {k:Nat} {sp:Sp} {p pos:Pos} {e:Expr} {es:List Expr} {t:TA} (D:Df X.prog X.w X.K X.mg X.base x ps k sp) (hr:Room k X.A) (ha:QA X (e::es) t) (hg:Gl X x:=by rfl) (hdb:(x==("__debug__":Str))=false:=by decide) (he:starEach (e::es) X.env=(false,eval e X.env)::starEach es X.env:=by rfl) (hpl:(backTo pos (starEach es X.env)).any (·.1)=false:=by rfl):QE X (.Call (.Name x p) (e::es) [] pos) (tCall sp [] E0 t):=⟨pe_df D hr ha.h hg hdb he hpl⟩
theorem qpe_callB {id:String} (hc:CallR X (.builtin id) r) (hg:Gl X x) (hm:X.mg x=none) (hv:bootBuiltins x=some (.builtin id)) (ha:QA X (e::es) t) (hn:x≠"__name__":=by decide) (hdb:(x==("__debug__":Str))=false:=by decide) (he:starEach (e::es) X.env=(false,eval e X.env)::starEach es X.env:=by rfl) (hpl:(backTo pos (starEach es X.env)).any (·.1)=false:=by rfl):QE X (.Call (.Name x p) (e::es) [] pos) (tCB r t):=⟨pe_callB hc hg hm hv ha.h hn hdb he hpl⟩
theorem qpe_callTy (hc:CallR X (.type T) r) (hg:Gl X x) (hm:X.mg x=none) (hv:bootBuiltins x=some (.type T)) (ha:QA X (e::es) t) (hn:x≠"__name__":=by decide) (hdb:(x==("__debug__":Str))=false:=by decide) (he:starEach (e::es) X.env=(false,eval e X.env)::starEach es X.env:=by rfl) (hpl:(backTo pos (starEach es X.env)).any (·.1)=false:=by rfl):QE X (.Call (.Name x p) (e::es) [] pos) (tCB r t):=⟨pe_callTy hc hg hm hv ha.h hn hdb he hpl⟩
theorem qpm_appendK (K:W.Frag) (hK:X.K=K) {o e:Expr} {to te:TE} {apos cpos:Pos} (ho:QE X o to) (he:QE X e te) (hs:starEach [e] X.env=[(false,eval e X.env)]) (hbase:attributeBase o "append" X.env (eval o X.env)=eval o X.env) (hline:(apos.endLine==cpos.line)=true):QE X (.Call (.Attribute o "append" apos) [e] [] cpos) (tBM K "list" rAppend to (tCons te tNil)):=⟨pm_appendK K hK ho.h he.h hs hbase hline⟩
theorem qpi_listK (K:W.Frag) (hK:X.K=K) {tg l:Expr} {tl:TE} (hl:QE X l tl):QI X tg l (iList K tl):=⟨pi_listK K hK hl.h⟩
theorem qpi_tupK (K:W.Frag) (hK:X.K=K) {tg l:Expr} {tl:TE} (hl:QE X l tl):QI X tg l (iTup K tl):=⟨pi_tupK K hK hl.h⟩
theorem qpi_range1 {a:Expr} {ta:TA} {p pos:Pos} (hg:Gl X "range") (hm:X.mg "range"=none) (ha:QA X [a] ta) (hs:starEach [a] X.env=[(false,eval a X.env)]:=by rfl):QI X tg (.Call (.Name "range" p) [a] [] pos) (iRng1 ta):=⟨pi_range1 hg hm ha.h hs⟩
theorem qpgn (i:Nat) {x:Str} (hN:X.N.Nodup) (hi:X.N[i]?=some x:=by rfl) (hx:Loc X.env.scope x:=by first|exact Or.inl rfl|exact Or.inr rfl) (hf:X.fn x=true\/X.env.scope.names.lookup x=some .local:=by first|exact .inl rfl|exact .inr rfl|assumption):QG X (.Name x pos) (gName i):=⟨pgn i hN hi hx hf⟩
theorem qpg_tupK (K:W.Frag) (n:Nat) (hK:X.K=K) {es:List Expr} {k:Nat} {t:TGs} {pos:Pos} (hc:X.calm=true) (h:QGs X es t) (hn:(assignEach es X.env).length=n) (hst:(assignEach es X.env).findIdx? (·.1)=none):QG X (.Tuple es k pos) (gTup K n t):=⟨pg_tupK K n hK hc h.h hn hst⟩
theorem qpgs_cons {e:Expr} {es:List Expr} {t:TG} {u:TGs} (h1:QG X e t) (h2:QGs X es u) (hs:(assignEach (e::es) X.env).map (·.2)=assign e X.env::(assignEach es X.env).map (·.2):=by rfl):QGs X (e::es) (gCons t u):=⟨pgs_cons h1.h h2.h hs⟩
theorem qpgs_nil :QGs X [] gNil:=⟨pgs_nil ⟩
theorem qpt_cmpR {op:CmpOp} {r:R2} (ho:OpR X (compareOp op) r) (ha:QE X a ta) (hb:QE X b tb) (hm:behindInMarks op b=false):QT X (.Compare a [op] [b] pos) (tTest (tOp r ta tb)):=⟨pt_cmpR ho ha.h hb.h hm⟩
theorem qpt_chain {op op':CmpOp} {r r':R2} (ho:OpR X (compareOp op) r) (ho':OpR X (compareOp op') r') (ha:QE X a ta) (hb:QE X b tb) (hc:QE X c tc) (hm:lastMarks [op,op'] [b,c]=false:=by with_unfolding_all rfl):QT X (.Compare a [op,op'] [b,c] pos) (tTest (tChain r r' ta tb tc)):=⟨pt_chain ho ho' ha.h hb.h hc.h hm⟩
theorem qPWpt {X:Cx} {e:Expr} {t:TT} (h:QW X e t):QT X e t:=⟨PW.pt h.h⟩
theorem qpw_or {rest:List Expr} (ha:QT X a tA) (hb:QW X (.BoolOp .Or (b::rest) pos) tB'):QW X (.BoolOp .Or (a::b::rest) pos) (tOr tA tB'):=⟨pw_or ha.h hb.h⟩
theorem qpw_or1 (ha:QT X a tA):QW X (.BoolOp .Or [a] pos) tA:=⟨pw_or1 ha.h⟩
theorem qpt_not (ha:QT X a tA):QT X (.UnaryOp .Not a pos) (tNot tA):=⟨pt_not ha.h⟩
theorem qpt_val {e:Expr} {t:TE} (h:QE X e t) (he:∀ whole,isTrue e X.env whole=(do let v <- whole;standAt e.pos;holding [v] (truthy v)):=by intro _;rfl):QT X e (tB t):=⟨pt_val h.h he⟩
theorem qpss_cons {st:Stmt} {rest:List Stmt} (h1:QS X st t) (h2:QSs X rest u):QSs X (st::rest) (tSeq t u):=⟨pss_cons h1.h h2.h⟩
theorem qpss_one {st:Stmt} (h1:QS X st t):QSs X [st] t:=⟨pss_one h1.h⟩
theorem qpss_nil :QSs X [] tNext:=⟨pss_nil ⟩
theorem qps_ret (he:QE X e te):QS X (.Return (some e) pos) (tRet te):=⟨ps_ret he.h⟩
theorem qps_expr (he:QE X e te) (hs:swapsWith e none pos.line X.env=pure false:=by rfl):QS X (.Expr e pos) (tDrop te):=⟨ps_expr he.h hs⟩
theorem qpset (i:Nat) {x:Str} {pos':Pos} (hN:X.N.Nodup) (he:QE X e te) (hi:X.N[i]?=some x:=by rfl) (hx:Loc X.env.scope x:=by first|exact Or.inl rfl|exact Or.inr rfl) (hs:swapsWith e (some (.Name x pos')) pos.line X.env=pure false:=by rfl) (hf:X.fn x=true\/X.env.scope.names.lookup x=some .local:=by first|exact .inl rfl|exact .inr rfl|assumption):QS X (.Assign [.Name x pos'] e pos) (tAsg te (gName i)):=⟨pset i hN he.h hi hx hs hf⟩
theorem qps_asg {tg e:Expr} {te:TE} {g:TG} (he:QE X e te) (hg:QG X tg g) (hs:swapsWithSole [tg] e pos.line X.env=pure false:=by rfl) (hw:swappedStores [tg] e X.env=pure none:=by rfl) (h1:(assignEach [tg] X.env).map (·.2)=[assign tg X.env]:=by rfl):QS X (.Assign [tg] e pos) (tAsg te g):=⟨ps_asg he.h hg.h hs hw h1⟩
theorem qps_if {c:Expr} {a b:List Stmt} {tc:TT} (hc:QT X c tc) (ha:QSs X a t) (hb:QSs X b u):QS X (.If c a b pos) (tIfS tc t u):=⟨ps_if hc.h ha.h hb.h⟩
theorem qps_for {iter:Expr} {body:List Stmt} {wi:TI} {g:TG} {tb:TS} {pos:Pos} (hp:PassesOwn (model X.prog X.w) X.A X.env X.xe) (hc:X.calm=true) (hi:QI X tg iter wi) (hg:QG X tg g) (hb:QSs X body tb) (hs:∀ x,foldedSetIterable iter X.env x=pure x:=by intro _;rfl):QS X (.For tg iter body [] pos) (tFor wi g tb):=⟨ps_for hp hc hi.h hg.h hb.h hs⟩
theorem qps_while {c:Expr} {body:List Stmt} {tc:TT} {tb:TS} (hp:PassesOwn (model X.prog X.w) X.A X.env X.xe) (hc:QT X c tc) (hb:QSs X body tb):QS X (.While c body [] pos) (tWhile tc tb):=⟨ps_while hp hc.h hb.h⟩
theorem qpts_nil {Y:Cx}:QTs Y [] (fun _ H Q=>Q true H):=⟨pts_nil ⟩
theorem qpts_one {Y:Cx} {c:Expr} {t:TT} (hc:QT Y c t):QTs Y [c] t:=⟨pts_one hc.h⟩
theorem qpb_emit {te:TE} (hg:gens[d+1]?=none) (hx:Y.xe=fun _ _=>False) (he:QE Y elt te):QB Y elt gens scope pos d acc (tEmit acc te):=⟨pb_emit hg hx he.h⟩
theorem qpb_for {tg iter:Expr} {ifs:List Expr} {wi:TI} {g:TG} {ti:TT} {tb:TS} (hgd:gens[d+1]?=some ⟨tg,iter,ifs,0⟩) (hx:Y.xe=fun _ _=>False) (hc:Y.calm=true) (hs:∀ x,foldedSetIterable iter Y.env x=pure x) (hi:QI Y tg iter wi) (hg:QG Y tg g) (ht:QTs Y ifs ti) (hb:QB Y elt gens scope pos (d+1) acc tb):QB Y elt gens scope pos d acc (tFor wi g (tIfB ti tb)):=⟨pb_for hgd hx hc hs hi.h hg.h ht.h hb.h⟩
theorem qpa_cons (ha:QE X e te) (hr:QA X es t) (hs:starEach (e::es) X.env=(false,eval e X.env)::starEach es X.env:=by rfl):QA X (e::es) (tCons te t):=⟨pa_cons ha.h hr.h hs⟩
theorem qpa_nil :QA X [] tNil:=⟨pa_nil ⟩
theorem qpo_none :QO X none tNoPart:=⟨po_none ⟩
theorem qpo_some (h:QE X e te):QO X (some e) (tPart te):=⟨po_some h.h⟩
theorem qpa_ints {X:Cx} {es:List Expr} {ns:List Int} (h:intsOf es=some ns):QA X es (fun _ H Q=>Q (ns.map V.int) H):=⟨pa_ints h⟩
theorem qpe_lc {X:Cx} {elt tg iter:Expr} {ifs:List Expr} {rest:List Comprehension} {scope:Scope} {pos:Pos} {wi:TI} {g:TG} {ti:TT} {tb:Addr->TS} (own:List Str) (cap:List (Str × Nat)) (hc:X.calm=true) (L:LcScope X scope own cap) (hi:QI X tg iter wi)
  (hin:∀ (s₃:Shared) (H₃:Hp) (fp:List Addr) (acc:Addr),QG (X.inn scope (capN own cap) s₃ H₃ fp) tg g/\QTs (X.inn scope (capN own cap) s₃ H₃ fp) ifs ti/\QB (X.inn scope (capN own cap) s₃ H₃ fp) elt (⟨tg,iter,ifs,0⟩::rest) scope pos 0 acc (tb acc))
  (hs:∀ x,foldedSetIterable iter X.env x=pure x:=by intro _;rfl):QE X (.ListComp elt (⟨tg,iter,ifs,0⟩::rest) scope pos) (tLC wi g ti tb own cap):=⟨pe_lc own cap hc L hi.h (fun a b c d=>⟨(hin a b c d).1.h,(hin a b c d).2.1.h,(hin a b c d).2.2.h⟩) hs⟩
theorem qps_setlc {X:Cx} {i:Nat} {y:Str} {py spos:Pos} {elt tg iter:Expr} {ifs:List Expr} {rest:List Comprehension} {scope:Scope} {pos:Pos} {wi:TI} {g:TG} {ti:TT} {tb:Addr->TS} (own:List Str) (cap:List (Str × Nat)) (hN:X.N.Nodup) (hyi:X.N[i]?=some y) (hy:X.env.scope.names.lookup y=some .local) (hc:X.calm=true) (L:LcScope X scope own cap) (hi:QI X tg iter wi)
  (hin:∀ (s₃:Shared) (H₃:Hp) (fp:List Addr) (acc:Addr),QG (X.inn scope (capN own cap) s₃ H₃ fp) tg g/\QTs (X.inn scope (capN own cap) s₃ H₃ fp) ifs ti/\QB (X.inn scope (capN own cap) s₃ H₃ fp) elt (⟨tg,iter,ifs,0⟩::rest) scope pos 0 acc (tb acc))
  (hsw:swapsWith (.ListComp elt (⟨tg,iter,ifs,0⟩::rest) scope pos) (some (.Name y py)) spos.line X.env=pure true:=by rfl) (hs:∀ x,foldedSetIterable iter X.env x=pure x:=by intro _;rfl) :
  QS X (.Assign [.Name y py] (.ListComp elt (⟨tg,iter,ifs,0⟩::rest) scope pos) spos) (tAsg (tLC wi g ti tb own cap) (gName i)):=⟨ps_setlc own cap hN hyi hy hc L hi.h (fun a b c d=>⟨(hin a b c d).1.h,(hin a b c d).2.1.h,(hin a b c d).2.2.h⟩) hsw hs⟩
section
variable {X:Cx} {i o value:Expr} {ty td tv:TE} {pos pos':Pos}
theorem qpe_dnewK:QE X (.Dict [] [] pos) tDNewK:=⟨pe_dnewK⟩
theorem qpt_din (hu:X.A.units+1 < cLine) (hi:QE X i ty) (ho:QE X o td) (hm:behindInMarks .In o=false):QT X (.Compare i [.In] [o] pos) (tB (tDIn ty td)):=⟨pt_cmp (pc_din hu hi.h ho.h) hm⟩
theorem qpe_din (hu:X.A.units+1 < cLine) (hi:QE X i ty) (ho:QE X o td) (hm:behindInMarks .In o=false):QE X (.Compare i [.In] [o] pos) (tDIn ty td):=⟨pe_cmp (pc_din hu hi.h ho.h) hm⟩
theorem qps_dput (hu:X.A.units+1 < cLine) (ho:QE X o td) (hi:QE X i ty) (hv:QE X value tv) (hs:swapsWith value (some (.Subscript o i pos')) pos.line X.env=pure false):QS X (.Assign [.Subscript o i pos'] value pos) (sDPut td ty tv):=⟨ps_dput hu ho.h hi.h hv.h hs⟩
end
section
variable {X:Cx}
theorem op_mulB:OpR X (binaryOp .Mult) (rI IntMulOk fun i j=>.int (i*j)):=opI fun _ _ _ _ _ _ _ hc q=>mul_int q hc
end
def TrX (h base:Heap) (e:Addr) (cls a0 fl:Value):Prop :=
 ∃ oe vs T oT ts,h.get? e=some oe/\(oe.cls=cls/\vs[0]?=some a0/\vs[2]?=some .none)/\oe.data=.fields vs/\vs[1]?=some (.ref T)/\base.get? T=none/\T≠e/\h.get? T=some oT/\oT.data=.fields ts/\ts[3]?=some fl
def FlyX (base:Heap) (l:List Env) (e:Addr) (cls a0:Value) (h:Heap):Prop:=base.StaysIn h/\base.get? e=none/\h.FunFrames base l/\TrX h base e cls a0 .none
def HeldX (base:Heap) (l:List Env) (e:Addr) (cls a0:Value) (L:Addr) (h:Heap):Prop:=base.StaysIn h/\base.get? e=none/\h.FunFrames base l/\TrX h base e cls a0 (rawInt L)
theorem FlyX.own {base h:Heap} {l:List Env} {e:Addr} {cls a0:Value} (x:FlyX base l e cls a0 h):∃ oe vs,h.get? e=some oe/\oe.cls=cls/\oe.data=.fields vs/\vs[2]?=some .none :=
 let ⟨_,_,_,oe,vs,_,_,_,he,hc,hd,_⟩:=x;⟨oe,vs,he,hc.1,hd,hc.2.2⟩
section
variable {M:Model} {A:Around} {E:Value->Shared->Prop} {s:Shared} {base:Heap} {env:Env} {outer l:List Env} {L e:Addr} {oe:Obj} {vs:Array Value} {cls a0:Value} {Q:Unit->Shared->Prop}
theorem entryX {head:Value} {nx:Bool} (hfr:A.frames=some (env::outer)) (hl:s.heap.FunFrames base (env::outer)) (hf:env.frame=some L)
  (he:s.heap.get? e=some oe) (hkb:base.StaysIn s.heap) (hen:base.get? e=none) (hd:oe.data=.fields vs) (hsz:1 < vs.size) (h0:vs[0]?=some a0) (h2:vs[2]?=some .none)
  (h:∀ h',base.StaysIn h'->h'.FunFrames base (env::outer)->TrX h' base e oe.cls a0 (rawInt L)->s.heap.UpToSlots h'->Q () { s with heap:=h' }) :
  wpAny M A (do setField (.ref e) 1 (<- EntryCells.newEntry head (<- frameOf env) .none (rawInt L) .none (<- entryPlaceOf L nx))) Q E s:=by
 have nf:e∉(env::outer).filterMap (·.frame):=fun z=>by
  obtain ⟨_,o,q,n⟩:=hl.mem z
  rw [he] at q;cases q
  exact n vs hd
 refine wpAny_bind (wpAny_frameOf_fun hfr hl hf fun h1 k1=>?_)
 refine wpAny_bind (wpAny_entryPlaceOf fun pl hp=>?_)
 unfold EntryCells.newEntry newFields
 refine wpAny_bind (wpAny_newObj_type ?_ (hp.sizeOk5 _ _ _ _ _))
 generalize ho:({ cls:=.type "traceback",dict:=none,data:=.fields ([head,.ref L,.none,rawInt L,.none]++(if pl.isEmpty then List.replicate 6 Value.none else pl)).toArray }:Obj)=oT
 have e1:h1.get? e=some oe:=(k1.2.1 e nf).trans he
 have b1:base.StaysIn h1:=fun b o q=>(k1.2.1 b fun z=>by rw [(hl.mem z).1] at q;cases q).trans (hkb b o q)
 have ne:h1.objs.size≠e:=Nat.ne_of_gt (Heap.lt_size e1)
 have e2:(h1.push oT).get? e=some oe:=Heap.get?_push_of_some oT e1
 have d3:=Obj.data_mapFields hd (·.setIfInBounds 1 (Value.ref h1.objs.size))
 refine wpAny_setField e2 hd hsz ?_
 have t2:(h1.push oT).get? h1.objs.size=some oT:=by rw [<-ho];exact Heap.get?_push_size _ rfl
 have keep:∀ b o,b≠e->h1.get? b=some o->((h1.push oT).update e (Obj.mapFields (·.setIfInBounds 1 (Value.ref h1.objs.size)))).get? b=some o:=fun b o hb q=>by
  rw [Heap.get?_update_other _ _ (Ne.symm hb)];exact Heap.get?_push_of_some _ q
 have noe:∀ b o,s.heap.get? b=some o->(∀ ws,o.data≠.fields ws)->b≠e:=fun b o q n z=>by
  rw [z,he] at q;cases q;exact n vs hd
 have up:∀ b o,s.heap.get? b=some o->(∀ ws,o.data≠.fields ws)->∃ sl,((h1.push oT).update e (Obj.mapFields (·.setIfInBounds 1 (Value.ref h1.objs.size)))).get? b=some { o with slots:=sl }:=fun b o q n=>by
  obtain ⟨sl,z⟩:=k1.2.2 b o q
  exact ⟨sl,keep b _ (noe b o q n) z⟩
 refine h _ (fun b o q=>keep b o (fun z=>by rw [z,hen] at q;cases q) (b1 b o q)) (hl.of_keeps fun b o q n=>?_) ?_ up
 ·obtain ⟨sl,z⟩:=up b o q n
  exact ⟨_,z,rfl⟩
 ·refine ⟨_,_,h1.objs.size,oT,_,Heap.get?_update_self _ e2 (Obj.isFreed_of_fields d3),⟨Obj.cls_mapFields _ _,?_,?_⟩,d3,by simp [hsz],b1.fresh,ne,?_,by rw [<-ho],?_⟩
  ·rw [Array.getElem?_setIfInBounds_ne (by decide)];exact h0
  ·rw [Array.getElem?_setIfInBounds_ne (by decide)];exact h2
  ·rw [Heap.get?_update_other _ _ (Ne.symm ne)];exact t2
  ·first|(simp;done)|(rcases hp with rfl|⟨_,_,_,_,_,_,_,rfl⟩<;>simp)
theorem noteX (hfr:A.frames=some (env::outer)) (hl:s.heap.FunFrames base (env::outer)) (hf:env.frame=some L)
  (he:s.heap.get? e=some oe) (hkb:base.StaysIn s.heap) (hen:base.get? e=none) (hd:oe.data=.fields vs) (h0:vs[0]?=some a0) (h2:vs[2]?=some .none)
  (h1:vs[1]?=some .none\/∃ T oT ts,vs[1]?=some (.ref T)/\base.get? T=none/\T≠e/\s.heap.get? T=some oT/\oT.data=.fields ts/\ts[3]?=some .none)
  (h:∀ h',base.StaysIn h'->h'.FunFrames base (env::outer)->TrX h' base e oe.cls a0 (rawInt L)->s.heap.UpToSlots h'->Q () { s with heap:=h' }):wpAny M A (noteFrame (.ref e) env) Q E s:=by
 unfold noteFrame
 simp only [hf]
 rcases h1 with h1|⟨T,oT,ts,h1,bT,nT,hT,dT,t3⟩
 ·refine wpAny_bind (wpAny_field he hd h1 ?_)
  rw [if_neg (by decide)]
  exact entryX hfr hl hf he hkb hen hd (Array.getElem?_eq_some_iff.mp h1).1 h0 h2 h
 ·refine wpAny_bind (wpAny_field he hd h1 ?_)
  rw [if_pos (show (Value.ref T != Value.none)=true from by simp)]
  refine wpAny_bind (wpAny_field hT dT t3 ?_)
  rw [if_neg (show ¬ ((Value.none==rawInt L)=true) from by simp [rawInt])]
  refine wpAny_bind (wpAny_setField hT dT (Array.getElem?_eq_some_iff.mp t3).1 ?_)
  have oth:∀ b,b≠T->(s.heap.update T (Obj.mapFields (·.setIfInBounds 3 Value.none))).get? b=s.heap.get? b:=fun b hb=>Heap.get?_update_other _ _ (Ne.symm hb)
  have noT:∀ b o,s.heap.get? b=some o->(∀ ws,o.data≠.fields ws)->b≠T:=fun b o q n z=>by
   rw [z,hT] at q;cases q;exact n ts dT
  refine entryX hfr (hl.of_keeps fun b o q n=>⟨o,(oth b (noT b o q n)).trans q,rfl⟩) hf ((oth e (Ne.symm nT)).trans he) (fun b o q=>(oth b fun z=>by rw [z,bT] at q;cases q).trans (hkb b o q)) hen hd (Array.getElem?_eq_some_iff.mp h1).1 h0 h2 fun h' x1 x2 x3 x4=>?_
  exact h h' x1 x2 x3 fun b o q n=>x4 b o ((oth b (noT b o q n)).trans q) n
theorem flightX {fl:Value} (hkb:base.StaysIn s.heap) (hl:s.heap.FunFrames base l) (ht:TrX s.heap base e cls a0 fl)
  (h:∀ h',base.StaysIn h'->h'.FunFrames base l->TrX h' base e cls a0 .none->s.heap.UpToSlots h'->Q () { s with heap:=h' }):wpAny M A (setFlight (.ref e) none) Q E s:=by
 obtain ⟨oe,vs,T,oT,ts,he,hc,hd,h1,bT,nT,hT,dT,t3⟩:=ht
 have oth:∀ b,b≠T->(s.heap.update T (Obj.mapFields (·.setIfInBounds 3 ((none:Option Addr).elim Value.none fun f=>rawInt f)))).get? b=s.heap.get? b:=fun b hb=>Heap.get?_update_other _ _ (Ne.symm hb)
 have noT:∀ b o,s.heap.get? b=some o->(∀ ws,o.data≠.fields ws)->b≠T:=fun b o q n z=>by
  rw [z,hT] at q;cases q;exact n ts dT
 have z3:3 < ts.size:=(Array.getElem?_eq_some_iff.mp t3).1
 unfold setFlight
 refine wpAny_bind (wpAny_field he hd h1 ?_)
 rw [if_pos (show (Value.ref T != Value.none)=true from by simp)]
 refine wpAny_setField hT dT z3 (h _ (fun b o q=>(oth b fun z=>by rw [z,bT] at q;cases q).trans (hkb b o q)) (hl.of_keeps fun b o q n=>⟨o,(oth b (noT b o q n)).trans q,rfl⟩) ?_ fun b o q n=>⟨o.slots,(oth b (noT b o q n)).trans q⟩)
 exact ⟨oe,vs,T,_,_,(oth e (Ne.symm nT)).trans he,hc,hd,h1,bT,nT,Heap.get?_update_self _ hT (Obj.isFreed_of_fields (Obj.data_mapFields dT _)),Obj.data_mapFields dT _,by simp [z3]⟩
theorem leaves_onX (hfr:A.frames=some (env::outer)) (hf:env.frame=some L) (fl:FlyX base (env::outer) e cls a0 s.heap)
  (hQ:∀ h',FlyX base outer e cls a0 h'->s.heap.UpToSlots h'->Q () { s with heap:=h' }):wpAny M A (leaving env (.ref e)) Q E s:=by
 obtain ⟨f1,f2,f3,oe,vs,T,oT,ts,he,⟨rfl,h0,h2⟩,hd,h1,r⟩:=fl
 unfold leaving
 refine wpAny_bind (noteX hfr f3 hf he f1 f2 hd h0 h2 (.inr ⟨T,oT,ts,h1,r⟩) fun h' x1 x2 x3 x4=>?_)
 refine flightX (s:={ s with heap:=h' }) x1 x2 x3 fun h'' y1 y2 y3 y4=>?_
 obtain ⟨_,_,y2⟩:=y2
 exact hQ h'' ⟨y1,f2,y2,y3⟩ (x4.trans y4)
theorem leaves_madeX {h:Heap} {args:List Value} (hfr:A.frames=some (env::outer)) (hf:env.frame=some L) (hkb:base.StaysIn h) (hl:h.FunFrames base (env::outer)) (hx:Heap.MadeExcOf h s.heap e cls args)
  (hQ:∀ h' t,FlyX base outer e cls (.ref t) h'->h'.TupAt t args->base.get? t=none->s.heap.UpToSlots h'->Q () { s with heap:=h' }):wpAny M A (leaving env (.ref e)) Q E s:=by
 obtain ⟨t,he,htn,ht⟩:=hx.there
 have fresh:∀ b,h.get? b=none->base.get? b=none:=fun b hb=>by
  cases q:base.get? b with
  | none=>rfl
  | some o=>have:=hkb b o q;rw [hb] at this;cases this
 unfold leaving
 refine wpAny_bind (noteX (a0:=.ref t) hfr (hl.of_keeps fun b o q _=>⟨o,hx.keeps b o q,rfl⟩) hf he (fun b o q=>hx.keeps b o (hkb b o q)) (fresh e hx.new) rfl rfl rfl (.inl rfl) fun h' x1 x2 x3 x4=>?_)
 refine flightX (s:={ s with heap:=h' }) x1 x2 x3 fun h'' y1 y2 y3 y4=>?_
 obtain ⟨_,_,y2⟩:=y2
 exact hQ h'' t ⟨y1,fresh e hx.new,y2,y3⟩ (Heap.TupAt.of_slots ⟨_,_,ht,rfl,rfl⟩ (x4.trans y4)) (fresh t htn) (x4.trans y4)
theorem looks_onX (hfr:A.frames=some (env::outer)) (hf:env.frame=some L) (fl:FlyX base (env::outer) e cls a0 s.heap)
  (hQ:∀ h',HeldX base (env::outer) e cls a0 L h'->s.heap.UpToSlots h'->Q () { s with heap:=h' }):wpAny M A (noteFrame (.ref e) env) Q E s:=by
 obtain ⟨f1,f2,f3,oe,vs,T,oT,ts,he,⟨rfl,h0,h2⟩,hd,h1,r⟩:=fl
 exact noteX hfr f3 hf he f1 f2 hd h0 h2 (.inr ⟨T,oT,ts,h1,r⟩) fun h' x1 x2 x3 x4=>hQ h' ⟨x1,f2,x2,x3⟩ x4
theorem landsX (hh:HeldX base l e cls a0 L s.heap) (hQ:∀ h',FlyX base l e cls a0 h'->s.heap.UpToSlots h'->Q () { s with heap:=h' }):wpAny M A (setFlight (.ref e) none) Q E s :=
 flightX hh.1 hh.2.2.1 hh.2.2.2 fun h' x1 x2 x3 x4=>hQ h' ⟨x1,hh.2.1,x2,x3⟩ x4
theorem lands_againX (hh:FlyX base l e cls a0 s.heap) (hQ:∀ h',FlyX base l e cls a0 h'->s.heap.UpToSlots h'->Q () { s with heap:=h' }):wpAny M A (setFlight (.ref e) none) Q E s :=
 flightX hh.1 hh.2.2.1 hh.2.2.2 fun h' x1 x2 x3 x4=>hQ h' ⟨x1,hh.2.1,x2,x3⟩ x4
end
open PySem.Calls
def NoCtx (oe:Obj):Prop:=∃ ws,oe.data=.fields ws/\ws[2]?=some .none
def XOf (oe:Obj) (C:Addr):Prop:=oe.cls=.ref C/\NoCtx oe
theorem entry_unchain:entryFor table "proto.unchain"=some Builtin.«proto.unchain»:=entryFor_of_fast (by kernel_rfl)
section
variable {prog:Program} {w:World} {A:Around} {E:Value->Shared->Prop} {s:Shared} {ea it l:Addr} {oe:Obj}
theorem raiseNew_X {α:Type} {a:Addr} {ox:Obj} {vs:Array Value} {Q:α->Shared->Prop} (hh:A.handled=some (.ref ea)) (he:s.heap.get? ea=some oe) (hn:NoCtx oe) (hne:a≠ea) (ha:s.heap.get? a=some ox) (hd:ox.data=.fields vs) (hz:2 < vs.size)
  (h:E (.ref a) { s with heap:=s.heap.update a (Obj.mapFields (·.setIfInBounds 2 (.ref ea))) }):wpAny (model prog w) A (raiseNew (α:=α) (.ref a)) Q E s:=by
 obtain ⟨ws,w1,w2⟩:=hn
 unfold raiseNew
 refine wpAny_bind (wpAny_handled ?_)
 rw [hh]
 dsimp only
 rw [if_pos (show (Value.ref ea != Value.ref a)=true by simp;exact fun z=>hne z.symm)]
 refine wpAny_bind (wpAny_holding (wpAny_runValue (codeAny_builtin entry_unchain ?_)))
 unfold Builtin.«proto.unchain»
 show wpAny _ _ (field (.ref ea) 2 >>= _) _ _ s
 refine wpAny_bind (wpAny_field he w1 w2 ?_)
 rw [if_pos (by rfl)]
 refine wpAny_pure ?_
 show wpAny (model prog w) A (updateField a 2 (.ref ea) >>= fun _=>throw (.ref a)) Q E s
 unfold updateField
 refine wpAny_bind (wpAny_bind (wpAny_load ha ?_))
 rw [hd]
 dsimp only
 rw [if_pos hz]
 exact wpAny_update ha (wpAny_throw h)
theorem next_endX {i:Nat} {items:Array Value} {Q:Option Value->Shared->Prop} (hh:A.handled=some (.ref ea)) (he:s.heap.get? ea=some oe) (hn:NoCtx oe) (hne:ea≠it)
  (hit:s.heap.IsListIter it l i) (hl:s.heap.IsList l items) (hx:items[i]?=none)
  (hQ:∀ h',Heap.ExtBut it s.heap h'->Q none { s with heap:=h' }):wpAny (model prog w) A (pyNext (.ref it)) Q E s:=by
 obtain ⟨o,ho,hc,hd⟩:=id hit
 obtain ⟨ol,hol,_,nl,hdl⟩:=hl
 unfold pyNext
 refine wpAny_bind (wpAny_attempt (wpAny_callSpecial?_slot (name:=Str.ofString "__next__") hit.typeIs slot_listiter_next
  (wpAny_call_entry slot_listiter_next hit.typeIs entry_listiter_next ?_ (args_listiter_next _))))
 show wpAny _ _ (field (.ref it) 0 >>= _) _ _ s
 refine wpAny_bind (wpAny_field ho hd (x:=.ref l) rfl ?_)
 show wpAny _ _ (if (Value.ref l==Value.none)=true then _ else _) _ _ s
 rw [if_neg (show ¬ ((Value.ref l==Value.none)=true) from Bool.false_ne_true)]
 show wpAny _ _ (field (.ref it) 1 >>= _) _ _ s
 refine wpAny_bind (wpAny_field ho hd (x:=.int i 0) rfl ?_)
 show wpAny _ _ (seqItems? (.ref l) >>= _) _ _ s
 refine wpAny_bind (wpAny_seqItems hol hdl ?_)
 simp only [Int.toNat_natCast,hx]
 refine wpAny_bind (wpAny_rule (wpAny_bind (wpAny_setField ho hd (by simp) ?_)))
 show wpAny _ _ (newExc (.type "StopIteration") [] >>= _) _ _ _
 refine wpAny_bind ?_
 simp only [newExc,newTuple]
 refine wpAny_bind (wpAny_newObj_type ?_ (by size_fits))
 refine wpAny_bind (m:=firstArgMember _ _) (wpAny_of_eq (a:=Value.none) (by first|rfl|(simp only [firstArgMember];rfl)) ?_)
 refine wpAny_newObj_type ?_ (by size_fits)
 have k0:=(Heap.SameBut.update s.heap it (Obj.mapFields (·.setIfInBounds 0 Value.none))).extBut
 generalize s.heap.update it (Obj.mapFields (·.setIfInBounds 0 Value.none))=h1 at k0 ⊢
 have k2:=(k0.push { cls:=.type "tuple",dict:=none,data:=.seq [].toArray }) 
 refine raiseNew_X (A:=A.in1) hh (Heap.get?_push_of_some _ (k2 ea oe hne he)) hn (fun z=>?_) (Heap.get?_push_size _ rfl) rfl (by simp;omega) ?_
 ·exact Nat.ne_of_lt (Heap.lt_size (k2 ea oe hne he)) z.symm
 ·refine wpAny_bind (wpAny_isInstance (T:="StopIteration") (b:=true) ⟨_,Heap.get?_update_self _ (Heap.get?_push_size _ rfl) rfl,rfl⟩ isSubtype_stop ?_)
  refine wpAny_pure (hQ _ fun b o hb q=>?_)
  have q2:=k2 b o hb q
  rw [Heap.get?_update_ne _ _ _ _ (Nat.ne_of_lt (Heap.lt_size q2))]
  exact Heap.get?_push_of_some _ q2
theorem walks_listX (hh:A.handled=some (.ref ea)) (hn:NoCtx oe) (I:Addr) (hne:l≠I) (hne2:ea≠I) (items:Array Value) :
  Walks prog w A I [I,l,ea] [I] items.size (fun i v=>items[i]?=some v) (fun i h=>h.IsListIter I l i/\h.IsList l items/\h.get? ea=some oe) where
 sub:=fun b hb=>by simp at hb;simp [hb]
 frame:=fun _ _ _ st hk=>⟨st.1.at fun o e=>hk I (by simp) o e,st.2.1.at fun o e=>hk l (by simp) o e,hk ea (by simp) _ st.2.2⟩
 item:=fun i s Q E hi st hQ=>by
  refine wpAny_pyNext_list_item st.1 st.2.1 (x:=items[i]) (by simp [hi]) fun h' hit' hs'=>?_
  exact hQ _ h' s.toks (by simp [hi]) ⟨hit',st.2.1.extBut hs'.extBut hne,hs'.extBut ea _ hne2 st.2.2⟩ fun b o hb e=>hs'.extBut b o (fun h=>hb (by simp [h])) e
 done:=fun s Q E st hQ=>next_endX hh st.2.2 hn hne2 st.1 st.2.1 (by simp) fun h' he'=>hQ h' s.toks fun b o hb e=>he' b o (fun h=>hb (by simp [h])) e
 self:=fun _ _ _ _ st hQ=>wpAny_pyIter_listiter st.1 hQ
end
section
variable {X:Cx}
theorem call_anyX {ea:Addr} {oe:Obj} (K:W.Frag) (hK:X.K=K) (hp:(ea,oe)∈X.pn) (hn:NoCtx oe) (hh:X.A.handled=some (.ref ea)):CallR X (.builtin "any") (rAny K):=by
 subst hK
 intro pins s σ H xs us Q I r h
 obtain ⟨a,bs,rfl,hq,q⟩:=h
 obtain ⟨u,rfl,r1⟩:=vals1 r
 cases r1
 obtain ⟨its,rv,p,hz⟩:=I.list hq
 cases vals_bools rv
 obtain ⟨p1,_⟩:=I.pin (ea,oe) (mem_append_left _ hp)
 refine call_any_walk (wpAny_pyIter_list p.isList ?_)
 have hne:a≠s.heap.objs.size:=by obtain ⟨o,n,e,_⟩:=p;exact Nat.ne_of_lt (Heap.lt_size e)
 have hne2:ea≠s.heap.objs.size:=Nat.ne_of_lt (Heap.lt_size p1)
 refine ⟨_,_,_,_,_,_,_,rfl,walks_listX (A:=X.A.in1) hh hn s.heap.objs.size hne hne2 _,⟨⟨_,Heap.get?_push_size _ rfl,rfl,rfl⟩,(p.keeps fun b o e=>Heap.get?_push_of_some _ e).isList,Heap.get?_push_of_some _ p1⟩,bools_truth,fun h' tk k=>?_⟩
 have e1:((bs.map Value.bool).toArray.size)=bs.length:=by simp
 rw [e1,range_any]
 refine ⟨.bl _,H,I.kept fun b o e=>k b o ?_ (Heap.get?_push_of_some _ e),rfl,q⟩
 simp only [mem_singleton]
 exact Nat.ne_of_lt (Heap.lt_size e)
end
theorem ObjOk.there {P:Program} {w:World} {H:Hp} {h:Heap} {a:Addr} {o:HO} (x:ObjOk P w H h a o):∃ ob,h.get? a=some ob:=by
 cases o with
 | lst xs=>obtain ⟨_,_,_,_,e⟩:=x;exact ⟨_,e⟩
 | tup xs=>obtain ⟨_,_,_,o,e,_⟩:=x;exact ⟨_,e⟩
 | dK kvs=>obtain ⟨_,_,_,_,o,_,_,e,_⟩:=x;exact ⟨_,e⟩
 | dT kvs=>obtain ⟨_,_,_,_,o,_,_,e,_⟩:=x;exact ⟨_,e⟩
 | set S n=>obtain ⟨o,_,_,_,e,_⟩:=x;exact ⟨_,e⟩
 | ins C dx fs=>obtain ⟨_,_,_,e,_⟩:=x;exact ⟨_,e⟩
 | own y=>obtain ⟨_,e⟩:=x;exact ⟨_,e⟩
 | xd fs=>obtain ⟨_,⟨_,_,_,e,_⟩,_⟩:=x;exact ⟨_,e⟩
 | rng lo hi=>obtain ⟨_,_,_,e⟩:=x;exact ⟨_,e⟩
 | frz ob u=>obtain ⟨e,_⟩:=x;exact ⟨_,e⟩
 | tbl ps=>exact ⟨_,(show h.get? a=some _ from x)⟩
 | met f y=>exact ⟨_,(show h.get? a=some _ from x)⟩
 | ext φ=>obtain ⟨_,⟨_,e⟩,_⟩:=x;exact ⟨_,e⟩
def Fly (base:Heap) (l:List Env) (ea:Addr) (cls:Value) (H:Hp) (h0 h:Heap):Prop :=
 ∃ (B:Heap) (a0:Value),base.StaysIn B/\FlyX B l ea cls a0 h/\∀ b,B.get? b=none->b∉frs l->(∃ o,h.get? b=some o)->h0.get? b=none/\H b=none
def CXE (P:Program) (w:World) (base:Heap):CXT:=fun outer H s E e s' =>
 ∃ (ea:Addr) (cls:Value) (H':Hp),e=.ref ea/\s'.os=s.os/\AllBare s'.gens/\Un (frs outer) [] H H' s.heap s'.heap/\HOk P w H' s'.heap/\Fly base outer ea cls H' s.heap s'.heap/\E cls none H'
section
variable {X:Cx} {pins:List (Addr × Obj)} {σ:St} {H:Hp} {s:Shared}
theorem Inv.in0 (I:Inv X pins σ H s) (hex:X.ex=[]) {b:Addr} (h:s.heap.get? b=none):X.s₀.heap.get? b=none:=by
 cases q:X.s₀.heap.get? b with
 | none=>rfl
 | some o =>
  obtain ⟨o',e⟩:=I.base.there b o q (by rw [hex];simp)
  rw [h] at e;cases e
theorem leave_core {B:Heap} {ea:Addr} {cls a0:Value} {h':Heap} {E:XK} (I:Inv X pins σ H s) (hex:X.ex=[]) (hst:X.stack=X.env::X.outer) (hf:X.env.frame=some X.env.locals)
  (hb:X.base.StaysIn B) (hB:B.StaysIn s.heap) (fl:FlyX B X.outer ea cls a0 h') (up:s.heap.UpToSlots h')
  (pr:∀ b,B.get? b=none->b∉frs X.stack->(∃ o,s.heap.get? b=some o)->X.s₀.heap.get? b=none/\H b=none) (hE:E cls none H) :
  CXE X.prog X.w X.base X.outer X.H₀ X.s₀ E (.ref ea) { s with heap:=h' }:=by
 have hB':B.StaysIn h':=fl.1
 have inB:∀ b o,s.heap.get? b=some o->b∉frs X.stack->(X.s₀.heap.get? b≠none\/H b≠none)->B.get? b=some o:=by
  intro b o e hb hp
  cases q:B.get? b with
  | some o'=>have:=hB b o' q;rw [e] at this;rw [this]
  | none =>
   obtain ⟨h1,h2⟩:=pr b q hb ⟨o,e⟩
   rcases hp with z|z
   ·exact absurd h1 z
   ·exact absurd h2 z
 have L0:∀ b o,X.s₀.heap.get? b=some o->b≠X.env.locals:=fun b o e=>Nat.ne_of_lt (Nat.lt_of_lt_of_le (Heap.lt_size e) I.ok.above)
 have fsS:frs X.stack=X.env.locals::X.fs:=by rw [hst];unfold frs;rw [List.filterMap_cons,hf];rfl
 have nS:∀ b o,X.s₀.heap.get? b=some o->b∉X.fs->b∉frs X.stack:=fun b o e hb z=>by
  rw [fsS] at z
  rcases mem_cons.mp z with z|z
  ·exact L0 b o e z
  ·exact hb z
 have hx0:∀ b:Addr,b∉X.ex:=fun b=>by rw [hex];simp
 refine ⟨ea,cls,H,rfl,I.os,I.bare,⟨fun b o e n hbf _=>?_,fun b o e n hbf _=>?_,fun b o e n _=>I.base.free b o e n (hx0 b),fun b o e _=>?_,I.base.tups,I.base.frzs,I.base.tbls⟩,fun b u e=>?_,⟨B,a0,hb,fl,fun b hbn hbf he=>?_⟩,hE⟩
 ·exact hB' b o (inB b o (I.base.keep b o e n hbf (hx0 b)) (nS b o e hbf) (.inl (by rw [e];simp)))
 ·obtain ⟨sl,q⟩:=I.base.slot b o e n hbf (hx0 b)
  obtain ⟨_,o',q',nf⟩:=I.funs.mem hbf
  rw [q] at q';cases q'
  obtain ⟨sl',q''⟩:=up b _ q nf
  exact ⟨sl',q''⟩
 ·obtain ⟨o',q⟩:=I.base.there b o e (hx0 b)
  by_cases hbf:b∈X.fs
  ·obtain ⟨_,o'',q',nf⟩:=I.funs.mem hbf
   rw [q] at q';cases q'
   obtain ⟨sl',q''⟩:=up b _ q nf
   exact ⟨_,q''⟩
  ·exact ⟨o',hB' b o' (inB b o' q (nS b o e hbf) (.inl (by rw [e];simp)))⟩
 ·refine (I.hok b u e).stay (fun c v hc q=>?_) (fun _ q=>q) (fun _ _ q=>q)
  have hcn:H c≠none:=by
   rcases hc with z|z
   ·rw [z,e];simp
   ·rw [z];simp
  exact hB' c v (inB c v q (fun z=>hcn (I.stkFree c z)) (.inr hcn))
 ·obtain ⟨o,e⟩:=he
  cases q:s.heap.get? b with
  | some ob =>
   by_cases hL:b=X.env.locals
   ·rw [hL];exact ⟨Heap.get?_none_of_le I.ok.above,I.free⟩
   ·refine pr b hbn (fun z=>?_) ⟨ob,q⟩
    rw [fsS] at z
    rcases mem_cons.mp z with z|z
    ·exact hL z
    ·exact hbf z
  | none =>
   refine ⟨I.in0 hex q,?_⟩
   cases z:H b with
   | none=>rfl
   | some u =>
    obtain ⟨ob,q'⟩:=ObjOk.there (I.hok b u z)
    rw [q] at q';cases q'
end
def RaiseOk (X:Cx) (E:XK):Prop:=∀ (pins:List (Addr × Obj)) (σ:St) (H:Hp) (s:Shared) (ea:Addr) (cls:Value) (vs:List Value) (h':Heap),Inv X pins σ H s->Heap.MadeExcOf s.heap h' ea cls vs->E cls none H->X.xe (.ref ea) { s with heap:=h' }
section
variable {P:Program} {w:World} {K:W.Frag} {mg:Str->Option Value} {base:Heap} {N:List Str} {qual:Str} {scope:Scope} {f:Addr} {cd:Value} {A:Around} {outer:List Env} {s0:Shared} {H0:Hp} {E:XK}
theorem raiseOk_cx:RaiseOk (cxOf (CXE P w base) P w K mg base N qual scope f cd A outer s0 H0 E) E:=by
 intro pins σ H s ea cls vs h' I hx hE
 have hin:∀ env∈(cxOf (CXE P w base) P w K mg base N qual scope f cd A outer s0 H0 E).stack,∀ b,env.frame=some b->b∈frs (cxOf (CXE P w base) P w K mg base N qual scope f cd A outer s0 H0 E).stack:=fun env he b hb=>List.mem_filterMap.mpr ⟨env,he,hb⟩
 show wpAny _ _ (leaving _ _) _ _ _
 refine leaves_madeX (base:=PySem.W.hideAll s.heap (frs (cxOf (CXE P w base) P w K mg base N qual scope f cd A outer s0 H0 E).stack)) (h:=s.heap) I.ok.frames rfl (fun b o q=>PySem.W.of_hideAll _ q) (PySem.W.funFrames_hide I.stack hin) hx fun h'' t fl tup bt up=>?_
 refine leave_core I rfl rfl rfl (fun b o e=>PySem.W.hideAll_get _ (I.bk b o e) fun hm=>?_) (fun b o q=>PySem.W.of_hideAll _ q) fl ((Heap.UpToSlots.of_keeps hx.keeps).trans up) (fun b hbn hbf he=>?_) hE
 ·have:=(I.stack.mem hm).1
  rw [show (cxOf (CXE P w base) P w K mg base N qual scope f cd A outer s0 H0 E).base.get? b=some o from e] at this
  cases this
 ·obtain ⟨o,e⟩:=he
  rw [PySem.W.hideAll_get _ e hbf] at hbn
  cases hbn
theorem passE:Passes (CXE P w base) (cxOf (CXE P w base) P w K mg base N qual scope f cd A outer s0 H0 E) E:=by
 rintro pins σ H s e s' I ⟨ea,cls,H',rfl,os,bare,un,hok,⟨B,a0,hb,fl,pr⟩,hE⟩
 have I':=I.call' (ch:=[]) os un hok bare (fun _ z=>nomatch z)
 show wpAny _ _ (leaving _ _) _ _ _
 refine leaves_onX I.ok.frames rfl fl fun h' fl' up=>?_
 refine leave_core I' rfl rfl rfl hb fl.1 fl' up (fun b h1 h2 h3=>?_) hE
 obtain ⟨q1,q2⟩:=pr b h1 h2 h3
 exact ⟨I.in0 rfl q1,q2⟩
end
abbrev bmV:List Value:=[.type "ValueError",.type "Exception",.type "BaseException",.type "object"]
structure ExC (K:W.Frag) (mg:Str->Option Value) (x:Str) (C:Addr):Prop where
 mgx:mg x=some (.ref C)
 exc:PySem.W.excIn K C bmV "ValueError.__new__"=true
theorem ExC.own {K:W.Frag} {mg:Str->Option Value} {x:Str} {C:Addr} {h:Heap} (c:ExC K mg x C) (X:K.In h):OwnCls x C bmV "ValueError.__new__" mg h:=by
 obtain ⟨hm,hq⟩:=c
 refine ⟨hm,?_⟩
 unfold PySem.W.excIn at hq
 split at hq
 case h_2=>cases hq
 case h_1 dk cdk slk hok =>
  split at hq
  case h_2=>cases hq
  case h_1 Ck bk a0 a1 a2 a3 nk a5 hmro hsl =>
   rw [Bool.and_eq_true,Bool.and_eq_true,Bool.and_eq_true,Bool.and_eq_true,Bool.and_eq_true,beq_iff_eq,beq_iff_eq,beq_iff_eq] at hq
   obtain ⟨⟨⟨⟨⟨e1,e2⟩,e3⟩,e4⟩,e5⟩,e6⟩:=hq
   have e3:cdk.hasDel=false:=by simpa using e3
   have hok':=X _ _ hok
   cases e1
   cases e2
   cases cdk with
   | mk x1 x2 x3 x4 x5 x6 x7 x8 x9 x10 x11 =>
    cases slk with
    | mk lk =>
     cases hmro
     cases e3
     cases hsl
     exact ⟨_,_,_,_,_,_,_,_,_,_,_,_,_,_,_,_,_,hok',Heap.Ns.of_isNs (PySem.W.isNs_of_in X e5),PySem.W.nsMap_none_of_in X e5 e6,PySem.W.tail_of_in X e4⟩
section
variable {X:Cx} {pos np cpos:Pos} {x:Str} {C:Addr} {E:XK} {e0:Expr} {es:List Expr} {ta:TA}
def tRaise (C:Addr) (E:XK) (ta:TA):TS:=fun _ σ H=>ta σ H fun vs H1=>vs.length<=sizeLine/\E (.ref C) none H1
theorem ps_raise (hx:RaiseOk X E) (hc:X.calm=true) (c:ExC X.K X.mg x C) (hg:Gl X x) (ha:PA X (e0::es) ta) (hdb:(x==("__debug__":Str))=false:=by decide)
  (he:starEach (e0::es) X.env=(false,eval e0 X.env)::starEach es X.env:=by rfl) (hpl:(backTo cpos (starEach es X.env)).any (·.1)=false:=by rfl) :
  PS X (.Raise (some (.Call (.Name x np) (e0::es) [] cpos)) none pos) (tRaise C E ta):=by
 intro pins s σ H D I h
 obtain ⟨tl,N,nm,q,bs,hdct,sn,sub,ab,col,dd,k0,k1,k2,k3,k5,mN,hC,hN,hni,T⟩:=(c.own I.mod.kin).obj
 refine wpAny_Raise_call_subU (C:=C) (nm:=nm) (q:=q) (N:=N) (bs:=bs) (bm:=tl) (hdct:=hdct) (sn:=sn) (sub:=sub) (ab:=ab) (col:=col) (dd:=dd) (k0:=k0) (k1:=k1) (k2:=k2) (k3:=k3) (k5:=k5) PySem.F.excBase_ValueError (by decide +kernel) PySem.F.excBase_ValueError (mN:=mN) (T.hasType (by decide +kernel)) (I.ok.hd hc) ?_ hni (ld_glob I hg c.mgx ⟨rfl,?_⟩ hdb)
 ·rw [he]
  show (false||(backTo cpos (starEach es X.env)).any (·.1))=false
  rw [hpl];rfl
 have ha':=ha cpos pins s σ H _ I h
 rw [he] at ha' ⊢
 refine Calls.evalArgs_plain (thn ha' fun us s1 ⟨vs,H1,I1,r1,hl,q1⟩=>?_)
 exact ⟨rfl,by rw [<-r1.length];exact hl,I1.bk _ _ hC,hN.keeps I1.bk,T.keeps I1.bk,fun h' e hm=>hx pins σ H1 s1 e (.ref C) us h' I1 hm q1⟩
end
structure DfE (P:Program) (w:World) (K:W.Frag) (mg:Str->Option Value) (base:Heap) (x:Str) (ps:List Str) (k:Nat) (sp:Sp):Prop where
 ex:∃ f fd,FnOk P w K mg base (CXE P w base) k f fd ps sp/\mg x=some (.ref f)/\PySem.W.keepIn K (.ref f)=true/\Binds K fd ps []
theorem pe_dfE {X:Cx} {x:Str} {ps:List Str} {k:Nat} {sp:Sp} {p pos:Pos} {e:Expr} {es:List Expr} {t:TA} {E:XK} (D:DfE X.prog X.w X.K X.mg X.base x ps k sp) (hx:Passes (CXE X.prog X.w X.base) X E) (hr:Room k X.A) (ha:PA X (e::es) t) (hg:Gl X x:=by rfl) (hdb:(x==("__debug__":Str))=false:=by decide)
  (he:starEach (e::es) X.env=(false,eval e X.env)::starEach es X.env:=by rfl) (hpl:(backTo pos (starEach es X.env)).any (·.1)=false:=by rfl):PE X (.Call (.Name x p) (e::es) [] pos) (tCall sp [] E t):=by
 obtain ⟨f,fd,F,hm,hk,hb⟩:=D.ex
 exact pe_call F hr hg hm hk hb .nil hx ha hdb he hpl
theorem PS.nox {X:Cx} {st:Stmt} {t:TS} (h:PS X.nox st t):PS X st t:=fun pins s σ H D I hw =>
 wpAny_mono (h pins s σ H D (I.wish _) hw) (fun _ _ q=>q.unwish) fun _ _ z=>False.elim z
theorem Fun.okE {P:Program} {w:World} {K:W.Frag} {mg:Str->Option Value} {base:Heap} {x qual:Str} {st:Stmt} {f:Addr} {fd:FuncData} {N ps:List Str} {k:Nat} {sp:Sp} (F:Fun K x qual st f fd) (S:FnScope N ps (defScope st)) (len:∀ vs H Q E,sp vs H Q E->vs.length=ps.length)
  (hbody:∀ (cdv:Value) (A:Around) (outer:List Env) (s:Shared) (H:Hp) (vs:List V) (Q:VK) (E:XK),Room k (A.deeper (envOfC qual (defScope st) s.heap.objs.size f cdv))->sp vs H Q E ->
   ∃ t,PSs (cxOf (CXE P w base) P w K mg base N qual (defScope st) f cdv A outer s H E) (defBody st) t/\t { nx:=fun _ H'=>Q .non H',rt:=Q } (start N vs) H):FnOk P w K mg base (CXE P w base) (k+1) f fd ps sp:=by
 obtain ⟨oc,od,kV,doc,pm,an,cdv,ct,osl,rfl,lk,hcd⟩:=F.ex
 exact fn_of lk hcd S len fun A outer s H vs Q E hr hsp=>hbody cdv A outer s H vs Q E hr hsp
section
variable {X:Cx}
theorem qnT {e:Expr} {t:TT} (h:QT X.nox e t):QT X e t:=⟨h.h.nox⟩
theorem qnS {e:Stmt} {t:TS} (h:QS X.nox e t):QS X e t:=⟨h.h.nox⟩
theorem qps_raise {x:Str} {C:Addr} {E:XK} {e0:Expr} {es:List Expr} {ta:TA} {pos np cpos:Pos} (hx:RaiseOk X E) (hc:X.calm=true) (c:ExC X.K X.mg x C) (hg:Gl X x) (ha:QA X (e0::es) ta) (hdb:(x==("__debug__":Str))=false:=by decide)
  (he:starEach (e0::es) X.env=(false,eval e0 X.env)::starEach es X.env:=by rfl) (hpl:(backTo cpos (starEach es X.env)).any (·.1)=false:=by rfl) :
  QS X (.Raise (some (.Call (.Name x np) (e0::es) [] cpos)) none pos) (tRaise C E ta):=⟨ps_raise hx hc c hg ha.h hdb he hpl⟩
theorem qpe_dfE {x:Str} {ps:List Str} {k:Nat} {sp:Sp} {p pos:Pos} {e:Expr} {es:List Expr} {t:TA} {E:XK} (D:DfE X.prog X.w X.K X.mg X.base x ps k sp) (hx:Passes (CXE X.prog X.w X.base) X E) (hr:Room k X.A) (ha:QA X (e::es) t) (hg:Gl X x:=by rfl) (hdb:(x==("__debug__":Str))=false:=by decide)
  (he:starEach (e::es) X.env=(false,eval e X.env)::starEach es X.env:=by rfl) (hpl:(backTo pos (starEach es X.env)).any (·.1)=false:=by rfl):QE X (.Call (.Name x p) (e::es) [] pos) (tCall sp [] E t):=⟨pe_dfE D hx hr ha.h hg hdb he hpl⟩
end
structure Fits (K:W.Frag) (C R:Addr):Prop where
 sub:PySem.W.kitCls K (.ref C) (.ref R)=some true
 exc:PySem.W.subIn K (.ref R) (.type "BaseException")=some true
theorem exc_matches {K:W.Frag} {M:Model} {A:Around} {E:Value->Shared->Prop} {h:Heap} {g:Array GenState} {d:Drawn} {tk:Nat} {os:OsState} {e C R:Addr} {oe:Obj} {Q:Bool->Shared->Prop} (X:K.In h) (he:h.get? e=some oe) (hcls:oe.cls=.ref C)
  (k:Fits K C R) (hq:Q true ⟨h,g,d,tk,os⟩):wpAny M A (excMatches (.ref e) (.ref R)) Q E ⟨h,g,d,tk,os⟩:=by
 obtain ⟨l1,l2,l3⟩:=PySem.W.kit_cls (M:=M) X k.sub
 have l4:=PySem.W.looks_subIn (M:=M) X k.exc
 have f:=tc_notTuple
 unfold excMatches isInstance isExcClass
 repeat (first|with_reducible refine PySem.W.Looks.at l1 ?_|with_reducible refine PySem.W.Looks.at l2 ?_|with_reducible refine PySem.W.Looks.at l3 ?_|with_reducible refine PySem.W.Looks.at l4 ?_|(with_reducible refine wpAny_loadPart_at he ?_;rw [hcls])|wp_step)
 exact hq
abbrev Cx.within (X:Cx) (ea:Addr) (oe:Obj):Cx:={ X with A:=X.A.mark (some (.ref ea)),calm:=false,pn:=X.pn++[(ea,oe)],xe:=fun _ _=>False }
theorem Cx.Ok.within {X:Cx} (ok:X.Ok) (ea:Addr) (oe:Obj):(X.within ea oe).Ok :=
 ⟨ok.mod,ok.kind,ok.glob,ok.blt,ok.above,ok.inj,ok.has,ok.cab,(fun z=>nomatch z),ok.frames,ok.stk,ok.exf,ok.bs,ok.bsz,ok.noex,ok.exfs,ok.funs,ok.frf⟩
def Priv (X:Cx) (pins:List (Addr × Obj)) (B:Heap) (H:Hp) (h:Heap):Prop :=
 ∀ b,B.get? b=none->b∉frs X.stack->(∃ o,h.get? b=some o)->X.s₀.heap.get? b=none/\H b=none/\∀ p∈X.pn++pins,p.1≠b
structure Flat (X:Cx):Prop where
 ex:X.ex=[]
 st:X.stack=X.env::X.outer
 fr:X.env.frame=some X.env.locals
section
variable {X:Cx} {pins:List (Addr × Obj)} {σ:St} {H:Hp} {s:Shared}
theorem Inv.within {ea:Addr} {oe:Obj} {ws:Array Value} (I:Inv X pins σ H s) (he:s.heap.get? ea=some oe) (hd:oe.data=.fields ws) (hH:H ea=none) (hL:ea≠X.env.locals) (hF:ea∉X.fs):Inv (X.within ea oe) pins σ H s :=
 ⟨I.ok.within ea oe,I.os,I.bare,I.base,I.loc,I.cell,I.free,I.freeC,fun p hp=>by
  rcases mem_append.mp hp with hp|hp
  ·rcases mem_append.mp hp with hp|hp
   ·exact I.pin p (mem_append_left _ hp)
   ·obtain rfl:p=(ea,oe):=by simpa using hp
    exact ⟨he,hH,hL,hF,fun v z=>by rw [hd] at z;cases z⟩
  ·exact I.pin p (mem_append_right _ hp),I.hok,I.len⟩
theorem Inv.without {ea:Addr} {oe:Obj} (ok:X.Ok) (I:Inv (X.within ea oe) pins σ H s):Inv X pins σ H s :=
 ⟨ok,I.os,I.bare,I.base,I.loc,I.cell,I.free,I.freeC,fun p hp=>I.pin p (by
  rcases mem_append.mp hp with hp|hp
  ·exact mem_append_left _ (mem_append_left _ hp)
  ·exact mem_append_right _ hp),I.hok,I.len⟩
theorem Flat.fs (F:Flat X):frs X.stack=X.env.locals::X.fs:=by rw [F.st];unfold frs;rw [List.filterMap_cons,F.fr];rfl
theorem Inv.fly {B:Heap} {ea:Addr} {cls a0:Value} {h':Heap} (I:Inv X pins σ H s) (F:Flat X) (hb:X.base.StaysIn B) (hB:B.StaysIn s.heap) (fl:FlyX B X.stack ea cls a0 h') (up:s.heap.UpToSlots h') (pr:Priv X pins B H s.heap) :
  Inv X pins σ H { s with heap:=h' }:=by
 have fl':FlyX B X.outer ea cls a0 h':=by
  obtain ⟨k1,k2,k3,k4⟩:=fl
  rw [F.st] at k3
  obtain ⟨_,_,k3⟩:=k3
  exact ⟨k1,k2,k3,k4⟩
 obtain ⟨_,_,H',_,_,_,un,hok,_,eH⟩:=leave_core (E:=fun _ _ H'=>H'=H) I F.ex F.st F.fr hb hB fl' up (fun b h1 h2 h3=>let ⟨q1,q2,_⟩:=pr b h1 h2 h3;⟨q1,q2⟩) rfl
 subst eH
 have cellK:∀ c v,s.heap.IsCell c v->h'.IsCell c v:=fun c v ⟨o,ho,hd⟩=>by
  obtain ⟨sl,e⟩:=up c o ho (fun vs z=>by rw [hd] at z;cases z)
  exact ⟨_,e,hd⟩
 refine ⟨I.ok,I.os,I.bare,by rw [F.ex];exact un,?_,fun x c e=>?_,I.free,I.freeC,fun p hp=>?_,hok,I.len⟩
 ·obtain ⟨m,hn,hl⟩:=I.loc
  refine ⟨m,up.ns hn,fun i x v e1 e2 e3=>?_⟩
  obtain ⟨u,r,q⟩:=hl i x v e1 e2 e3
  refine ⟨u,r,?_⟩
  rcases q with q|⟨k,c,e,z⟩
  ·exact .inl q
  ·exact .inr ⟨k,c,e,cellK c _ z⟩
 ·obtain ⟨v,z⟩:=I.cell x c e
  exact ⟨v,cellK c v z⟩
 ·obtain ⟨e,n,ne,nf,d⟩:=I.pin p hp
  refine ⟨?_,n,ne,nf,d⟩
  cases q:B.get? p.1 with
  | some o' =>
   have:=hB _ _ q
   rw [e] at this;cases this
   exact fl.1 _ _ q
  | none =>
   have:=(pr p.1 q (fun z=>by rw [F.fs] at z;rcases mem_cons.mp z with z|z;exact ne z;exact nf z) ⟨_,e⟩).2.2 p hp
   exact absurd rfl this
theorem Priv.fly {B h':Heap} (I:Inv X pins σ H s) (F:Flat X) (pr:Priv X pins B H s.heap):Priv X pins B H h':=fun b h1 h2 _=>by
 cases q:s.heap.get? b with
 | some o=>exact pr b h1 h2 ⟨o,q⟩
 | none =>
  refine ⟨I.in0 F.ex q,?_,fun p hp z=>?_⟩
  ·cases z:H b with
   | none=>rfl
   | some u=>obtain ⟨ob,q'⟩:=ObjOk.there (I.hok b u z);rw [q] at q';cases q'
  ·have:=(I.pin p hp).1
   rw [z,q] at this;cases this
theorem fly_own {B h:Heap} {ea:Addr} {cls a0:Value} (F:Flat X) (fl:FlyX B X.stack ea cls a0 h) (pr:Priv X pins B H h):∃ oe ws,h.get? ea=some oe/\oe.cls=cls/\oe.data=.fields ws/\H ea=none/\ea≠X.env.locals/\ea∉X.fs/\NoCtx oe:=by
 obtain ⟨oe,ws,e,c,d,d2⟩:=fl.own
 have nf:ea∉frs X.stack:=fun z=>by
  obtain ⟨_,o,q,n⟩:=fl.2.2.1.mem z
  rw [e] at q;cases q
  exact n ws d
 refine ⟨oe,ws,e,c,d,(pr ea fl.2.1 nf ⟨oe,e⟩).2.1,fun z=>nf (by rw [F.fs,z];exact mem_cons_self),fun z=>nf (by rw [F.fs];exact mem_cons_of_mem _ z),ws,d,d2⟩
end
def XPr (X:Cx) (pins:List (Addr × Obj)) (σ:St) (E:XK) (e:Value) (s':Shared):Prop :=
 ∃ (ea:Addr) (cls:Value) (H':Hp) (B:Heap) (a0:Value),e=.ref ea/\Inv X pins σ H' s'/\X.base.StaysIn B/\FlyX B X.stack ea cls a0 s'.heap/\Priv X pins B H' s'.heap/\E cls none H'
abbrev TEX:=St->Hp->VK->XK->Prop
abbrev TSX:=Ends->(St->XK)->St->Hp->Prop
structure PEX (X:Cx) (e:Expr) (t:TEX):Prop where
 h:∀ (pins:List (Addr × Obj)) (s:Shared) (σ:St) (H:Hp) (Q:VK) (E:XK),Inv X pins σ H s->t σ H Q E->wpAny (model X.prog X.w) X.A (eval e X.env) (EP X pins σ Q) (XPr X pins σ E) s
structure PSX (X:Cx) (st:Stmt) (t:TSX):Prop where
 h:∀ (pins:List (Addr × Obj)) (s:Shared) (σ:St) (H:Hp) (D:Ends) (E:St->XK),Inv X pins σ H s->t D E σ H->wpAny (model X.prog X.w) X.A (exec st X.env) (SP X pins D) (fun e s'=>∃ σ',XPr X pins σ' (E σ') e s') s
structure PSXs (X:Cx) (st:List Stmt) (t:TSX):Prop where
 h:∀ (pins:List (Addr × Obj)) (s:Shared) (σ:St) (H:Hp) (D:Ends) (E:St->XK),Inv X pins σ H s->t D E σ H->wpAny (model X.prog X.w) X.A (execs st X.env) (SP X pins D) (fun e s'=>∃ σ',XPr X pins σ' (E σ') e s') s
section
variable {X:Cx}
def xCall (sp:Sp) (t:TA):TEX:=fun σ H Q E=>t σ H fun vs H1=>sp vs H1 Q E
def xSet (i:Nat) (te:TEX):TSX:=fun D E σ H=>te σ H (fun v H1=>D.nx (σ.set i (some v)) H1) (E σ)
def xIf (tc:TT) (a b:TSX):TSX:=fun D E σ H=>tc σ H fun d H1=>if d=true then a D E σ H1 else b D E σ H1
theorem pex_call {x:Str} {ps:List Str} {k:Nat} {sp:Sp} {p pos:Pos} {e:Expr} {es:List Expr} {t:TA} (D:DfE X.prog X.w X.K X.mg X.base x ps k sp) (F:Flat X) (hr:Room k X.A) (ha:QA X.nox (e::es) t) (hg:Gl X x:=by rfl) (hdb:(x==("__debug__":Str))=false:=by decide)
  (he:starEach (e::es) X.env=(false,eval e X.env)::starEach es X.env:=by rfl) (hpl:(backTo pos (starEach es X.env)).any (·.1)=false:=by rfl):PEX X (.Call (.Name x p) (e::es) [] pos) (xCall sp t):=⟨by
 intro pins s σ H Q E I h
 obtain ⟨f,fd,G,hm,hk,hb⟩:=D.ex
 refine wpAny_Call_Name_kw (ld_glob I hg hm ?_ hdb)
 refine PySem.W.callWith_K (h₀:=X.base) I.ok.mod.kin hk (wpAny_mono (ha.h pos pins s σ H _ (I.wish _) h) (fun us s1 q=>?_) fun _ _ z=>False.elim z) he hpl
 obtain ⟨vs,H1,I1,r,q⟩:=q
 have I1:=I1.unwish
 refine ⟨I1.kIn,?_⟩
 have hl:us.length=ps.length:=by rw [<-r.length];exact G.len _ _ _ _ q
 have hbs:=hb s1 us I1.kIn (by rw [append_nil];exact hl)
 rw [append_nil] at hbs
 refine wpAny_call (codeAny_mono (G.run X.A X.stack s1 H1 ⟨us,[]⟩ us vs Q E hr I1.env0 hbs r q) fun r s' hq=>?_)
 cases r with
 | ok fl =>
  cases fl with
  | ret u=>exact I1.after hq
  | next=>exact False.elim hq
  | brk=>exact False.elim hq
  | cont=>exact False.elim hq
 | error e =>
  obtain ⟨ea,cls,H',rfl,os,bare,un,hok,⟨B,a0,hb,fl,pr⟩,hE⟩:=hq
  have I':=I1.call' (ch:=[]) os un hok bare (fun _ z=>nomatch z)
  refine ⟨ea,cls,H',B,a0,rfl,I',hb,fl,fun b h1 h2 h3=>?_,hE⟩
  obtain ⟨q1,q2⟩:=pr b h1 h2 h3
  refine ⟨I1.in0 F.ex q1,q2,fun p hp z=>?_⟩
  have:=(I1.pin p hp).1
  rw [z,q1] at this;cases this⟩
theorem psx_set (i:Nat) {x:Str} {e:Expr} {te:TEX} {pos pos':Pos} (hN:X.N.Nodup) (he:PEX X e te) (hi:X.N[i]?=some x:=by rfl) (hx:Loc X.env.scope x:=by first|exact Or.inl rfl|exact Or.inr rfl) (hs:swapsWith e (some (.Name x pos')) pos.line X.env=pure false:=by rfl)
  (hf:X.fn x=true\/X.env.scope.names.lookup x=some .local:=by first|exact .inl rfl|exact .inr rfl|assumption):PSX X (.Assign [.Name x pos'] e pos) (xSet i te):=⟨fun pins s σ H D E I hw=>by
 refine wpAny_Assign_Name (wpAny_mono (he.h pins s σ H _ _ I hw) (fun v s1 q=>?_) fun _ _ z=>⟨σ,z⟩) hs
 obtain ⟨y,H1,I1,r1,q1⟩:=q
 exact store_ok I1 hN hi hx r1 (fun s2 I2=>⟨_,H1,I2,q1⟩) hf⟩
theorem psxs_one {st:Stmt} {t:TSX} (h1:PSX X st t):PSXs X [st] t:=⟨fun pins s σ H D E I h=>by
 refine wpAny_execs_cons (thn (h1.h pins s σ H D E I h) fun f s1 q=>?_)
 cases f with
 | next =>
  obtain ⟨σ',H',I',q⟩:=q
  exact wpAny_execs_nil ⟨σ',H',I',q⟩
 | ret v=>exact q
 | brk=>exact q
 | cont=>exact q⟩
end
structure ExK (K:W.Frag) (C:Addr):Prop where
 ga:PySem.W.findIn K (.ref C) "__getattribute__"=some (some (.builtin "BaseException.__getattribute__"))
 cl:PySem.W.findIn K (.ref C) "__class__"=some (some (.builtin "object.__class__"))
 gg:PySem.W.findIn K (.ref C) "__getattr__"=some none
 ob:PySem.W.subIn K (.ref C) (.type "object")=some true
 be:PySem.W.subIn K (.ref C) (.type "BaseException")=some true
 se:PySem.W.kitCls K (.ref C) (.ref C)=some true
section
variable {K:W.Frag} {prog:Program} {w:World} {A:Around} {E:Value->Shared->Prop} {h:Heap} {g:Array GenState} {d:Drawn} {t:Nat} {os:OsState} {a C:Addr} {o:Obj}
theorem xc_get {R:Result->Shared->Prop} (X:K.In h) (k:ExK K C) (hx:h.get? a=some o) (hc:o.cls=.ref C) (hq:R (.ok (.ret (.ref C))) ⟨h,g,d,t,os⟩) :
  codeAny (model prog w) A (.call (.builtin "getset_descriptor.__get__") ⟨[.builtin "object.__class__",.ref a,.ref C],[]⟩) R ⟨h,g,d,t,os⟩:=by
 have l1:=PySem.W.looks_subIn (M:=model prog w) X k.ob
 have e1:=F.owner_object_class
 have hT5:(⟨h,g,d,t,os⟩:Shared).TypeIs (.builtin "object.__class__") "getset_descriptor":=F.typeOf_object_class
 refine codeAny_call_builtin F.slot_gs_get.plain F.entry_gs_get (F.slot_gs_get.check _ _ _ _ _ _ _ _ hT5 (F.args_gs_get _ _ _) ?_)
 repeat (any_goals (first|assumption|(with_reducible refine wpAny_loadPart_at hx ?_;rw [hc])|with_reducible refine PySem.W.Looks.at l1 ?_|rw [e1]|wp_step))
 refine ⟨Code.quiet_builtin _ (by decide +kernel),codeAny_builtin F.entry_object_class ?_⟩
 repeat (any_goals (first|assumption|(with_reducible refine wpAny_loadPart_at hx ?_;rw [hc])|wp_step))
theorem xc_entry {tk:Tok} {Q:Fin->Shared->Prop} (X:K.In h) (k:ExK K C) (hx:h.get? a=some o) (hc:o.cls=.ref C) (hq:Q (.done (.ret (.ref C))) ⟨h,g,d,t,os⟩) :
  wpAny (model prog w) A (Builtin.«object.__getattribute__» ⟨[.ref a,.str "__class__" tk],[]⟩) Q E ⟨h,g,d,t,os⟩:=by
 have l1:=PySem.W.looks_findIn (M:=model prog w) X k.cl
 have hT5:(⟨h,g,d,t,os⟩:Shared).TypeIs (.builtin "object.__class__") "getset_descriptor":=F.typeOf_object_class
 have f5:=F.typeOf_object_class
 have f6:=F.slot_gs_get.lookup
 have f7:=F.slot_gs_set.lookup
 repeat (any_goals (first|assumption|(with_reducible refine wpAny_loadPart_at hx ?_;rw [hc])|with_reducible refine PySem.W.Looks.at l1 ?_|wp_step))
 refine xc_get X k hx hc ?_
 repeat (any_goals (first|assumption|wp_step))
theorem xc_check {nameV:Value} {Q:Unit->Shared->Prop} (X:K.In h) (k:ExK K C) (hx:h.get? a=some o) (hc:o.cls=.ref C) (hq:Q () ⟨h,g,d,t,os⟩) :
  wpAny (model prog w) A (checkBuiltinCall "BaseException.__getattribute__" ⟨[.ref a,nameV],[]⟩) Q E ⟨h,g,d,t,os⟩:=by
 have l1:=PySem.W.looks_subIn (M:=model prog w) X k.be
 have kd:builtinKind "BaseException.__getattribute__"=some .slot:=by decide +kernel
 have sp:splitId "BaseException.__getattribute__"=some ("BaseException","__getattribute__"):=by decide +kernel
 have ar:=F.args_bexc_ga (.ref a) nameV
 simp only [checkBuiltinCall,kd,sp]
 refine wpAny_bind ?_
 unfold isInstance
 repeat (first|(with_reducible refine wpAny_loadPart_at hx ?_;rw [hc])|with_reducible refine PySem.W.Looks.at l1 ?_|wp_step)
 exact hq
theorem xc_call {tk:Tok} {R:Result->Shared->Prop} (X:K.In h) (k:ExK K C) (hx:h.get? a=some o) (hc:o.cls=.ref C) (hq:R (.ok (.ret (.ref C))) ⟨h,g,d,t,os⟩) :
  codeAny (model prog w) A (.call (.builtin "BaseException.__getattribute__") ⟨[.ref a,.str "__class__" tk],[]⟩) R ⟨h,g,d,t,os⟩ :=
 codeAny_call_builtin PySem.F.attr_ValueError.ga.plain F.entry_bexc_ga (xc_check X k hx hc (xc_entry X k hx hc hq))
theorem xc_by {tk:Tok} {Q:Value->Shared->Prop} (X:K.In h) (k:ExK K C) (hx:h.get? a=some o) (hc:o.cls=.ref C) (hq:Q (.ref C) ⟨h,g,d,t,os⟩) :
  wpAny (model prog w) A (getAttrBy (.ref a) (.str "__class__" tk) false) Q E ⟨h,g,d,t,os⟩:=by
 have l1:=PySem.W.looks_findIn (M:=model prog w) X k.ga
 have l2:=PySem.W.looks_findIn (M:=model prog w) X k.gg
 have f3:=PySem.F.attr_ValueError.ga.bind (.ref a)
 have hx2:(Value.builtin "BaseException.__getattribute__"==Value.builtin "object.__getattribute__")=false:=by decide +kernel
 have hx1:(onTheHeap (Value.ref C)&&Value.builtin "BaseException.__getattribute__"==Value.builtin "object.__getattribute__")=false:=by rw [hx2];rfl
 repeat (any_goals (first|assumption|(with_reducible refine wpAny_loadPart_at hx ?_;rw [hc])|with_reducible refine PySem.W.Looks.at l1 ?_|with_reducible refine PySem.W.Looks.at l2 ?_|wp_step))
 refine xc_call X k hx hc ?_
 repeat (any_goals (first|assumption|wp_step))
theorem xc_attr {Q:Option Value->Shared->Prop} (X:K.In h) (k:ExK K C) (hx:h.get? a=some o) (hc:o.cls=.ref C) (hq:Q (some (.ref C)) ⟨h,g,d,t+1,os⟩) :
  wpAny (model prog w) A (getAttr? (.ref a) "__class__") Q E ⟨h,g,d,t,os⟩:=by
 unfold getAttr? getAttrBy?
 repeat (any_goals (first|assumption|with_reducible apply xc_by X k hx hc|wp_step))
theorem kitx_exc {mg:Str->Option Value} {x:Str} (c:ExC K mg x C) (k:ExK K C):PySem.W.KitX K (.ref a) (.ref C) (fun h=>∃ o,h.get? a=some o/\o.cls=.ref C) where
 ty:=fun M h _ p=>by
  obtain ⟨o,h1,h2⟩:=p
  exact h2 ▸ (PySem.W.Looks.ld h1).andThen .now
 it:=fun M h X _=>(PySem.W.kit_cls X k.se).2.1
 ne:=fun h tp dd its n sl X htp=>Bool.eq_false_iff.mpr fun q=>by
  have e:C=tp:=Value.ref.inj (beq_iff_eq.mp q)
  subst e
  obtain ⟨_,_,_,_,_,_,_,_,_,_,_,_,_,_,_,_,_,hC,_⟩:=(c.own X).obj
  rw [htp] at hC
  injection hC with z
  injection z with z1
  exact absurd z1 (by decide)
 ca:=fun {_ _ _ _ _ s} X p q=>by
  obtain ⟨o,h1,h2⟩:=p
  obtain ⟨hh,gg,dd,tt,oo⟩:=s
  exact xc_attr X k h1 h2 q
end
section
variable {X:Cx} {K:W.Frag}
def rIsX (K:W.Frag) (ea C:Addr):List V->Hp->VK->Prop:=fun xs H Q=>∃ T b,xs=[.ref ea,T]/\((∃ D,T=.ref D/\PySem.W.kitOne K (.ref C) (.ref D)=some b)\/(∃ n,T=.ty n/\PySem.W.kitOne K (.ref C) (.type n)=some b))/\Q (.bl b) H
theorem call_isX {ea C:Addr} {oe:Obj} {x:Str} (hK:X.K=K) (hp:(ea,oe)∈X.pn) (hc:oe.cls=.ref C) (c:ExC K X.mg x C) (k:ExK K C):CallR X (.builtin "isinstance") (rIsX K ea C):=by
 subst hK
 intro pins s σ H xs us Q I r h
 obtain ⟨T,b,rfl,hT,q⟩:=h
 obtain ⟨u,v,rfl,r1,r2⟩:=vals2 r
 cases r1
 have he:=(I.pin (ea,oe) (mem_append_left _ hp)).1
 rcases hT with ⟨D,rfl,e⟩|⟨n,rfl,e⟩
 ·cases r2
  exact PySem.W.kia_one (kitx_exc c k) I.kIn ⟨oe,he,hc⟩ e (fun z=>nomatch z) fun tk=>⟨.bl b,H,I.tok _,rfl,q⟩
 ·cases r2
  exact PySem.W.kia_one (kitx_exc c k) I.kIn ⟨oe,he,hc⟩ e (fun z=>nomatch z) fun tk=>⟨.bl b,H,I.tok _,rfl,q⟩
end
section
variable {X:Cx} {pins:List (Addr × Obj)} {σ:St} {H:Hp} {s:Shared}
theorem Inv.lost {h':Heap} {m':Str->Option Value} {t':Nat} (I:Inv X pins σ H s) (hn:h'.Ns X.env.locals m') (sb:Heap.SameBut X.env.locals s.heap h'):Inv X pins (List.replicate X.N.length none) H { s with heap:=h',toks:=t' }:=by
 have neL:∀ b o,X.s₀.heap.get? b=some o->b≠X.env.locals:=fun b o e=>Nat.ne_of_lt (Nat.lt_of_lt_of_le (Heap.lt_size e) I.ok.above)
 refine ⟨I.ok,I.os,I.bare,⟨fun b o e n hb hx=>(sb.2 b (neL b o e)).trans (I.base.keep b o e n hb hx),fun b o e n hb hx=>?_,I.base.free,fun b o e hx=>?_,I.base.tups,I.base.frzs,I.base.tbls⟩,⟨m',hn,fun j y v e1 e2 e3=>?_⟩,fun y c e=>?_,I.free,I.freeC,fun p hp=>?_,fun b u e=>?_,List.length_replicate⟩
 ·obtain ⟨sl,e1⟩:=I.base.slot b o e n hb hx
  exact ⟨sl,(sb.2 b (neL b o e)).trans e1⟩
 ·obtain ⟨o',e1⟩:=I.base.there b o e hx
  exact ⟨o',(sb.2 b (neL b o e)).trans e1⟩
 ·rw [List.getElem?_replicate] at e2
  split at e2<;>cases e2
 ·obtain ⟨w',z⟩:=I.cell y c e
  exact ⟨w',z.sameBut sb (I.cne y c e)⟩
 ·obtain ⟨e,n,ne,nf,d⟩:=I.pin p hp
  exact ⟨(sb.2 p.1 ne).trans e,n,ne,nf,d⟩
 ·refine (I.hok b u e).stay (fun c v hc q=>(sb.2 c ?_).trans q) (fun _ q=>q) fun _ _ q=>q
  intro z
  rcases hc with hc|hc
  ·rw [<-hc,z,I.free] at e;cases e
  ·rw [z,I.free] at hc;cases hc
end
abbrev onlyRet (D:Ends):Ends:={ nx:=fun _ _=>False,rt:=D.rt,bk:=fun _ _=>False,ct:=fun _ _=>False }
section
variable {X:Cx} {pins:List (Addr × Obj)} {σ:St} {H:Hp} {s:Shared} {ea C R:Addr} {B:Heap} {a0:Value} {x n:Str} {i:Nat} {np pos:Pos} {b0:Stmt} {suite:List Stmt} {rest:List ExceptHandler} {ts:TS} {D:Ends}
theorem caughtN (I:Inv X pins σ H s) (F:Flat X) (hN:X.N.Nodup) (hi:X.N[i]?=some n) (hln:X.env.kindOf n=some .local) (hln2:X.env.scope.names.lookup n=some .local) (hb:X.base.StaysIn B) (fl:FlyX B X.stack ea (.ref C) a0 s.heap) (pr:Priv X pins B H s.heap) (hg:Gl X x) (hm:X.mg x=some (.ref R)) (k:Fits X.K C R)
  (hs:∀ oe,XOf oe C->PSs (X.within ea oe) (b0::suite) ts) (h:H ea=none->ts (onlyRet D) (σ.set i (some (.ref ea))) H) (hdb:(x==("__debug__":Str))=false) :
  wpAny (model X.prog X.w) X.A (noteFrame (.ref ea) X.env) (fun _ s2=>wpAny (model X.prog X.w) X.A (setFlight (.ref ea) none) (fun _ s3=>wpAny (model X.prog X.w) X.A (handleBy (.ref ea) X.env (.ExceptHandler (some (.Name x np)) (some n) (b0::suite) pos::rest)) (SP X pins D) X.xe s3) X.xe s2) X.xe s:=by
 have hfr:X.A.frames=some (X.env::X.outer):=by rw [I.ok.frames,F.st]
 have fl0:=fl
 rw [F.st] at fl
 refine looks_onX hfr F.fr fl fun h4 held up4=>landsX held fun h5 fl5 up5=>?_
 rw [<-F.st] at fl5
 have I5:=I.fly F hb fl0.1 fl5 (up4.trans up5) pr
 have pr5:Priv X pins B H h5:=Priv.fly I F pr
 obtain ⟨oe,ws,e1,e2,e3,e4,e5,e6,_⟩:=fly_own F fl5 pr5
 have IY:=I5.within e1 e3 e4 e5 e6
 refine wpAny_handleBy_cons (codeAny_handlers_test ?_) (by intro q;cases q)
 refine ld_glob (X:=X.within ea oe) IY hg hm (exc_matches (K:=X.K) IY.kIn e1 e2 k ?_) hdb
 refine codeAny_handlers_suite_as (lands_againX fl5 fun h6 fl6 up6=>?_)
 have I6:=I5.fly F hb fl5.1 fl6 up6 pr5
 have pr6:Priv X pins B H h6:=Priv.fly I5 F pr5
 obtain ⟨of,wf,f1,f2,f3,f4,f5,f6,f7⟩:=fly_own F fl6 pr6
 have IZ:=I6.within f1 f3 f4 f5 f6
 refine store_ok (X:=X.within ea of) (v:=.ref ea) IZ hN hi (.inl hln2) rfl (fun s2 I2=>?_) (.inr hln2)
 refine wpAny_mono (hs of ⟨f2,f7⟩ pins s2 _ H (onlyRet D) I2 (h f4)) (fun f s' q=>?_) (fun _ _ z=>z.elim)
 cases f with
 | next=>obtain ⟨_,_,_,z⟩:=q;exact z.elim
 | brk=>obtain ⟨_,_,_,z⟩:=q;exact z.elim
 | cont=>obtain ⟨_,_,_,z⟩:=q;exact z.elim
 | ret u =>
  obtain ⟨v,σ',H',I',r,q⟩:=q
  have I'':=I'.without I.ok
  obtain ⟨m,hn,_⟩:=I''.loc
  have hcls:(X.env.scope.kind==.class||(X.env.scope.kind==.module&&X.env.locals != X.env.globals))=false:=by rw [I.ok.kind];rfl
  exact wpAny_nameGoes hln hn hcls fun h' m' hn' sb=>⟨v,_,H',I''.lost hn' sb,r,q⟩
end
section
variable {X:Cx}
def tTryN (R:Addr) (i:Nat) (tb:TSX) (ts:Addr->Addr->TS) (K:W.Frag) (mg:Str->Option Value):TS:=fun D σ H =>
 tb D (fun σ' cls _ H'=>∃ C x,cls=.ref C/\Fits K C R/\ExC K mg x C/\ExK K C/\∀ ea,H' ea=none->ts ea C (onlyRet D) (σ'.set i (some (.ref ea))) H') σ H
theorem ps_tryN {x n:Str} {R:Addr} {i:Nat} {b0:Stmt} {body suite:List Stmt} {tb:TSX} {ts:Addr->Addr->TS} {np hpos pos:Pos} (F:Flat X) (hN:X.N.Nodup) (hg:Gl X x) (hm:X.mg x=some (.ref R)) (hb:PSXs X body tb)
  (hs:∀ ea oe C y,XOf oe C->ExC X.K X.mg y C->ExK X.K C->PSs (X.within ea oe) (b0::suite) (ts ea C)) (hi:X.N[i]?=some n) (hln:X.env.kindOf n=some .local) (hln2:X.env.scope.names.lookup n=some .local) (hdb:(x==("__debug__":Str))=false) :
  PS X (.Try body [.ExceptHandler (some (.Name x np)) (some n) (b0::suite) hpos] [] [] pos) (tTryN R i tb ts X.K X.mg):=by
 intro pins s σ H D I h
 refine wpAny_Try_except (wpAny_mono (hb.h pins s σ H D _ I h) (fun f s1 q=>?_) (fun e s1 q=>?_))
 ·cases f with
  | next =>
   obtain ⟨σ',H',I',q⟩:=q
   exact wpAny_execs_nil ⟨σ',H',I',q⟩
  | ret v=>exact q
  | brk=>exact q
  | cont=>exact q
 ·obtain ⟨σ',ea,cls,H',B,a0,rfl,I',hb',fl,pr,C,y,rfl,k,c,kk,q⟩:=q
  exact caughtN I' F hN hi hln hln2 hb' fl pr hg hm k (fun oe ho=>hs ea oe C y ho c kk) (q ea) hdb
theorem qps_tryN (i:Nat) {x n:Str} {R:Addr} {b0:Stmt} {body suite:List Stmt} {tb:TSX} {ts:Addr->Addr->TS} {np hpos pos:Pos} (K:W.Frag) (hK:X.K=K) (mg:Str->Option Value) (hmg:X.mg=mg) (F:Flat X) (hN:X.N.Nodup) (hg:Gl X x) (hm:mg x=some (.ref R)) (hb:PSXs X body tb)
  (hs:∀ ea oe C y,XOf oe C->ExC K mg y C->ExK K C->QSs (X.within ea oe) (b0::suite) (ts ea C)) (hi:X.N[i]?=some n:=by rfl) (hln:X.env.kindOf n=some .local:=by rfl) (hln2:X.env.scope.names.lookup n=some .local:=by rfl) (hdb:(x==("__debug__":Str))=false:=by decide) :
  QS X (.Try body [.ExceptHandler (some (.Name x np)) (some n) (b0::suite) hpos] [] [] pos) (tTryN R i tb ts K mg):=⟨by
 subst hK hmg
 exact ps_tryN F hN hg hm hb (fun ea oe C y h1 h2 h3=>(hs ea oe C y h1 h2 h3).h) hi hln hln2 hdb⟩
theorem qpe_cls {x:Str} {C:Addr} {pos:Pos} (hg:Gl X x) (hm:X.mg x=some (.ref C)) (hd:(x==("__debug__":Str))=false:=by decide):QE X (.Name x pos) (tC (.ref C)):=⟨pe_glob hg hm rfl hd⟩
end
def CDivB (i j:Int):Prop:=0 < j/\∃ m:Nat,m < 9000/\j < 2 ^ m
theorem op_fdivB {X:Cx}:OpR X (binaryOp .FloorDiv) (rI CDivB fun i j=>.int (i / j)):=opI fun i j _ _ _ _ _ hc q=>by
 obtain ⟨h1,m,hm,h2⟩:=hc
 have e:((2 ^ m:Nat):Int)=2 ^ m:=by simp
 refine floordiv_int (by omega) (by rw [Int.fdiv_eq_ediv_of_nonneg i (by omega)];exact q) (.inl (PyProof.noPylong_of_log2 ?_))
 have:j.natAbs.log2 < m:=(Nat.log2_lt (by omega)).mpr (by omega)
 omega
section
variable {X:Cx} {pins:List (Addr × Obj)} {σ:St} {H:Hp} {s:Shared} {d:Addr} {kvs:List (Key × V)}
theorem Inv.freeze (I:Inv X pins σ H s) (hd:H d=some (.dK kvs)):∃ o,s.heap.get? d=some o/\Inv X pins σ (upd H d (.frz o (.dK kvs))) s:=by
 have ok:=I.hok d _ hd
 obtain ⟨o,ho⟩:∃ o,s.heap.get? d=some o:=by
  obtain ⟨_,_,vs,_,o,_,_,e,_⟩:=ok
  exact ⟨o,e⟩
 refine ⟨o,ho,?_⟩
 have:=I.write (x:=d) (e:=d) (h':=s.heap) (t':=s.toks) (o:=.frz o (.dK kvs)) (by rw [hd];trivial) (.inl rfl) (fun _ _ _ q=>q) ⟨o,ho⟩ ⟨ho,ok⟩
 exact this
end
def Itk (d:Addr) (o:Obj) (kvs:List (Key × V)):It :=
 ⟨fun i H=>H d=some (.frz o (.dK kvs))/\i < kvs.length,fun i H x H'=>(∃ k v,kvs[i]?=some (k,v)/\x=kV k)/\H'=H,fun i H=>H d=some (.frz o (.dK kvs))/\kvs.length<=i⟩
theorem dict_at {P:Program} {w:World} {H:Hp} {h:Heap} {d:Addr} {o:Obj} {kvs:List (Key × V)} {es:Array DictEntry} {ep:Nat} (hod:o.data=.dict es ep) (ok:ObjOk P w H h d (.frz o (.dK kvs))) :
  (d==sysModules)=false/\∃ vs,KV kvs vs/\h.DictAt (mixKind P w) d vs ep:=by
 obtain ⟨ho,_,hs,vs,kv,o2,es2,ep2,e1,e2,e3,r⟩:=ok
 rw [ho] at e1;cases e1
 rw [hod] at e3;cases e3
 exact ⟨hs,vs,kv,o,es,ho,e2,hod,r⟩
theorem kv_get {kvs:List (Key × V)} {vs:List (Key × Value)} (r:KV kvs vs):∀ {i:Nat} {p:Key × V},kvs[i]?=some p->∃ q,vs[i]?=some q/\p.1=q.1:=by
 unfold KV at r
 induction r with
 | nil=>intro i p e;simp at e
 | cons h t ih =>
  intro i p e
  cases i with
  | zero=>simp at e;subst e;exact ⟨_,rfl,h.1⟩
  | succ i=>exact ih (by simpa using e)
theorem turn_dict {P:Program} {w:World} {K:W.Frag} {tg:Expr} (d it:Addr) (o:Obj) (kvs:List (Key × V)) {es:Array DictEntry} {ep:Nat} (hod:o.data=.dict es ep):Turn P w K tg (Itk d o kvs) [it] it (fun i h=>h.IsKeyIter it d i kvs.length ep) where
 mem:=by simp
 obj:=fun i h st b hb=>by
  have e:b=it:=by simpa using hb
  subst e
  obtain ⟨o,e,c,dd⟩:=st
  exact ⟨o,e,fun v z=>by rw [dd] at z;cases z⟩
 keep:=fun i h h' st k=>st.at fun o e=>k it (by simp) o e
 item:=by
  intro X hP hw hK hc i pins s σ H E I hf st hg
  subst hP hw hK
  obtain ⟨hd,hi⟩:=hg
  obtain ⟨_,vs,kv,da⟩:=dict_at hod (I.hok d _ hd)
  have hlen:kvs.length=vs.length:=Paired.length kv
  rw [hlen] at st
  obtain ⟨f0,f1,f2,f3,f4,f5⟩:=hf it (by simp)
  have hvi:vs[i]?=some (vs[i]'(by omega)):=List.getElem?_eq_getElem _
  have hki:kvs[i]?=some kvs[i]:=List.getElem?_eq_getElem _
  have hkk:kvs[i].1=(vs[i]'(by omega)).1:=by
   obtain ⟨q,e1,e2⟩:=kv_get kv hki
   rw [hvi] at e1;cases e1
   exact e2
  refine wpAny_pyNext_dict_item st da (k:=(vs[i]'(by omega)).1) (v:=(vs[i]'(by omega)).2) hvi fun key h' hkey st' sb=>?_
  have I1:Inv X pins σ H { s with heap:=h' }:=I.turned (t':=s.toks) (fun b o hb e=>(sb.2 b hb).trans e) f0 f1 f3 f4 f5
  obtain ⟨oi,e,c,dd⟩:=id st'
  refine ⟨key,rfl,go_of (s:={ s with heap:=h' }) e c dd (by decide) ⟨kV kvs[i].1,H,I1,?_,⟨⟨_,_,hki,rfl⟩,rfl⟩,by rw [hlen];exact st',fun b hb=>(hf b hb).1⟩⟩
  rw [hkk]
  rcases keyIs_shape hkey with ⟨j,t,ek,ev⟩|⟨y,t,ek,ev⟩
  ·rw [ek,ev];exact ⟨t,rfl⟩
  ·rw [ek,ev];exact ⟨t,rfl⟩
 done:=by
  intro X hP hw hK hc i pins s σ H E I hf st hg
  subst hP hw hK
  obtain ⟨hd,hi⟩:=hg
  obtain ⟨_,vs,kv,da⟩:=dict_at hod (I.hok d _ hd)
  have hlen:kvs.length=vs.length:=Paired.length kv
  rw [hlen] at st
  obtain ⟨f0,f1,f2,f3,f4,f5⟩:=hf it (by simp)
  exact wpAny_pyNext_dict_end (I.ok.hd hc) st da (List.getElem?_eq_none (by omega)) fun h' eb=>⟨rfl,I.turned (t':=s.toks) (fun b o hb e=>eb b o hb e) f0 f1 f3 f4 f5⟩
 self:=fun _ _ _ _ _ st h=>wpAny_pyIter_keyiter st h
def up (p i:Nat):Nat:=if i < p then i else i+1
def dn (p i:Nat):Nat:=if i < p then i else i - 1
def rMinL (K:W.Frag):List V->Hp->VK->Prop:=fun xs H Q=>∃ (a:Addr) (ns:List Int),xs=[.ref a]/\SqL K H a (ns.map V.int)/\ns≠[]/\∀ M,M∈ns->(∀ x∈ns,M<=x)->Q (.int M) H
def rMaxL (K:W.Frag):List V->Hp->VK->Prop:=fun xs H Q=>∃ (a:Addr) (ns:List Int),xs=[.ref a]/\SqL K H a (ns.map V.int)/\ns≠[]/\∀ M,M∈ns->(∀ x∈ns,x<=M)->Q (.int M) H
section
variable {X:Cx}
theorem call_minLK (K:W.Frag) (hK:X.K=K) (hc:X.calm=true):CallR X (.builtin "min") (rMinL K):=by
 subst hK
 intro pins s σ H xs us Q I r h
 obtain ⟨a,ns,rfl,hq,hne,q⟩:=h
 obtain ⟨u,rfl,r1⟩:=vals1 r
 cases r1
 obtain ⟨its,rv,p,hz⟩:=I.list hq
 have hi:=intsAre_of rv
 obtain ⟨zs,ez⟩:=hi.allInts.items
 have hl:=p.isList
 rw [ez] at hl
 have e3:ns=zs.toList.map (fun x=>x.1):=by
  have e2:=hi.numsOf
  have e3:=nums_intItems (xs:=zs)
  rw [<-ez] at e3
  exact e2.symm.trans e3
 have hsz:0 < zs.size:=by
  have:0 < ns.length:=List.length_pos_iff.mpr hne
  rw [e3,length_map,Array.length_toList] at this;exact this
 refine min_intList (I.ok.hd hc) hl hsz fun v h' tk hv hk=>?_
 obtain ⟨t,rfl⟩:=intItems_at hv
 obtain ⟨h1,h2⟩:=argBest_lt (numAt zs) (zs.size - 1)
 refine ⟨.int _,H,I.kept hk,⟨_,rfl⟩,q _ ?_ fun x hx=>?_⟩
 ·rw [e3,numAt_eq];exact getD_mem (by rw [length_map,Array.length_toList];omega)
 ·rw [e3] at hx
  obtain ⟨j,hj,rfl⟩:=mem_getD hx
  rw [length_map,Array.length_toList] at hj
  rw [<-numAt_eq];exact h2 j (by omega)
theorem call_maxLK (K:W.Frag) (hK:X.K=K) (hc:X.calm=true):CallR X (.builtin "max") (rMaxL K):=by
 subst hK
 intro pins s σ H xs us Q I r h
 obtain ⟨a,ns,rfl,hq,hne,q⟩:=h
 obtain ⟨u,rfl,r1⟩:=vals1 r
 cases r1
 obtain ⟨its,rv,p,hz⟩:=I.list hq
 have hi:=intsAre_of rv
 obtain ⟨zs,ez⟩:=hi.allInts.items
 have hl:=p.isList
 rw [ez] at hl
 have e3:ns=zs.toList.map (fun x=>x.1):=by
  have e2:=hi.numsOf
  have e3:=nums_intItems (xs:=zs)
  rw [<-ez] at e3
  exact e2.symm.trans e3
 have hsz:0 < zs.size:=by
  have:0 < ns.length:=List.length_pos_iff.mpr hne
  rw [e3,length_map,Array.length_toList] at this;exact this
 refine max_intList (I.ok.hd hc) hl hsz fun v h' tk hv hk=>?_
 obtain ⟨t,rfl⟩:=intItems_at hv
 obtain ⟨h1,h2⟩:=argBest_gt (numAt zs) (zs.size - 1)
 refine ⟨.int _,H,I.kept hk,⟨_,rfl⟩,q _ ?_ fun x hx=>?_⟩
 ·rw [e3,numAt_eq];exact getD_mem (by rw [length_map,Array.length_toList];omega)
 ·rw [e3] at hx
  obtain ⟨j,hj,rfl⟩:=mem_getD hx
  rw [length_map,Array.length_toList] at hj
  rw [<-numAt_eq];exact h2 j (by omega)
end
end L2
namespace DL
open PySem PySem.Spec PyProof.Rows L2
abbrev D:=PyData
def muO:HO->Bool
 | .lst _=>true
 | .dK _=>true
 | .dT _=>true
 | _=>false
abbrev MuS:={o:HO // muO o=true}
def Mu (H:Hp) (a:Addr):Prop:=∃ o:MuS,H a=some o.1
theorem Mu.lst {H:Hp} {a:Addr} {us:List V} (h:H a=some (.lst us)):Mu H a:=⟨⟨.lst us,rfl⟩,h⟩
theorem Mu.of {H:Hp} {a:Addr} {o:HO} (h:H a=some o) (m:muO o=true):Mu H a:=⟨⟨o,m⟩,h⟩
theorem Mu.no {H:Hp} {a:Addr} {o:HO} (h:Mu H a) (e:H a=some o) (n:muO o=false):False:=by
 obtain ⟨u,q⟩:=h
 rw [e] at q
 have q:=Option.some.inj q
 have m:=u.2
 rw [<-q,n] at m
 cases m
def keyV:Key->D
 | .inl i=>.int i
 | .inr x=>.str x
def valD:D->Option V
 | .none=>some .non
 | .bool b=>some (.bl b)
 | .int i=>some (.int i)
 | .str x=>some (.str x)
 | _=>Option.none
def DKps:List (Key × V)->List (D × D)->Prop
 | [],[]=>True
 | (k,v)::r,(d,e)::t=>d=keyV k/\valD e=some v/\DKps r t
 | _,_=>False
def DTps:List (List Key × V)->List (D × D)->Prop
 | [],[]=>True
 | (k,v)::r,(d,e)::t=>d=.tuple (k.map keyV)/\valD e=some v/\DTps r t
 | _,_=>False
def DctO:HO->Bool->List (D × D)->Prop
 | .dK kvs,false,kds=>DKps kvs kds
 | .dT kvs,true,kds=>DTps kvs kds
 | _,_,_=>False
def dctD (b:Bool) (kds:List (D × D)):D:=.dict ((.bool false,.bool b)::kds)
theorem DctO.mu {o:HO} {b:Bool} {kds:List (D × D)} (h:DctO o b kds):muO o=true:=by cases o<;>first|rfl|(cases b<;>exact h.elim)
mutual
inductive Dn (K:W.Frag) (H:Hp):V->D->Prop
 | non:Dn K H .non .none
 | bl (b):Dn K H (.bl b) (.bool b)
 | int (i):Dn K H (.int i) (.int i)
 | str (x):Dn K H (.str x) (.str x)
 | lst {a us ds}:H a=some (.lst us)->Dns K H us ds->Dn K H (.ref a) (.list ds)
 | tup {a us ds}:SqT K H a us->Dns K H us ds->Dn K H (.ref a) (.tuple ds)
 | scr {a} (ns:List Int):SqL K H a (ns.map V.int)->Dn K H (.ref a) (.dict [(.none,.list (ns.map .int))])
 | opq (a:Addr):Dn K H (.ref a) (.dict [(.bool true,.int (a:Nat))])
 | dct {a o b kds}:H a=some o->DctO o b kds->Dn K H (.ref a) (.dict ((.bool false,.bool b)::kds))
 | dcf {a kvs kds}:Rd H a (.dK kvs)->DKps kvs kds->Dn K H (.ref a) (.dict ((.int 0,.none)::kds))
inductive Dns (K:W.Frag) (H:Hp):List V->List D->Prop
 | nil:Dns K H [] []
 | cons {v vs d ds}:Dn K H v d->Dns K H vs ds->Dns K H (v::vs) (d::ds)
end
theorem Dn.both {K:W.Frag} {H:Hp} {P:V->D->Prop} {Q:List V->List D->Prop} (c1:P .non .none) (c2:∀ b,P (.bl b) (.bool b)) (c3:∀ i,P (.int i) (.int i)) (c4:∀ x,P (.str x) (.str x))
  (c5:∀ {a us ds},H a=some (.lst us)->Q us ds->P (.ref a) (.list ds)) (c6:∀ {a us ds},SqT K H a us->Q us ds->P (.ref a) (.tuple ds)) (c7:∀ {a} (ns:List Int),SqL K H a (ns.map V.int)->P (.ref a) (.dict [(.none,.list (ns.map .int))]))
  (c8:∀ a:Addr,P (.ref a) (.dict [(.bool true,.int (a:Nat))])) (c9:∀ {a o b kds},H a=some o->DctO o b kds->P (.ref a) (.dict ((.bool false,.bool b)::kds))) (c10:∀ {a kvs kds},Rd H a (.dK kvs)->DKps kvs kds->P (.ref a) (.dict ((.int 0,.none)::kds))) (n0:Q [] []) (n1:∀ {v vs d ds},P v d->Q vs ds->Q (v::vs) (d::ds)) :
  (∀ {v d},Dn K H v d->P v d)/\∀ {vs ds},Dns K H vs ds->Q vs ds :=
 ⟨fun h=>Dn.rec (motive_1:=fun v d _=>P v d) (motive_2:=fun vs ds _=>Q vs ds) c1 c2 c3 c4 (fun h _ r=>c5 h r) (fun h _ r=>c6 h r) (fun ns h=>c7 ns h) c8 (fun h r=>c9 h r) (fun h r=>c10 h r) n0 (fun _ _ p q=>n1 p q) h,
  fun h=>Dns.rec (motive_1:=fun v d _=>P v d) (motive_2:=fun vs ds _=>Q vs ds) c1 c2 c3 c4 (fun h _ r=>c5 h r) (fun h _ r=>c6 h r) (fun ns h=>c7 ns h) c8 (fun h r=>c9 h r) (fun h r=>c10 h r) n0 (fun _ _ p q=>n1 p q) h⟩
theorem Dn.same2 {K:W.Frag} {H H':Hp} (e:Same H H'):(∀ {v d},Dn K H v d->Dn K H' v d)/\∀ {vs ds},Dns K H vs ds->Dns K H' vs ds :=
 Dn.both .non .bl .int .str (fun h r=>.lst (e _ _ h) r) (fun h r=>.tup (e.tup h) r) (fun ns h=>.scr ns (e.seq h)) .opq (fun h r=>.dct (e _ _ h) r) (fun h r=>.dcf (h.elim (fun h=>.inl (e _ _ h)) fun ⟨o,h⟩=>.inr ⟨o,e _ _ h⟩) r) .nil fun p q=>.cons p q
theorem Dn.same {K:W.Frag} {H H':Hp} (e:Same H H') {v:V} {d:D} (h:Dn K H v d):Dn K H' v d:=(Dn.same2 e).1 h
theorem Dns.same {K:W.Frag} {H H':Hp} (e:Same H H') {vs:List V} {ds:List D} (h:Dns K H vs ds):Dns K H' vs ds:=(Dn.same2 e).2 h
theorem Dn.deep2 {K:W.Frag} {H:Hp}:(∀ {v d},Dn K H v d->d.canLay0=true->Den K H v d)/\∀ {vs ds},Dns K H vs ds->PyData.canLayAll0 ds=true->Dens K H vs ds :=
 Dn.both (fun _=>.non) (fun b _=>.bl b) (fun b _=>.int b) (fun b _=>.str b) (fun h r q=>.lst (SqL.of h) (r (by simpa [PyData.canLay0] using q))) (fun h r q=>.tup h (r (by simpa [PyData.canLay0] using q)))
  (fun ns h q=>by simp [PyData.canLay0] at q) (fun a q=>by simp [PyData.canLay0] at q) (fun h r q=>by simp [PyData.canLay0] at q) (fun h r q=>by simp [PyData.canLay0] at q) (fun _=>.nil) fun p r q=>by
  simp only [PyData.canLayAll0,Bool.and_eq_true] at q
  exact .cons (p q.1) (r q.2)
theorem Dn.deep {K:W.Frag} {H:Hp} {v:V} {d:D} (h:Dn K H v d) (q:d.canLay0=true):Den K H v d:=Dn.deep2.1 h q
theorem Dns.length {K:W.Frag} {H:Hp}:∀ {vs ds},Dns K H vs ds->vs.length=ds.length
 | _,_,.nil=>rfl
 | _,_,.cons _ r=>by rw [length_cons,length_cons,Dns.length r]
theorem Dns.get {K:W.Frag} {H:Hp}:∀ {vs ds} {i:Nat} {d:D},Dns K H vs ds->ds[i]?=some d->∃ v,vs[i]?=some v/\Dn K H v d
 | _,_,0,_,.cons h r,e=>by simp at e;subst e;exact ⟨_,rfl,h⟩
 | _,_,i+1,d,.cons h r,e=>by simp at e ⊢;exact Dns.get r e
theorem Dns.append {K:W.Frag} {H:Hp}:∀ {vs ds us es},Dns K H vs ds->Dns K H us es->Dns K H (vs++us) (ds++es)
 | _,_,_,_,.nil,q=>q
 | _,_,_,_,.cons h r,q=>.cons h (Dns.append r q)
mutual
inductive Ow (K:W.Frag) (H:Hp):V->D->List Addr->Prop
 | non:Ow K H .non .none []
 | bl (b):Ow K H (.bl b) (.bool b) []
 | int (i):Ow K H (.int i) (.int i) []
 | str (x):Ow K H (.str x) (.str x) []
 | lst {a us ds ns}:H a=some (.lst us)->Ows K H us ds ns->Ow K H (.ref a) (.list ds) (a::ns)
 | tup {a us ds ns}:SqT K H a us->Ows K H us ds ns->Ow K H (.ref a) (.tuple ds) ns
 | dct {a o b kds}:H a=some o->DctO o b kds->Ow K H (.ref a) (.dict ((.bool false,.bool b)::kds)) [a]
inductive Ows (K:W.Frag) (H:Hp):List V->List D->List Addr->Prop
 | nil:Ows K H [] [] []
 | cons {v vs d ds ns ms}:Ow K H v d ns->Ows K H vs ds ms->Ows K H (v::vs) (d::ds) (ns++ms)
end
theorem Ow.both {K:W.Frag} {H:Hp} {P:V->D->List Addr->Prop} {Q:List V->List D->List Addr->Prop} (c1:P .non .none []) (c2:∀ b,P (.bl b) (.bool b) []) (c3:∀ i,P (.int i) (.int i) []) (c4:∀ x,P (.str x) (.str x) [])
  (c5:∀ {a us ds ns},H a=some (.lst us)->Q us ds ns->P (.ref a) (.list ds) (a::ns)) (c6:∀ {a us ds ns},SqT K H a us->Q us ds ns->P (.ref a) (.tuple ds) ns)
  (c9:∀ {a o b kds},H a=some o->DctO o b kds->P (.ref a) (.dict ((.bool false,.bool b)::kds)) [a]) (n0:Q [] [] []) (n1:∀ {v vs d ds ns ms},P v d ns->Q vs ds ms->Q (v::vs) (d::ds) (ns++ms)) :
  (∀ {v d ns},Ow K H v d ns->P v d ns)/\∀ {vs ds ns},Ows K H vs ds ns->Q vs ds ns :=
 ⟨fun h=>Ow.rec (motive_1:=fun v d ns _=>P v d ns) (motive_2:=fun vs ds ns _=>Q vs ds ns) c1 c2 c3 c4 (fun h _ r=>c5 h r) (fun h _ r=>c6 h r) (fun h r=>c9 h r) n0 (fun _ _ p q=>n1 p q) h,
  fun h=>Ows.rec (motive_1:=fun v d ns _=>P v d ns) (motive_2:=fun vs ds ns _=>Q vs ds ns) c1 c2 c3 c4 (fun h _ r=>c5 h r) (fun h _ r=>c6 h r) (fun h r=>c9 h r) n0 (fun _ _ p q=>n1 p q) h⟩
theorem Ow.den2 {K:W.Frag} {H:Hp}:(∀ {v d ns},Ow K H v d ns->Dn K H v d)/\∀ {v d ns},Ows K H v d ns->Dns K H v d :=
 Ow.both .non .bl .int .str (fun h r=>.lst h r) (fun h r=>.tup h r) (fun h r=>.dct h r) .nil fun p q=>.cons p q
theorem Ow.den {K:W.Frag} {H:Hp} {v:V} {d:D} {ns:List Addr} (h:Ow K H v d ns):Dn K H v d:=Ow.den2.1 h
theorem Ows.den {K:W.Frag} {H:Hp} {v:List V} {d:List D} {ns:List Addr} (h:Ows K H v d ns):Dns K H v d:=Ow.den2.2 h
theorem Ow.there2 {K:W.Frag} {H:Hp}:(∀ {v d ns},Ow K H v d ns->∀ a∈ns,Mu H a)/\∀ {v d ns},Ows K H v d ns->∀ a∈ns,Mu H a :=
 Ow.both (P:=fun _ _ ns=>∀ a∈ns,Mu H a) (Q:=fun _ _ ns=>∀ a∈ns,Mu H a) (fun _ z=>nomatch z) (fun _ _ z=>nomatch z) (fun _ _ z=>nomatch z) (fun _ _ z=>nomatch z) (fun h r a ha=>(mem_cons.mp ha).elim (fun e=>e ▸ .lst h) (r a)) (fun _ r=>r)
  (fun h r a ha=>mem_singleton.mp ha ▸ .of h r.mu) (fun _ z=>nomatch z) fun p q a ha=>(mem_append.mp ha).elim (p a) (q a)
theorem Ow.there {K:W.Frag} {H:Hp} {v:V} {d:D} {ns:List Addr} (h:Ow K H v d ns):∀ a∈ns,Mu H a:=Ow.there2.1 h
theorem Ows.there {K:W.Frag} {H:Hp} {v:List V} {d:List D} {ns:List Addr} (h:Ows K H v d ns):∀ a∈ns,Mu H a:=Ow.there2.2 h
def Kept (ns:List Addr) (H H':Hp):Prop:=(∀ a∈ns,H' a=H a)/\∀ a o,H a=some o->muO o=false->H' a=some o
theorem Kept.sqt {K:W.Frag} {ns:List Addr} {H H':Hp} (k:Kept ns H H') {a:Addr} {us:List V} (h:SqT K H a us):SqT K H' a us:=by
 rcases h with (h|⟨o,h⟩)|h
 ·exact .inl (.inl (k.2 _ _ h rfl))
 ·exact .inl (.inr ⟨o,k.2 _ _ h rfl⟩)
 ·exact .inr h
theorem Ow.kept2 {K:W.Frag} {H H':Hp}:(∀ {v d ns},Ow K H v d ns->Kept ns H H'->Ow K H' v d ns)/\∀ {v d ns},Ows K H v d ns->Kept ns H H'->Ows K H' v d ns :=
 Ow.both (P:=fun v d ns=>Kept ns H H'->Ow K H' v d ns) (Q:=fun v d ns=>Kept ns H H'->Ows K H' v d ns) (fun _=>.non) (fun b _=>.bl b) (fun b _=>.int b) (fun b _=>.str b) (fun h r k=>.lst ((k.1 _ mem_cons_self).trans h) (r ⟨fun a ha=>k.1 a (mem_cons_of_mem _ ha),k.2⟩))
  (fun h r k=>.tup (k.sqt h) (r k)) (fun h r k=>.dct ((k.1 _ mem_cons_self).trans h) r) (fun _=>.nil) fun p q k=>.cons (p ⟨fun a ha=>k.1 a (mem_append_left _ ha),k.2⟩) (q ⟨fun a ha=>k.1 a (mem_append_right _ ha),k.2⟩)
theorem Ow.kept {K:W.Frag} {H H':Hp} {v:V} {d:D} {ns:List Addr} (h:Ow K H v d ns) (k:Kept ns H H'):Ow K H' v d ns:=Ow.kept2.1 h k
theorem Ows.kept {K:W.Frag} {H H':Hp} {v:List V} {d:List D} {ns:List Addr} (h:Ows K H v d ns) (k:Kept ns H H'):Ows K H' v d ns:=Ow.kept2.2 h k
theorem Ow.same2 {K:W.Frag} {H H':Hp} (e:Same H H'):(∀ {v d ns},Ow K H v d ns->Ow K H' v d ns)/\∀ {v d ns},Ows K H v d ns->Ows K H' v d ns :=
 Ow.both .non .bl .int .str (fun h r=>.lst (e _ _ h) r) (fun h r=>.tup (e.tup h) r) (fun h r=>.dct (e _ _ h) r) .nil fun p q=>.cons p q
theorem Ow.same {K:W.Frag} {H H':Hp} (e:Same H H') {v:V} {d:D} {ns:List Addr} (h:Ow K H v d ns):Ow K H' v d ns:=(Ow.same2 e).1 h
theorem Ows.same {K:W.Frag} {H H':Hp} (e:Same H H') {v:List V} {d:List D} {ns:List Addr} (h:Ows K H v d ns):Ows K H' v d ns:=(Ow.same2 e).2 h
mutual
def flat:D->Bool
 | .none=>true
 | .bool _=>true
 | .int _=>true
 | .str _=>true
 | .list _=>false
 | .tuple ds=>flats ds
 | .dict _=>false
def flats:List D->Bool
 | []=>true
 | d::ds=>flat d&&flats ds
end
theorem ow_flat2 {K:W.Frag} {H:Hp}:(∀ {v d},Dn K H v d->flat d=true->Ow K H v d [])/\∀ {v d},Dns K H v d->flats d=true->Ows K H v d [] :=
 Dn.both (fun _=>.non) (fun b _=>.bl b) (fun b _=>.int b) (fun b _=>.str b) (fun _ _ h=>nomatch h) (fun h r q=>.tup h (r q)) (fun _ _ h=>nomatch h) (fun _ h=>nomatch h) (fun _ _ h=>nomatch h) (fun _ _ h=>nomatch h) (fun _=>.nil) fun p r q=>by
  rw [flats,Bool.and_eq_true] at q
  exact .cons (ns:=[]) (ms:=[]) (p q.1) (r q.2)
theorem ow_flat {K:W.Frag} {H:Hp} {v:V} {d:D} (h:Dn K H v d) (q:flat d=true):Ow K H v d []:=ow_flat2.1 h q
theorem ows_flat {K:W.Frag} {H:Hp} {v:List V} {d:List D} (h:Dns K H v d) (q:flats d=true):Ows K H v d []:=ow_flat2.2 h q
theorem den_kept2 {K:W.Frag} {H H':Hp} (k:∀ a o,H a=some o->muO o=false->H' a=some o):(∀ {v d},Dn K H v d->flat d=true->Dn K H' v d)/\∀ {v d},Dns K H v d->flats d=true->Dns K H' v d :=
 Dn.both (fun _=>.non) (fun b _=>.bl b) (fun b _=>.int b) (fun b _=>.str b) (fun _ _ h=>nomatch h) (fun h r q=>.tup (Kept.sqt (ns:=[]) ⟨fun _ z=>(by cases z),k⟩ h) (r q)) (fun _ _ h=>nomatch h) (fun _ h=>nomatch h) (fun _ _ h=>nomatch h) (fun _ _ h=>nomatch h) (fun _=>.nil) fun p r q=>by
  rw [flats,Bool.and_eq_true] at q
  exact .cons (p q.1) (r q.2)
theorem den_kept {K:W.Frag} {H H':Hp} (k:∀ a o,H a=some o->muO o=false->H' a=some o) {v:V} {d:D} (h:Dn K H v d) (q:flat d=true):Dn K H' v d:=(den_kept2 k).1 h q
theorem dens_kept {K:W.Frag} {H H':Hp} (k:∀ a o,H a=some o->muO o=false->H' a=some o) {v:List V} {d:List D} (h:Dns K H v d) (q:flats d=true):Dns K H' v d:=(den_kept2 k).2 h q
open Classical in
noncomputable def hid (Z:Addr->Prop) (H:Hp):Hp:=fun a=>if Z a then none else H a
theorem hid_of {Z:Addr->Prop} {H:Hp} {a:Addr} {o:HO} (h:H a=some o) (z:¬ Z a):hid Z H a=some o:=by unfold hid;rw [if_neg z];exact h
theorem of_hid {Z:Addr->Prop} {H:Hp} {a:Addr} {o:HO} (h:hid Z H a=some o):H a=some o/\¬ Z a:=by
 unfold hid at h
 split at h
 ·cases h
 ·exact ⟨h,‹_›⟩
theorem hid_same {Z:Addr->Prop} {H:Hp}:Same (hid Z H) H:=fun _ _ h=>(of_hid h).1
theorem hid_mono {Z:Addr->Prop} {H H':Hp} (e:Same H H'):Same (hid Z H) (hid Z H'):=fun b o h=>hid_of (e b o (of_hid h).1) (of_hid h).2
theorem hid_less {Z Z':Addr->Prop} {H:Hp} (h:∀ a,Z' a->Z a):Same (hid Z H) (hid Z' H):=fun b o e=>hid_of (of_hid e).1 fun z=>(of_hid e).2 (h b z)
theorem den_hid {K:W.Frag} {Z:Addr->Prop} {H:Hp} {v:V} {d:D} (hl:∀ a,Z a->Mu H a) (h:Dn K H v d) (hf:flat d=true):Dn K (hid Z H) v d :=
 den_kept (fun a o e n=>hid_of e fun z=>(hl a z).no e n) h hf
theorem ow_hid2 {K:W.Frag} {Z:Addr->Prop} {H:Hp} (hl:∀ a,Z a->Mu H a):(∀ {v d ns},Ow K H v d ns->(∀ a∈ns,¬ Z a)->Dn K (hid Z H) v d)/\∀ {v d ns},Ows K H v d ns->(∀ a∈ns,¬ Z a)->Dns K (hid Z H) v d :=
 Ow.both (P:=fun v d ns=>(∀ a∈ns,¬ Z a)->Dn K (hid Z H) v d) (Q:=fun v d ns=>(∀ a∈ns,¬ Z a)->Dns K (hid Z H) v d) (fun _=>.non) (fun b _=>.bl b) (fun b _=>.int b) (fun b _=>.str b) (fun h r k=>.lst (hid_of h (k _ mem_cons_self)) (r fun a ha=>k a (mem_cons_of_mem _ ha)))
  (fun h r k=>.tup (Kept.sqt (ns:=[]) ⟨fun _ z=>(by cases z),fun a o e n=>hid_of e fun z=>(hl a z).no e n⟩ h) (r k)) (fun h r k=>.dct (hid_of h (k _ mem_cons_self)) r) (fun _=>.nil) fun p q k=>.cons (p fun a ha=>k a (mem_append_left _ ha)) (q fun a ha=>k a (mem_append_right _ ha))
theorem ow_hid {K:W.Frag} {Z:Addr->Prop} {H:Hp} (hl:∀ a,Z a->Mu H a) {v:V} {d:D} {ns:List Addr} (h:Ow K H v d ns) (k:∀ a∈ns,¬ Z a):Dn K (hid Z H) v d:=(ow_hid2 hl).1 h k
theorem ows_hid {K:W.Frag} {Z:Addr->Prop} {H:Hp} (hl:∀ a,Z a->Mu H a) {v:List V} {d:List D} {ns:List Addr} (h:Ows K H v d ns) (k:∀ a∈ns,¬ Z a):Dns K (hid Z H) v d:=(ow_hid2 hl).2 h k
abbrev Ren:=List (Option (Bool × D))
def Z0:Addr->Prop:=fun _=>False
def Hd (Z:Addr->Prop) (ν:Nat->List Addr):Addr->Prop:=fun a=>Z a\/∃ i,a∈ν i
structure StOk (K:W.Frag) (Z:Addr->Prop) (H0:Hp) (ν:Nat->List Addr) (ρ:Ren) (σ:L2.St) (H:Hp):Prop where
 sm:Same H0 H
 len:σ.length=ρ.length
 sl:∀ i b d,ρ[i]?=some (some (b,d))->∃ v,σ[i]?=some (some v)/\if b=true then Ow K H v d (ν i) else Dn K (hid (Hd Z ν) H) v d
 nd:∀ i,(ν i).Nodup
 dj:∀ i j a,a∈ν i->a∈ν j->i=j
 fr:∀ i a,a∈ν i->H0 a=none/\¬ Z a/\Mu H a
 zf:∀ a,Z a->H0 a=none/\Mu H a
section
variable {K:W.Frag} {Z:Addr->Prop} {H0 H H':Hp} {ν:Nat->List Addr} {ρ:Ren} {σ:L2.St} {v:V} {d:D}
theorem StOk.hl (S:StOk K Z H0 ν ρ σ H):∀ a,Hd Z ν a->Mu H a:=fun a h=>by
 rcases h with h|⟨i,h⟩
 ·exact (S.zf a h).2
 ·exact (S.fr i a h).2.2
theorem StOk.same (S:StOk K Z H0 ν ρ σ H) (e:Same H H'):StOk K Z H0 ν ρ σ H' where
 sm:=S.sm.trans e
 len:=S.len
 sl:=fun i b d h=>by
  obtain ⟨v,h1,h2⟩:=S.sl i b d h
  refine ⟨v,h1,?_⟩
  cases b with
  | true=>exact Ow.same e h2
  | false=>exact Dn.same (hid_mono e) h2
 nd:=S.nd
 dj:=S.dj
 fr:=fun i a h=>by obtain ⟨h1,h2,us,h3⟩:=S.fr i a h;exact ⟨h1,h2,us,e _ _ h3⟩
 zf:=fun a h=>by obtain ⟨h1,us,h3⟩:=S.zf a h;exact ⟨h1,us,e _ _ h3⟩
theorem StOk.get (S:StOk K Z H0 ν ρ σ H) {i:Nat} {b:Bool} (h:ρ[i]?=some (some (b,d))):∃ v,σ[i]?=some (some v)/\Dn K H v d:=by
 obtain ⟨v,h1,h2⟩:=S.sl i b d h
 refine ⟨v,h1,?_⟩
 cases b with
 | true=>exact h2.den
 | false=>exact Dn.same hid_same h2
theorem set_get {α:Type} {l:List α} {i j:Nat} {x y:α} (h:(l.set i x)[j]?=some y):(j=i/\y=x/\i < l.length)\/(j≠i/\l[j]?=some y):=by
 rw [List.getElem?_set] at h
 split at h
 ·split at h
  ·cases h;exact .inl ⟨by omega,rfl,by omega⟩
  ·cases h
 ·exact .inr ⟨by omega,h⟩
theorem StOk.setOld (S:StOk K Z H0 ν ρ σ H) (i:Nat) (h:Dn K (hid (Hd Z ν) H) v d):StOk K Z H0 ν (ρ.set i (some (false,d))) (σ.set i (some v)) H where
 sm:=S.sm
 len:=by rw [length_set,length_set];exact S.len
 sl:=fun j b e hj=>by
  rcases set_get hj with ⟨rfl,h1,h2⟩|⟨h1,h2⟩
  ·cases h1
   exact ⟨v,by rw [List.getElem?_set_self (by rw [S.len];exact h2)],h⟩
  ·obtain ⟨u,q1,q2⟩:=S.sl j b e h2
   exact ⟨u,by rw [List.getElem?_set_ne (Ne.symm h1)];exact q1,q2⟩
 nd:=S.nd
 dj:=S.dj
 fr:=S.fr
 zf:=S.zf
def dropS (ρ:Ren):List Nat->Ren
 | []=>ρ
 | i::r=>dropS (ρ.set i none) r
theorem dropS_len:∀ (s:List Nat) (ρ:Ren),(dropS ρ s).length=ρ.length
 | [],_=>rfl
 | i::r,ρ=>by unfold dropS;rw [dropS_len r,length_set]
theorem dropS_get:∀ (s:List Nat) {ρ:Ren} {i:Nat} {x:Bool × D},(dropS ρ s)[i]?=some (some x)->i∉s/\ρ[i]?=some (some x)
 | [],_,_,_,h=>⟨by simp,h⟩
 | j::r,ρ,i,x,h=>by
  obtain ⟨h1,h2⟩:=dropS_get r h
  rcases set_get h2 with ⟨rfl,q,_⟩|⟨q1,q2⟩
  ·cases q
  ·exact ⟨by simp [h1,q1],q2⟩
theorem StOk.setOwn (S:StOk K Z H0 ν ρ σ H) (s:List Nat) (i:Nat) {ms:List Addr} (e:Same H H') (h:Ow K H' v d ms) (nd:ms.Nodup) (fr:∀ a∈ms,H a=none\/∃ j∈s,a∈ν j) :
  StOk K Z H0 (fun j=>if j=i then ms else if j∈s then [] else ν j) ((dropS ρ s).set i (some (true,d))) (σ.set i (some v)) H' where
 sm:=S.sm.trans e
 len:=by rw [length_set,length_set,dropS_len];exact S.len
 sl:=fun j b c hj=>by
  rcases set_get hj with ⟨rfl,h1,h2⟩|⟨h1,h2⟩
  ·cases h1
   exact ⟨v,by rw [List.getElem?_set_self (by rw [S.len];rw [dropS_len] at h2;exact h2)],by rw [if_pos rfl];rw [if_pos rfl];exact h⟩
  ·obtain ⟨h3,h4⟩:=dropS_get s h2
   obtain ⟨u,q1,q2⟩:=S.sl j b c h4
   refine ⟨u,by rw [List.getElem?_set_ne (Ne.symm h1)];exact q1,?_⟩
   cases b with
   | true =>
    rw [if_pos rfl,if_neg h1,if_neg h3]
    exact Ow.same e q2
   | false =>
    refine Dn.same (fun a o ha=>?_) q2
    obtain ⟨g1,g2⟩:=of_hid ha
    refine hid_of (e _ _ g1) fun z=>?_
    rcases z with z|⟨k,z⟩
    ·exact g2 (.inl z)
    ·dsimp only at z
     split at z
     ·rcases fr a z with z|⟨l,_,z⟩
      ·rw [g1] at z;cases z
      ·exact g2 (.inr ⟨l,z⟩)
     ·split at z
      ·cases z
      ·exact g2 (.inr ⟨k,z⟩)
 nd:=fun j=>by
  split
  ·exact nd
  ·split
   ·exact nodup_nil
   ·exact S.nd j
 dj:=fun j k a hj hk=>by
  have key:∀ l,l∉s->a∈ν l->a∉ms:=fun l hl ha hm=>by
   rcases fr a hm with z|⟨m,hm,z⟩
   ·obtain ⟨_,_,us,q⟩:=S.fr l a ha
    rw [z] at q;cases q
   ·rw [S.dj l m a ha z] at hl;exact hl hm
  split at hj
  ·split at hk
   ·omega
   ·split at hk
    ·cases hk
    ·exact absurd hj (key k ‹_› hk)
  ·split at hj
   ·cases hj
   ·split at hk
    ·exact absurd hk (key j ‹_› hj)
    ·split at hk
     ·cases hk
     ·exact S.dj j k a hj hk
 fr:=fun j a ha=>by
  split at ha
  ·have ht:=h.there a ha
   rcases fr a ha with z|⟨m,_,z⟩
   ·exact ⟨S.sm.gone z,(fun q=>by obtain ⟨_,us,q⟩:=S.zf a q;rw [z] at q;cases q),ht⟩
   ·obtain ⟨q1,q2,us,q3⟩:=S.fr m a z
    exact ⟨q1,q2,us,e _ _ q3⟩
  ·split at ha
   ·cases ha
   ·obtain ⟨q1,q2,us,q3⟩:=S.fr j a ha
    exact ⟨q1,q2,us,e _ _ q3⟩
 zf:=fun a h=>by obtain ⟨h1,us,h3⟩:=S.zf a h;exact ⟨h1,us,e _ _ h3⟩
def frz (ρ:Ren):Ren:=ρ.map fun x=>x.map fun y=>(false,y.2)
theorem frz_get {ρ:Ren} {i:Nat} {b:Bool} {d:D} (h:(frz ρ)[i]?=some (some (b,d))):b=false/\∃ c,ρ[i]?=some (some (c,d)):=by
 unfold frz at h
 rw [List.getElem?_map] at h
 cases q:ρ[i]? with
 | none=>rw [q] at h;cases h
 | some x =>
  rw [q] at h
  cases x with
  | none=>cases h
  | some y=>cases h;exact ⟨rfl,y.1,rfl⟩
theorem StOk.frz (S:StOk K Z H0 ν ρ σ H):StOk K Z H0 (fun _=>[]) (frz ρ) σ H where
 sm:=S.sm
 len:=by unfold DL.frz;rw [length_map];exact S.len
 sl:=fun i b d h=>by
  obtain ⟨rfl,c,h⟩:=frz_get h
  obtain ⟨v,h1,h2⟩:=S.sl i c d h
  refine ⟨v,h1,?_⟩
  have hl:∀ a,Hd Z (fun _=>[]) a->Mu H a:=fun a z=>by
   rcases z with z|⟨_,z⟩
   ·exact (S.zf a z).2
   ·cases z
  cases c with
  | true =>
   refine ow_hid hl h2 fun a ha z=>?_
   rcases z with z|⟨_,z⟩
   ·exact (S.fr i a ha).2.1 z
   ·cases z
  | false=>exact Dn.same (hid_less fun a z=>by rcases z with z|⟨_,z⟩;exact .inl z;cases z) h2
 nd:=fun _=>nodup_nil
 dj:=fun _ _ _ z=>by cases z
 fr:=fun _ _ z=>by cases z
 zf:=S.zf
def frz1 (i:Nat) (ρ:Ren):Ren:=match ρ[i]? with
 | some (some (_,d))=>ρ.set i (some (false,d))
 | _=>ρ
theorem StOk.frz1 (S:StOk K Z H0 ν ρ σ H) (i:Nat):StOk K Z H0 (fun j=>if j=i then [] else ν j) (frz1 i ρ) σ H:=by
 have hl:∀ a,Hd Z (fun j=>if j=i then [] else ν j) a->Hd Z ν a:=fun a z=>by
  rcases z with z|⟨j,z⟩
  ·exact .inl z
  ·dsimp only at z
   split at z
   ·cases z
   ·exact .inr ⟨j,z⟩
 have sl:∀ j b d,ρ[j]?=some (some (b,d))->j≠i->∃ v,σ[j]?=some (some v)/\if b=true then Ow K H v d (if j=i then [] else ν j) else Dn K (hid (Hd Z fun j=>if j=i then [] else ν j) H) v d:=fun j b d h hj=>by
  obtain ⟨v,h1,h2⟩:=S.sl j b d h
  refine ⟨v,h1,?_⟩
  rw [if_neg hj]
  cases b with
  | true=>exact h2
  | false=>exact Dn.same (hid_less hl) h2
 refine ⟨S.sm,?_,?_,fun j=>?_,fun j k a hj hk=>?_,fun j a ha=>?_,S.zf⟩
 ·unfold DL.frz1
  split
  ·rw [length_set];exact S.len
  ·exact S.len
 ·intro j b d h
  unfold DL.frz1 at h
  split at h
  case h_1 x b' d' e =>
   rcases set_get h with ⟨rfl,h1,h2⟩|⟨h1,h2⟩
   ·cases h1
    obtain ⟨v,h1,h2⟩:=S.sl j b' d e
    refine ⟨v,h1,?_⟩
    cases b' with
    | true =>
     refine ow_hid (fun a z=>S.hl a (hl a z)) h2 fun a ha z=>?_
     rcases z with z|⟨k,z⟩
     ·exact (S.fr j a ha).2.1 z
     ·dsimp only at z
      split at z
      ·cases z
      ·exact absurd (S.dj _ _ _ z ha) ‹_›
    | false=>exact Dn.same (hid_less hl) h2
   ·exact sl j b d h2 h1
  case h_2 e =>
   by_cases hj:j=i
   ·subst hj;exact absurd h (fun q=>e _ _ q)
   ·exact sl j b d h hj
 ·skip
  split
  ·exact nodup_nil
  ·exact S.nd j
 ·skip
  split at hj
  ·cases hj
  ·split at hk
   ·cases hk
   ·exact S.dj _ _ _ hj hk
 ·skip
  split at ha
  ·cases ha
  ·exact S.fr _ _ ha
end
inductive Kd where
 | own (s:List Nat)
 | old
 | mix
def Res (K:W.Frag) (Z:Addr->Prop) (ν:Nat->List Addr) (H H':Hp):Kd->V->D->Prop
 | .own s,v,d=>∃ ms,Ow K H' v d ms/\ms.Nodup/\∀ a∈ms,H a=none\/∃ j∈s,a∈ν j
 | .old,v,d=>Dn K (hid (Hd Z ν) H') v d
 | .mix,v,d=>Dn K H' v d
section
variable {K:W.Frag} {Z:Addr->Prop} {H H1 H':Hp} {ν:Nat->List Addr} {v:V} {d:D} {k:Kd}
theorem Res.den (h:Res K Z ν H H' k v d):Dn K H' v d:=by
 cases k with
 | own s=>obtain ⟨ms,h,_⟩:=h;exact h.den
 | old=>exact Dn.same hid_same h
 | mix=>exact h
theorem Res.same (h:Res K Z ν H H1 k v d) (e:Same H1 H'):Res K Z ν H H' k v d:=by
 cases k with
 | own s=>obtain ⟨ms,h,r⟩:=h;exact ⟨ms,h.same e,r⟩
 | old=>exact Dn.same (hid_mono e) h
 | mix=>exact Dn.same e h
theorem Res.later (h:Res K Z ν H1 H' k v d) (e:Same H H1):Res K Z ν H H' k v d:=by
 cases k with
 | own s =>
  obtain ⟨ms,h,r,f⟩:=h
  exact ⟨ms,h,r,fun a ha=>by rcases f a ha with z|z;exact .inl (e.gone z);exact .inr z⟩
 | old=>exact h
 | mix=>exact h
theorem Res.flat (h:Dn K H' v d) (hf:DL.flat d=true) (hl:∀ a,Hd Z ν a->Mu H' a) (k:Kd):Res K Z ν H H' k v d:=by
 cases k with
 | own s=>exact ⟨[],ow_flat h hf,nodup_nil,fun _ z=>by cases z⟩
 | old=>exact den_hid hl h hf
 | mix=>exact h
end
abbrev QD:=D->Kd->Prop
abbrev XD:=Addr->Prop
abbrev TD:=Ren->QD->XD->Prop
abbrev TDT:=Ren->(Bool->Prop)->XD->Prop
abbrev TDA:=Ren->(List D->Kd->Prop)->XD->Prop
def RsL (K:W.Frag) (Z:Addr->Prop) (ν:Nat->List Addr) (H H':Hp):Kd->List V->List D->Prop
 | .own s,v,d=>∃ ms,Ows K H' v d ms/\ms.Nodup/\∀ a∈ms,H a=none\/∃ j∈s,a∈ν j
 | .old,v,d=>Dns K (hid (Hd Z ν) H') v d
 | .mix,v,d=>Dns K H' v d
def LE (K:W.Frag) (E:XK) (t:TD):TE:=fun σ H Q=>∃ H0 ν ρ Qd Xd,StOk K Z0 H0 ν ρ σ H/\t ρ Qd Xd/\(∀ d k v H',Qd d k->Same H H'->Res K Z0 ν H H' k v d->Q v H')/\∀ C H',Xd C->Same H0 H'->E (.ref C) none H'
def LT (K:W.Frag) (E:XK) (t:TDT):TT:=fun σ H Q=>∃ H0 ν ρ Qd Xd,StOk K Z0 H0 ν ρ σ H/\t ρ Qd Xd/\(∀ b H',Qd b->Same H H'->Q b H')/\∀ C H',Xd C->Same H0 H'->E (.ref C) none H'
def LA (K:W.Frag) (E:XK) (t:TDA):TA:=fun σ H Q=>∃ H0 ν ρ Qd Xd,StOk K Z0 H0 ν ρ σ H/\t ρ Qd Xd/\(∀ ds k vs H',Qd ds k->Same H H'->RsL K Z0 ν H H' k vs ds->Q vs H')/\∀ C H',Xd C->Same H0 H'->E (.ref C) none H'
structure DE (X:Cx) (K:W.Frag) (E:XK) (e:Expr) (t:TD):Prop where
 q:QE X e (LE K E t)
structure DT (X:Cx) (K:W.Frag) (E:XK) (e:Expr) (t:TDT):Prop where
 q:QT X e (LT K E t)
structure DW (X:Cx) (K:W.Frag) (E:XK) (e:Expr) (t:TDT):Prop where
 q:QW X e (LT K E t)
structure DA (X:Cx) (K:W.Frag) (E:XK) (e:List Expr) (t:TDA):Prop where
 q:QA X e (LA K E t)
theorem qe_imp {X:Cx} {e:Expr} {t t':TE} (h:QE X e t) (i:∀ σ H Q,t' σ H Q->t σ H Q):QE X e t':=⟨fun pins s σ H Q I w=>h.h pins s σ H Q I (i σ H Q w)⟩
theorem qt_imp {X:Cx} {e:Expr} {t t':TT} (h:QT X e t) (i:∀ σ H Q,t' σ H Q->t σ H Q):QT X e t':=⟨fun pins s σ H Q I w=>h.h pins s σ H Q I (i σ H Q w)⟩
theorem qw_imp {X:Cx} {e:Expr} {t t':TT} (h:QW X e t) (i:∀ σ H Q,t' σ H Q->t σ H Q):QW X e t':=⟨fun wh pins s σ H Q I w=>h.h wh pins s σ H Q I (i σ H Q w)⟩
theorem qa_imp {X:Cx} {e:List Expr} {t t':TA} (h:QA X e t) (i:∀ σ H Q,t' σ H Q->t σ H Q):QA X e t':=⟨fun pos pins s σ H Q I w=>h.h pos pins s σ H Q I (i σ H Q w)⟩
theorem qs_imp {X:Cx} {e:Stmt} {t t':TS} (h:QS X e t) (i:∀ D σ H,t' D σ H->t D σ H):QS X e t':=⟨fun pins s σ H D I w=>h.h pins s σ H D I (i D σ H w)⟩
theorem qss_imp {X:Cx} {e:List Stmt} {t t':TS} (h:QSs X e t) (i:∀ D σ H,t' D σ H->t D σ H):QSs X e t':=⟨fun pins s σ H D I w=>h.h pins s σ H D I (i D σ H w)⟩
section
variable {X:Cx} {K:W.Frag} {E:XK} {pos:Pos}
def dVar (i:Nat):TD:=fun ρ Q _=>∃ b d,ρ[i]?=some (some (b,d))/\Q d (if b=true then .own [i] else .old)
theorem dpv (i:Nat) {x:Str} (hN:X.N[i]?=some x:=by rfl) (hv:Vis X.env.scope x:=by first|exact Or.inl rfl|exact Or.inr (Or.inl rfl)|exact Or.inr (Or.inr rfl)) (hd:(x==("__debug__":Str))=false:=by decide)
  (hcd:(x==("__classdict__":Str))=false:=by decide):DE X K E (.Name x pos) (dVar i):=⟨qe_imp (qpv i hN hv hd hcd) fun σ H Q h=>by
 obtain ⟨H0,ν,ρ,Qd,Xd,S,⟨b,d,h1,h2⟩,q,_⟩:=h
 obtain ⟨v,g1,g2⟩:=S.sl i b d h1
 refine ⟨v,g1,q d _ v H h2 (Same.refl H) ?_⟩
 cases b with
 | true=>exact ⟨ν i,g2,S.nd i,fun a ha=>.inr ⟨i,by simp,ha⟩⟩
 | false=>exact g2⟩
def dC (d:D):TD:=fun _ Q _=>Q d .old
theorem dc_of {e:Expr} {v:V} {d:D} (h:QE X e (tC v)) (hd:∀ H,Dn K H v d):DE X K E e (dC d):=⟨qe_imp h fun σ H Q h=>by
 obtain ⟨H0,ν,ρ,Qd,Xd,S,h1,q,_⟩:=h
 exact q d _ v H h1 (Same.refl H) (hd _)⟩
theorem zD {i:Int} {j}:DE X K E (.Constant (.int i) j pos) (dC (.int i)):=dc_of qpe_int fun _=>.int _
theorem dpe_bl {i:Bool} {j}:DE X K E (.Constant (.bool i) j pos) (dC (.bool i)):=dc_of qpe_bl fun _=>.bl _
theorem dpe_non {j}:DE X K E (.Constant .none j pos) (dC .none):=dc_of qpe_non fun _=>.non
theorem zQ {x:Str} {j}:DE X K E (.Constant (.str x) j pos) (dC (.str x)):=dc_of qpe_str fun _=>.str _
abbrev F2:=D->Kd->D->Kd->QD->Prop
def Prim2 (K:W.Frag) (r:R2) (f:F2):Prop:=∀ (Z:Addr->Prop) (ν:Nat->List Addr) (Hs H:Hp) (x y:V) (d:D) (k:Kd) (e:D) (l:Kd) (Qf:QD) (Q:VK),(∀ a,Hd Z ν a->Mu H a)->(∀ a,Hd Z ν a->Mu Hs a)->Same Hs H->Res K Z ν Hs H k x d->Res K Z ν Hs H l y e ->
 f d k e l Qf->(∀ d k v H',Qf d k->Same H H'->Res K Z ν Hs H' k v d->Q v H')->r x y H Q
structure DOp (X:Cx) (K:W.Frag) (f:Value->Value->Sem Value) (g:F2):Prop where
 ex:∃ r,OpR X f r/\Prim2 K r g
structure DIx (X:Cx) (K:W.Frag) (g:F2):Prop where
 ex:∃ r,IxR X r/\Prim2 K r g
def dOp (f:F2) (ta tb:TD):TD:=fun ρ Q Xd=>ta ρ (fun d k=>tb ρ (fun e l=>f d k e l Q) Xd) Xd
theorem le_two {r:R2} {f:F2} {ta tb:TD} (p:Prim2 K r f):∀ σ H Q,LE K E (dOp f ta tb) σ H Q->tOp r (LE K E ta) (LE K E tb) σ H Q:=fun σ H Q h=>by
 obtain ⟨H0,ν,ρ,Qd,Xd,S,h1,q,x⟩:=h
 refine ⟨H0,ν,ρ,_,Xd,S,h1,fun d k v H1 hd e1 r1=>?_,x⟩
 refine ⟨H0,ν,ρ,_,Xd,S.same e1,hd,fun d2 k2 v2 H2 hd2 e2 r2=>?_,x⟩
 refine p Z0 ν H H2 v v2 d k d2 k2 Qd Q (S.same (e1.trans e2)).hl S.hl (e1.trans e2) (r1.same e2) (r2.later e1) hd2 fun d3 k3 v3 H3 g1 g2 g3=>q d3 k3 v3 H3 g1 ((e1.trans e2).trans g2) g3
theorem zF {op:Operator} {f:F2} {a b:Expr} {ta tb:TD} (ho:DOp X K (binaryOp op) f) (ha:DE X K E a ta) (hb:DE X K E b tb):DE X K E (.BinOp a op b pos) (dOp f ta tb):=by
 obtain ⟨r,o,p⟩:=ho.ex
 exact ⟨qe_imp (qpe_op o ha.q hb.q) (le_two p)⟩
theorem dpe_cmp {op:CmpOp} {f:F2} {a b:Expr} {ta tb:TD} (ho:DOp X K (compareOp op) f) (ha:DE X K E a ta) (hb:DE X K E b tb) (hm:behindInMarks op b=false):DE X K E (.Compare a [op] [b] pos) (dOp f ta tb):=by
 obtain ⟨r,o,p⟩:=ho.ex
 exact ⟨qe_imp (qpe_cmpR o ha.q hb.q hm) (le_two p)⟩
theorem dpe_ix {f:F2} {a b:Expr} {ta tb:TD} (ho:DIx X K f) (ha:DE X K E a ta) (hb:DE X K E b tb) (hs:PlainIx b):DE X K E (.Subscript a b pos) (dOp f ta tb):=by
 obtain ⟨r,o,p⟩:=ho.ex
 exact ⟨qe_imp (qpe_ix o ha.q hb.q hs) (le_two p)⟩
theorem DOp.or {h:Value->Value->Sem Value} {f g:F2} (a:DOp X K h f) (b:DOp X K h g):DOp X K h (fun d k e l Q=>f d k e l Q\/g d k e l Q):=by
 obtain ⟨r,o,p⟩:=a.ex
 obtain ⟨r',o',p'⟩:=b.ex
 refine ⟨_,o.or o',fun Z ν Hs H x y d k e l Qf Q h1 h0 h2 h3 h4 h5 h6=>?_⟩
 rcases h5 with h5|h5
 ·exact .inl (p Z ν Hs H x y d k e l Qf Q h1 h0 h2 h3 h4 h5 h6)
 ·exact .inr (p' Z ν Hs H x y d k e l Qf Q h1 h0 h2 h3 h4 h5 h6)
theorem DOp.mono {h:Value->Value->Sem Value} {f g:F2} (a:DOp X K h f) (i:∀ d k e l Q,g d k e l Q->f d k e l Q):DOp X K h g:=by
 obtain ⟨r,o,p⟩:=a.ex
 exact ⟨r,o,fun Z ν Hs H x y d k e l Qf Q h1 h0 h2 h3 h4 h5 h6=>p Z ν Hs H x y d k e l Qf Q h1 h0 h2 h3 h4 (i _ _ _ _ _ h5) h6⟩
def fI (C:Int->Int->Prop) (g:Int->Int->D):F2:=fun d _ e _ Q=>match d,e with
 | .int i,.int j=>C i j/\Q (g i j) .old
 | _,_=>False
theorem prim_int {C:Int->Int->Prop} {g:Int->Int->Int}:Prim2 K (rI C fun i j=>.int (g i j)) (fI C fun i j=>.int (g i j)):=fun Z ν Hs H x y d k e l Qf Q _ _ _ h3 h4 h5 h6=>by
 unfold fI at h5
 split at h5
 ·have a:=h3.den
  have b:=h4.den
  cases a
  cases b
  exact ⟨_,_,rfl,rfl,h5.1,h6 _ _ _ _ h5.2 (Same.refl H) (.int _)⟩
 ·exact h5.elim
def T2 (_ _:Int):Prop:=True
theorem prim_int0 {g:Int->Int->Int}:Prim2 K (rI0 fun i j=>.int (g i j)) (fI T2 fun i j=>.int (g i j)):=fun Z ν Hs H x y d k e l Qf Q _ _ _ h3 h4 h5 h6=>by
 unfold fI at h5
 split at h5
 ·have a:=h3.den
  have b:=h4.den
  cases a
  cases b
  exact ⟨_,_,rfl,rfl,h6 _ _ _ _ h5.2 (Same.refl H) (.int _)⟩
 ·exact h5.elim
theorem prim_bool0 {g:Int->Int->Bool}:Prim2 K (rI0 fun i j=>.bl (g i j)) (fI T2 fun i j=>.bool (g i j)):=fun Z ν Hs H x y d k e l Qf Q _ _ _ h3 h4 h5 h6=>by
 unfold fI at h5
 split at h5
 ·have a:=h3.den
  have b:=h4.den
  cases a
  cases b
  exact ⟨_,_,rfl,rfl,h6 _ _ _ _ h5.2 (Same.refl H) (.bl _)⟩
 ·exact h5.elim
theorem dop_sub:DOp X K (binaryOp .Sub) (fI T2 fun i j=>.int (i - j)):=⟨_,op_sub,prim_int0⟩
theorem dop_mul:DOp X K (binaryOp .Mult) (fI IntMulOk fun i j=>.int (i*j)):=⟨_,op_mulB,prim_int⟩
theorem zT:DOp X K (binaryOp .FloorDiv) (fI CDiv fun i j=>.int (i / j)):=⟨_,op_fdiv,prim_int⟩
theorem zP:DOp X K (binaryOp .Mod) (fI (fun _ j=>0 < j) fun i j=>.int (i % j)):=⟨_,op_mod,prim_int⟩
theorem dop_pow:DOp X K (binaryOp .Pow) (fI CPow fun i j=>.int (i ^ j.toNat)):=⟨_,op_pow,prim_int⟩
theorem dop_lt:DOp X K (compareOp .Lt) (fI T2 fun i j=>.bool (decide (i < j))):=⟨_,op_lt,prim_bool0⟩
theorem dop_gt:DOp X K (compareOp .Gt) (fI T2 fun i j=>.bool (decide (j < i))):=⟨_,op_gt,prim_bool0⟩
theorem dop_ge:DOp X K (compareOp .GtE) (fI T2 fun i j=>.bool (decide (j<=i))):=⟨_,op_ge,prim_bool0⟩
def fEq (f:Bool->Bool):F2:=fun d _ e _ Q=>d.canLay0=true/\e.canLay0=true/\d.depth<=32/\Q (.bool (f (PyData.eqv d e))) .old
theorem prim_eq {f:Bool->Bool}:Prim2 K (rEqD K f) (fEq f):=fun Z ν Hs H x y d k e l Qf Q _ _ _ h3 h4 h5 h6 =>
 ⟨d,e,h3.den.deep h5.1,h4.den.deep h5.2.1,h5.1,h5.2.1,h5.2.2.1,h6 _ _ _ _ h5.2.2.2 (Same.refl H) (.bl _)⟩
theorem dop_eq (hK:X.K=K) (hu:X.A.units+64 < cLine):DOp X K (compareOp .Eq) (fEq id):=⟨_,op_eqK K hK hu,prim_eq⟩
theorem dop_ne (hK:X.K=K) (hu:X.A.units+64 < cLine):DOp X K (compareOp .NotEq) (fEq not):=⟨_,op_neK K hK hu,prim_eq⟩
end
def Kd.isOld:Kd->Bool
 | .old=>true
 | .own []=>true
 | _=>false
def kels (ds:List D) (k:Kd):Kd:=if flats ds=true then .own [] else if k.isOld=true then .old else .mix
def kels2 (ds:List D) (k:Kd) (es:List D) (l:Kd):Kd:=if (flats ds&&flats es)=true then .own [] else if (k.isOld&&l.isOld)=true then .old else .mix
def Kd.sub:Kd->Kd
 | .own []=>.own []
 | .old=>.old
 | _=>.mix
section
variable {K:W.Frag} {Z:Addr->Prop} {Hs H:Hp} {ν:Nat->List Addr} {v:V} {d:D} {k l:Kd} {us vs:List V} {ds es:List D} {a p:Addr}
theorem Res.old (hl:∀ a,Hd Z ν a->Mu H a) (hn:∀ a,Hd Z ν a->Mu Hs a) (h:Res K Z ν Hs H k v d) (hk:k.isOld=true):Dn K (hid (Hd Z ν) H) v d:=by
 cases k with
 | own s =>
  cases s with
  | nil =>
   obtain ⟨ms,h1,_,h3⟩:=h
   refine ow_hid hl h1 fun a ha z=>?_
   rcases h3 a ha with q|⟨j,q,_⟩
   ·obtain ⟨us,z⟩:=hn a z;rw [q] at z;cases z
   ·cases q
  | cons=>cases hk
 | old=>exact h
 | mix=>cases hk
theorem RsL.dens (h:RsL K Z ν Hs H k vs ds):Dns K H vs ds:=by
 cases k with
 | own s=>obtain ⟨ms,h,_⟩:=h;exact h.den
 | old=>exact Dns.same hid_same h
 | mix=>exact h
theorem res_newL (hl:∀ a,Hd Z ν a->Mu H a) (hs:Same Hs H) (hp:H p=none) (h:RsL K Z ν Hs H k vs ds):Res K Z ν Hs (upd H p (.lst vs)) k (.ref p) (.list ds):=by
 have sm:Same H (upd H p (.lst vs)):=Same.new hp
 cases k with
 | own s =>
  obtain ⟨ms,h1,h2,h3⟩:=h
  refine ⟨p::ms,.lst upd_same (h1.same sm),nodup_cons.mpr ⟨fun hm=>?_,h2⟩,fun a ha=>?_⟩
  ·obtain ⟨us,q⟩:=h1.there p hm;rw [hp] at q;cases q
  ·rcases mem_cons.mp ha with rfl|ha
   ·exact .inl (hs.gone hp)
   ·exact h3 a ha
 | old =>
  have hz:¬ Hd Z ν p:=fun z=>by obtain ⟨us,q⟩:=hl p z;rw [hp] at q;cases q
  exact .lst (hid_of upd_same hz) (Dns.same (hid_mono sm) h)
 | mix=>exact .lst upd_same (Dns.same sm h)
theorem res_newT (hl:∀ a,Hd Z ν a->Mu H a) (hs:Same Hs H) (hp:H p=none) (h:RsL K Z ν Hs H k vs ds):Res K Z ν Hs (upd H p (.tup vs)) k (.ref p) (.tuple ds):=by
 have sm:Same H (upd H p (.tup vs)):=Same.new hp
 cases k with
 | own s =>
  obtain ⟨ms,h1,h2,h3⟩:=h
  exact ⟨ms,.tup (SqT.of upd_same) (h1.same sm),h2,h3⟩
 | old =>
  have hz:¬ Hd Z ν p:=fun z=>by obtain ⟨us,q⟩:=hl p z;rw [hp] at q;cases q
  exact .tup (SqT.of (hid_of upd_same hz)) (Dns.same (hid_mono sm) h)
 | mix=>exact .tup (SqT.of upd_same) (Dns.same sm h)
theorem dns_of_lst {v:V} (h:Dn K H v (.list ds)):∃ a us,v=.ref a/\H a=some (.lst us)/\Dns K H us ds:=by
 cases h with
 | lst h r=>exact ⟨_,_,rfl,h,r⟩
theorem dns_of_tup {v:V} (h:Dn K H v (.tuple ds)):∃ a us,v=.ref a/\SqT K H a us/\Dns K H us ds:=by
 cases h with
 | tup h r=>exact ⟨_,_,rfl,h,r⟩
theorem res_list (hl:∀ a,Hd Z ν a->Mu H a) (hn:∀ a,Hd Z ν a->Mu Hs a) (h:Res K Z ν Hs H k v (.list ds)):∃ a us,v=.ref a/\H a=some (.lst us)/\Dns K H us ds/\RsL K Z ν Hs H (kels ds k) us ds:=by
 obtain ⟨a,us,rfl,h1,h2⟩:=dns_of_lst h.den
 refine ⟨a,us,rfl,h1,h2,?_⟩
 unfold kels
 split
 ·exact ⟨[],ows_flat h2 ‹_›,nodup_nil,fun _ z=>by cases z⟩
 ·split
  ·have q:=h.old hl hn ‹_›
   obtain ⟨a',us',e,q1,q2⟩:=dns_of_lst q
   cases e
   have:=(of_hid q1).1
   rw [h1] at this;cases this
   exact q2
  ·exact h2
theorem dns_hid {Z:Addr->Prop} (hl:∀ a,Z a->Mu H a) (h:Dns K H us ds) (hf:flats ds=true):Dns K (hid Z H) us ds :=
 dens_kept (fun a o e n=>hid_of e fun z=>(hl a z).no e n) h hf
theorem flats_app:flats ds=true->flats es=true->flats (ds++es)=true:=by
 intro h1 h2
 induction ds with
 | nil=>exact h2
 | cons x r ih =>
  simp only [flats,Bool.and_eq_true] at h1
  show (flat x&&flats (r++es))=true
  rw [h1.1,ih h1.2];rfl
theorem rsl_old (hl:∀ a,Hd Z ν a->Mu H a) (hk:k.isOld=true) (h:RsL K Z ν Hs H (kels ds k) us ds):Dns K (hid (Hd Z ν) H) us ds:=by
 have A:=h.dens
 unfold kels at h
 split at h
 ·exact dns_hid hl A ‹_›
 ·exact h
theorem rsl_app (hl:∀ a,Hd Z ν a->Mu H a) (h:RsL K Z ν Hs H (kels ds k) us ds) (g:RsL K Z ν Hs H (kels es l) vs es):RsL K Z ν Hs H (kels2 ds k es l) (us++vs) (ds++es):=by
 have A:=h.dens
 have B:=g.dens
 unfold kels2
 split
 case isTrue e =>
  rw [Bool.and_eq_true] at e
  exact ⟨[],ows_flat (A.append B) (flats_app e.1 e.2),nodup_nil,fun _ z=>by cases z⟩
 case isFalse e =>
  split
  case isFalse=>exact A.append B
  case isTrue q =>
   rw [Bool.and_eq_true] at q
   exact (rsl_old hl q.1 h).append (rsl_old hl q.2 g)
theorem rsl_part (hl:∀ a,Hd Z ν a->Mu H a) (h:RsL K Z ν Hs H (kels ds k) us ds) {us':List V} {ds':List D} (p:∀ {G:Hp},Dns K G us ds->Dns K G us' ds') (hf:flats ds=true->flats ds'=true):RsL K Z ν Hs H (kels ds' k) us' ds':=by
 have A:=p h.dens
 unfold kels
 split
 ·exact ⟨[],ows_flat A ‹_›,nodup_nil,fun _ z=>by cases z⟩
 ·split
  ·exact p (rsl_old hl ‹_› h)
  ·exact A
end
section
variable {X:Cx} {K:W.Frag} {E:XK} {pos:Pos}
def fCat:F2:=fun d k e l Q=>match d,e with
 | .list ds,.list es=>ds.length+es.length<=1000000/\Q (.list (ds++es)) (kels2 ds k es l)
 | _,_=>False
theorem million:(1000000:Nat)<=sizeLine:=by decide
theorem prim_cat:Prim2 K rCat fCat:=fun Z ν Hs H x y d k e l Qf Q hl hn hs h3 h4 h5 h6=>by
 unfold fCat at h5
 split at h5
 ·obtain ⟨a,us,rfl,a1,a2,a3⟩:=res_list hl hn h3
  obtain ⟨b,vs,rfl,b1,b2,b3⟩:=res_list hl hn h4
  refine ⟨a,b,us,vs,rfl,rfl,a1,b1,?_,fun p hp=>?_⟩
  ·rw [a2.length,b2.length];exact Nat.le_trans h5.1 million
  ·exact h6 _ _ _ _ h5.2 (Same.new hp) (res_newL hl hs hp (rsl_app hl a3 b3))
 ·exact h5.elim
def fStr:F2:=fun d _ e _ Q=>match d,e with
 | .str x,.str y=>x.length+y.length<=1000000/\Q (.str (x++y)) .old
 | _,_=>False
theorem dop_addS:DOp X K (binaryOp .Add) fStr:=⟨_,op_add_str,fun Z ν Hs H x y d k e l Qf Q _ _ _ h3 h4 h5 h6=>by
 unfold fStr at h5
 split at h5
 ·have a:=h3.den
  have b:=h4.den
  cases a
  cases b
  exact ⟨_,_,rfl,rfl,Nat.le_trans h5.1 million,h6 _ _ _ _ h5.2 (Same.refl H) (.str _)⟩
 ·exact h5.elim⟩
def fAdd:F2:=fun d k e l Q=>match d,e with
 | .int i,.int j=>Q (.int (i+j)) .old
 | .list ds,.list es=>ds.length+es.length<=1000000/\Q (.list (ds++es)) (kels2 ds k es l)
 | .str x,.str y=>x.length+y.length<=1000000/\Q (.str (x++y)) .old
 | _,_=>False
theorem zJ:DOp X K (binaryOp .Add) fAdd:=DOp.mono (DOp.or ⟨_,op_add,prim_int0⟩ (DOp.or ⟨_,op_cat,prim_cat⟩ dop_addS)) fun d k e l Q h=>by
 unfold fAdd at h
 split at h
 ·exact .inl ⟨trivial,h⟩
 ·exact .inr (.inl h)
 ·exact .inr (.inr h)
 ·exact h.elim
def fIx:F2:=fun d k e _ Q=>match d,e with
 | .list ds,.int i=>∃ x,atI ds i=some x/\Q x k.sub
 | .tuple ds,.int i=>∃ x,atI ds i=some x/\Q x k.sub
 | .str z,.int i=>z.length<=1000000/\∃ c,atI z.cps.toList i=some c/\Q (.str ⟨#[c]⟩) .old
 | .dict [(.none,.list ds)],.int i=>∃ x,atI ds i=some x/\Q x .old
 | _,_=>False
theorem ows_get {H:Hp}:∀ {us:List V} {ds:List D} {ns:List Addr} {j:Nat} {x:D},Ows K H us ds ns->ds[j]?=some x->∃ u ms,us[j]?=some u/\Ow K H u x ms/\(∀ a∈ms,a∈ns)/\(ns.Nodup->ms.Nodup)
 | _,_,_,0,x,.cons h r,e=>by simp at e;subst e;exact ⟨_,_,rfl,h,fun a ha=>mem_append_left _ ha,fun n=>(nodup_append.mp n).1⟩
 | _,_,_,j+1,x,.cons h r,e=>by
  simp at e
  obtain ⟨u,ms,h1,h2,h3,h4⟩:=ows_get r e
  exact ⟨u,ms,by simpa using h1,h2,fun a ha=>mem_append_right _ (h3 a ha),fun n=>h4 (nodup_append.mp n).2.1⟩
theorem atI_nth {α:Type} {xs:List α} {i:Int} {x:α} (h:atI xs i=some x):∃ j,ixN xs.length i=some j/\xs[j]?=some x:=by
 unfold atI at h
 cases e:ixN xs.length i with
 | none=>rw [e] at h;cases h
 | some j=>rw [e] at h;exact ⟨j,rfl,h⟩
theorem atI_of {α:Type} {xs:List α} {i:Int} {j:Nat} {x:α} (h:ixN xs.length i=some j) (g:xs[j]?=some x):atI xs i=some x:=by
 unfold atI;rw [h];exact g
theorem items_own {Z:Addr->Prop} {ν:Nat->List Addr} {Hs H:Hp} {us:List V} {ds:List D} {ms:List Addr} (h:Ows K H us ds ms) (nd:ms.Nodup) (fr:∀ a∈ms,Hs a=none\/∃ j∈([]:List Nat),a∈ν j):∀ (j:Nat) x,ds[j]?=some x->∃ u,us[j]?=some u/\Res K Z ν Hs H (.own []) u x:=fun j x e=>by
 obtain ⟨u,ns,r1,r2,r3,r4⟩:=ows_get h e
 exact ⟨u,r1,ns,r2,r4 nd,fun a ha=>fr a (r3 a ha)⟩
theorem items_den {H:Hp} {us:List V} {ds:List D} (h:Dns K H us ds):∀ (j:Nat) x,ds[j]?=some x->∃ u,us[j]?=some u/\Dn K H u x:=fun j x e=>h.get e
theorem res_itemsT {Z:Addr->Prop} {ν:Nat->List Addr} {Hs H:Hp} {k:Kd} {v:V} {ds:List D} (h:Res K Z ν Hs H k v (.tuple ds)):∃ a us,v=.ref a/\SqT K H a us/\us.length=ds.length/\Dns K H us ds/\∀ (j:Nat) x,ds[j]?=some x->∃ u,us[j]?=some u/\Res K Z ν Hs H k.sub u x:=by
 unfold Kd.sub
 split
 ·obtain ⟨ms,h1,h2,h3⟩:=h
  cases h1 with
  | tup q1 q2=>exact ⟨_,_,rfl,q1,q2.den.length,q2.den,items_own q2 h2 h3⟩
 ·obtain ⟨a,us,rfl,q1,q2⟩:=dns_of_tup (show Dn K _ _ _ from h)
  exact ⟨a,us,rfl,Same.tup hid_same q1,q2.length,Dns.same hid_same q2,items_den q2⟩
 ·obtain ⟨a,us,rfl,q1,q2⟩:=dns_of_tup h.den
  exact ⟨a,us,rfl,q1,q2.length,q2,items_den q2⟩
theorem res_itemsL {Z:Addr->Prop} {ν:Nat->List Addr} {Hs H:Hp} {k:Kd} {v:V} {ds:List D} (h:Res K Z ν Hs H k v (.list ds)):∃ a us,v=.ref a/\H a=some (.lst us)/\us.length=ds.length/\Dns K H us ds/\∀ (j:Nat) x,ds[j]?=some x->∃ u,us[j]?=some u/\Res K Z ν Hs H k.sub u x:=by
 unfold Kd.sub
 split
 ·obtain ⟨ms,h1,h2,h3⟩:=h
  cases h1 with
  | lst q1 q2=>exact ⟨_,_,rfl,q1,q2.den.length,q2.den,items_own q2 (nodup_cons.mp h2).2 fun a ha=>h3 a (mem_cons_of_mem _ ha)⟩
 ·obtain ⟨a,us,rfl,q1,q2⟩:=dns_of_lst (show Dn K _ _ _ from h)
  exact ⟨a,us,rfl,(of_hid q1).1,q2.length,Dns.same hid_same q2,items_den q2⟩
 ·obtain ⟨a,us,rfl,q1,q2⟩:=dns_of_lst h.den
  exact ⟨a,us,rfl,q1,q2.length,q2,items_den q2⟩
theorem dix (hK:X.K=K):DIx X K fIx:=by
 subst hK
 refine ⟨_,ix_seq,fun Z ν Hs H x y d k e l Qf Q hl hn hs h3 h4 h5 h6=>?_⟩
 unfold fIx at h5
 split at h5
 ·obtain ⟨z,e1,q⟩:=h5
  obtain ⟨j,e2,e3⟩:=atI_nth e1
  obtain ⟨a,us,rfl,g1,g2,_,g3⟩:=res_itemsL h3
  obtain ⟨u,g4,g5⟩:=g3 j z e3
  have:=h4.den
  cases this
  exact .inl ⟨a,us,_,u,rfl,rfl,SqL.of g1,atI_of (by rw [g2];exact e2) g4,h6 _ _ _ _ q (Same.refl H) g5⟩
 ·obtain ⟨z,e1,q⟩:=h5
  obtain ⟨j,e2,e3⟩:=atI_nth e1
  obtain ⟨a,us,rfl,g1,g2,_,g3⟩:=res_itemsT h3
  obtain ⟨u,g4,g5⟩:=g3 j z e3
  have:=h4.den
  cases this
  exact .inr (.inl ⟨a,us,_,u,rfl,rfl,g1,atI_of (by rw [g2];exact e2) g4,h6 _ _ _ _ q (Same.refl H) g5⟩)
 ·have a:=h3.den
  have b:=h4.den
  cases a
  cases b
  obtain ⟨h0,c,e1,q⟩:=h5
  exact .inr (.inr ⟨_,_,c,rfl,rfl,Nat.le_trans h0 million,e1,h6 _ _ _ _ q (Same.refl H) (.str _)⟩)
 ·obtain ⟨z,e1,q⟩:=h5
  obtain ⟨j,e2,e3⟩:=atI_nth e1
  have b:=h4.den
  cases b
  have a:=h3.den
  cases a with
  | scr ns h =>
   rw [List.getElem?_map] at e3
   cases en:ns[j]? with
   | none=>rw [en] at e3;cases e3
   | some n =>
    rw [en] at e3;cases e3
    exact .inl ⟨_,_,_,V.int n,rfl,rfl,h,atI_of (by rw [length_map];rw [length_map] at e2;exact e2) (by rw [List.getElem?_map,en];rfl),h6 _ _ _ _ q (Same.refl H) (.int _)⟩
 ·exact h5.elim
def cutD (xs:List D) (lo hi:Option Int):List D:=(xs.drop (HT.sIx xs.length 0 lo)).take (HT.sIx xs.length xs.length hi - HT.sIx xs.length 0 lo)
theorem Dns.take {H:Hp}:∀ {us:List V} {ds:List D} (n:Nat),Dns K H us ds->Dns K H (us.take n) (ds.take n)
 | _,_,0,_=>by rw [List.take_zero,List.take_zero];exact .nil
 | _,_,n+1,.nil=>.nil
 | _,_,n+1,.cons h r=>.cons h (Dns.take n r)
theorem Dns.drop {H:Hp}:∀ {us:List V} {ds:List D} (n:Nat),Dns K H us ds->Dns K H (us.drop n) (ds.drop n)
 | _,_,0,h=>h
 | _,_,n+1,.nil=>.nil
 | _,_,n+1,.cons h r=>Dns.drop n r
theorem flats_iff:∀ {ds:List D},flats ds=true ↔ ∀ d∈ds,flat d=true
 | []=>by simp [flats]
 | d::r=>by simp [flats,flats_iff (ds:=r)]
def TDO:=Ren->(Option Int->Prop)->XD->Prop
def LO (K:W.Frag) (E:XK) (t:TDO):TO:=fun σ H Q=>∃ H0 ν ρ Qd Xd,StOk K Z0 H0 ν ρ σ H/\t ρ Qd Xd/\(∀ b H',Qd b->Same H H'->Q b H')/\∀ C H',Xd C->Same H0 H'->E (.ref C) none H'
structure DO (X:Cx) (K:W.Frag) (E:XK) (e:Option Expr) (t:TDO):Prop where
 q:QO X e (LO K E t)
def dNoPart:TDO:=fun _ Q _=>Q none
def dPart (t:TD):TDO:=fun ρ Q Xd=>t ρ (fun d _=>match d with|.int i=>Q (some i)|_=>False) Xd
theorem zN:DO X K E none dNoPart:=⟨⟨fun pins s σ H Q I h=>qpo_none.h pins s σ H Q I (by
 obtain ⟨H0,ν,ρ,Qd,Xd,S,h1,q,_⟩:=h
 exact q _ _ h1 (Same.refl H))⟩⟩
theorem zM {e:Expr} {t:TD} (he:DE X K E e t):DO X K E (some e) (dPart t):=⟨⟨fun pins s σ H Q I h=>(qpo_some he.q).h pins s σ H Q I (by
 obtain ⟨H0,ν,ρ,Qd,Xd,S,h1,q,x⟩:=h
 refine ⟨H0,ν,ρ,_,Xd,S,h1,fun d k v H' g1 g2 g3=>?_,x⟩
 have:=g3.den
 cases d with
 | int i=>cases this;exact ⟨i,rfl,q _ _ g1 g2⟩
 | _=>exact g1.elim)⟩⟩
abbrev F3:=D->Kd->Option Int->Option Int->QD->Prop
def fSl:F3:=fun d k lo hi Q=>match d with
 | .list ds=>Q (.list (cutD ds lo hi)) (kels (cutD ds lo hi) k)
 | _=>False
def dSl (f:F3) (te:TD) (tl th:TDO):TD:=fun ρ Q Xd=>te ρ (fun d k=>tl ρ (fun l=>th ρ (fun h=>f d k l h Q) Xd) Xd) Xd
theorem dpe_slice {e:Expr} {lo hi:Option Expr} {te:TD} {tl th:TDO} {p2:Pos} (hK:X.K=K) (he:DE X K E e te) (hl:DO X K E lo tl) (hu:DO X K E hi th):DE X K E (.Subscript e (.Slice lo hi none p2) pos) (dSl fSl te tl th):=⟨by
 subst hK
 refine qe_imp (qpe_slice sl_list he.q hl.q hu.q) fun σ H Q h=>?_
 obtain ⟨H0,ν,ρ,Qd,Xd,S,h1,q,x⟩:=h
 refine ⟨H0,ν,ρ,_,Xd,S,h1,fun d k v H1 g1 e1 r1=>?_,x⟩
 refine ⟨H0,ν,ρ,_,Xd,S.same e1,g1,fun l H2 g2 e2=>?_,x⟩
 refine ⟨H0,ν,ρ,_,Xd,S.same (e1.trans e2),g2,fun u H3 g3 e3=>?_,x⟩
 have e03:=(e1.trans e2).trans e3
 have r3:=(r1.same e2).same e3
 have hl3:=(S.same e03).hl
 cases d with
 | list ds =>
  obtain ⟨a,us,rfl,a1,a2,a3⟩:=res_list hl3 S.hl r3
  refine ⟨a,us,rfl,SqL.of a1,fun p hp=>q _ _ _ _ g3 (e03.trans (Same.new hp)) (res_newL hl3 e03 hp ?_)⟩
  refine rsl_part hl3 a3 (fun {G} hd=>?_) fun hf=>flats_iff.mpr fun d hd=>flats_iff.mp hf d (mem_of_mem_drop (mem_of_mem_take hd))
  unfold cutV cutD
  rw [hd.length]
  exact (hd.drop _).take _
 | _=>exact g3.elim⟩
def disj (s t:List Nat):Bool:=s.all fun i=>!t.contains i
def kcons (d:D) (k:Kd) (l:Kd):Kd:=match (if flat d=true then Kd.own [] else k),l with
 | .own s,.own t=>if disj s t=true then .own (s++t) else .mix
 | .own [],.old=>.old
 | .old,.own []=>.old
 | .old,.old=>.old
 | _,_=>.mix
def dNil:TDA:=fun _ Q _=>Q [] (.own [])
def dCons (ta:TD) (tr:TDA):TDA:=fun ρ Q Xd=>ta ρ (fun d k=>tr ρ (fun ds l=>Q (d::ds) (kcons d k l)) Xd) Xd
theorem RsL.old0 {Z:Addr->Prop} {ν:Nat->List Addr} {Hs H:Hp} {k:Kd} {us:List V} {ds:List D} (hl:∀ a,Hd Z ν a->Mu H a) (hn:∀ a,Hd Z ν a->Mu Hs a) (h:RsL K Z ν Hs H k us ds) (hk:k.isOld=true):Dns K (hid (Hd Z ν) H) us ds:=by
 cases k with
 | own s =>
  cases s with
  | nil =>
   obtain ⟨ms,h1,_,h3⟩:=h
   refine ows_hid hl h1 fun a ha z=>?_
   rcases h3 a ha with q|⟨j,q,_⟩
   ·obtain ⟨us,z⟩:=hn a z;rw [q] at z;cases z
   ·cases q
  | cons=>cases hk
 | old=>exact h
 | mix=>cases hk
theorem rsl_cons {Z:Addr->Prop} {ν:Nat->List Addr} {Hs H1 H2:Hp} {k l:Kd} {v:V} {d:D} {us:List V} {ds:List D} (hn:∀ a,Hd Z ν a->Mu Hs a) (dj:∀ i j a,a∈ν i->a∈ν j->i=j) (e1:Same Hs H1) (e2:Same H1 H2) (h:Res K Z ν Hs H1 k v d) (g:RsL K Z ν H1 H2 l us ds) :
  RsL K Z ν Hs H2 (kcons d k l) (v::us) (d::ds):=by
 have hl1:∀ a,Hd Z ν a->Mu H1 a:=fun a z=>by obtain ⟨us,q⟩:=hn a z;exact ⟨us,e1 _ _ q⟩
 have hl2:∀ a,Hd Z ν a->Mu H2 a:=fun a z=>by obtain ⟨us,q⟩:=hl1 a z;exact ⟨us,e2 _ _ q⟩
 have h':Res K Z ν Hs H1 (if flat d=true then Kd.own [] else k) v d:=by
  split
  ·exact Res.flat h.den ‹_› hl1 _
  ·exact h
 have all:Dns K H2 (v::us) (d::ds):=.cons (Dn.same e2 h.den) g.dens
 have old:∀ {k':Kd},Res K Z ν Hs H1 k' v d->k'.isOld=true->l.isOld=true->Dns K (hid (Hd Z ν) H2) (v::us) (d::ds):=fun {k'} r1 q1 q2=>.cons ((r1.same e2).old hl2 hn q1) (g.old0 hl2 hl1 q2)
 unfold kcons
 generalize (if flat d=true then Kd.own [] else k)=k' at h'
 split
 ·split
  case isTrue q =>
   obtain ⟨ms,a1,a2,a3⟩:=h'
   obtain ⟨ns,b1,b2,b3⟩:=g
   rename_i s t
   refine ⟨ms++ns,.cons (a1.same e2) b1,nodup_append.mpr ⟨a2,b2,fun x hx y hy e=>?_⟩,fun a ha=>?_⟩
   ·subst e
    obtain ⟨us',z1⟩:=a1.there x hx
    rcases b3 x hy with z|⟨j,hj,z⟩
    ·rw [z1] at z;cases z
    ·rcases a3 x hx with z'|⟨i,hi,z'⟩
     ·obtain ⟨us'',z''⟩:=hn x (.inr ⟨j,z⟩)
      rw [z'] at z'';cases z''
     ·have:=dj i j x z' z
      subst this
      unfold disj at q
      have:=all_eq_true.mp q i hi
      simp at this
      exact this hj
   ·rcases mem_append.mp ha with ha|ha
    ·rcases a3 a ha with z|⟨j,hj,z⟩
     ·exact .inl z
     ·exact .inr ⟨j,mem_append_left _ hj,z⟩
    ·rcases b3 a ha with z|⟨j,hj,z⟩
     ·exact .inl (e1.gone z)
     ·exact .inr ⟨j,mem_append_right _ hj,z⟩
  case isFalse=>exact all
 ·exact old h' rfl rfl
 ·exact old h' rfl rfl
 ·exact old h' rfl rfl
 ·exact all
theorem zC:DA X K E [] dNil:=⟨qa_imp qpa_nil fun σ H Q h=>by
 obtain ⟨H0,ν,ρ,Qd,Xd,S,h1,q,x⟩:=h
 exact q _ _ _ _ h1 (Same.refl H) ⟨[],.nil,nodup_nil,fun _ z=>by cases z⟩⟩
theorem zA {e:Expr} {es:List Expr} {te:TD} {t:TDA} (ha:DE X K E e te) (hr:DA X K E es t) (hs:starEach (e::es) X.env=(false,eval e X.env)::starEach es X.env:=by rfl):DA X K E (e::es) (dCons te t):=⟨qa_imp (qpa_cons ha.q hr.q hs) fun σ H Q h=>by
 obtain ⟨H0,ν,ρ,Qd,Xd,S,h1,q,x⟩:=h
 refine ⟨H0,ν,ρ,_,Xd,S,h1,fun d k v H1 g1 e1 r1=>?_,x⟩
 refine ⟨H0,ν,ρ,_,Xd,S.same e1,g1,fun ds l us H2 g2 e2 r2=>?_,x⟩
 exact q _ _ _ _ g2 (e1.trans e2) (rsl_cons S.hl S.dj e1 e2 r1 r2)⟩
def dTup (t:TDA):TD:=fun ρ Q Xd=>t ρ (fun ds k=>ds.length<=1000/\Q (.tuple ds) k) Xd
def dLst (t:TDA):TD:=fun ρ Q Xd=>t ρ (fun ds k=>ds.length<=1000/\Q (.list ds) k) Xd
theorem dpe_tup {es:List Expr} {t:TDA} {x1} (h:DA X K E es t):DE X K E (.Tuple es x1 pos) (dTup t):=⟨qe_imp (qpe_tup h.q) fun σ H Q h=>by
 obtain ⟨H0,ν,ρ,Qd,Xd,S,h1,q,x⟩:=h
 refine ⟨H0,ν,ρ,_,Xd,S,h1,fun ds k us H1 g1 e1 r1=>?_,x⟩
 refine ⟨by rw [r1.dens.length];exact Nat.le_trans g1.1 (by decide),fun p hp=>q _ _ _ _ g1.2 (e1.trans (Same.new hp)) (res_newT (S.same e1).hl e1 hp r1)⟩⟩
theorem dpe_lst {es:List Expr} {t:TDA} (h:DA X K E es t):DE X K E (.List es pos) (dLst t):=⟨qe_imp (qpe_lst h.q) fun σ H Q h=>by
 obtain ⟨H0,ν,ρ,Qd,Xd,S,h1,q,x⟩:=h
 refine ⟨H0,ν,ρ,_,Xd,S,h1,fun ds k us H1 g1 e1 r1=>?_,x⟩
 refine ⟨by rw [r1.dens.length];exact Nat.le_trans g1.1 (by decide),fun p hp=>q _ _ _ _ g1.2 (e1.trans (Same.new hp)) (res_newL (S.same e1).hl e1 hp r1)⟩⟩
end
section
variable {X:Cx} {K:W.Frag} {E:XK} {pos:Pos} {a b c e:Expr} {rest:List Expr} {ta tb tc:TD} {tA tB:TDT}
theorem dn_bool {H:Hp} {v:V} {x:Bool} (h:Dn K H v (.bool x)):v=.bl x:=by cases h;rfl
theorem dn_int {H:Hp} {v:V} {x:Int} (h:Dn K H v (.int x)):v=.int x:=by cases h;rfl
def dNeg (ta:TD):TD:=fun ρ Q Xd=>ta ρ (fun d _=>match d with|.int i=>Q (.int (-i)) .old|_=>False) Xd
theorem dpe_neg (ha:DE X K E a ta):DE X K E (.UnaryOp .USub a pos) (dNeg ta):=⟨qe_imp (qpe_un un_neg ha.q) fun σ H Q h=>by
 obtain ⟨H0,ν,ρ,Qd,Xd,S,h1,q,x⟩:=h
 refine ⟨H0,ν,ρ,_,Xd,S,h1,fun d k v H' g1 g2 g3=>?_,x⟩
 cases d with
 | int i=>exact ⟨i,dn_int g3.den,q _ _ _ _ g1 g2 (.int _)⟩
 | _=>exact g1.elim⟩
def dNotV (ta:TD):TD:=fun ρ Q Xd=>ta ρ (fun d _=>match d with|.bool i=>Q (.bool (!i)) .old|_=>False) Xd
theorem dpe_not (ha:DE X K E a ta):DE X K E (.UnaryOp .Not a pos) (dNotV ta):=⟨qe_imp (qpe_not ha.q) fun σ H Q h=>by
 obtain ⟨H0,ν,ρ,Qd,Xd,S,h1,q,x⟩:=h
 refine ⟨H0,ν,ρ,_,Xd,S,h1,fun d k v H' g1 g2 g3=>?_,x⟩
 cases d with
 | bool i=>exact ⟨i,dn_bool g3.den,q _ _ _ _ g1 g2 (.bl _)⟩
 | _=>exact g1.elim⟩
def dAndV (ta tb:TD):TD:=fun ρ Q Xd=>ta ρ (fun d _=>match d with|.bool i=>if i=true then tb ρ Q Xd else Q (.bool false) .old|_=>False) Xd
theorem dpe_one {op} (h:DE X K E a ta):DE X K E (.BoolOp op [a] pos) ta:=⟨qpe_one h.q⟩
theorem dpe_and (ha:DE X K E a ta) (hb:DE X K E (.BoolOp .And (b::rest) pos) tb):DE X K E (.BoolOp .And (a::b::rest) pos) (dAndV ta tb):=⟨qe_imp (qpe_and ha.q hb.q) fun σ H Q h=>by
 obtain ⟨H0,ν,ρ,Qd,Xd,S,h1,q,x⟩:=h
 refine ⟨H0,ν,ρ,_,Xd,S,h1,fun d k v H' g1 g2 g3=>?_,x⟩
 cases d with
 | bool i =>
  refine ⟨i,dn_bool g3.den,?_⟩
  cases i with
  | true=>exact ⟨H0,ν,ρ,Qd,Xd,S.same g2,g1,fun d k v H'' a1 a2 a3=>q d k v H'' a1 (g2.trans a2) (a3.later g2),x⟩
  | false=>exact q _ _ _ _ g1 g2 (.bl _)
 | _=>exact g1.elim⟩
def dB (ta:TD):TDT:=fun ρ Q Xd=>ta ρ (fun d _=>match d with|.bool i=>Q i|_=>False) Xd
theorem le_b:∀ {σ:L2.St} {H:Hp} {Q:Bool->Hp->Prop},LT K E (dB ta) σ H Q->L2.tB (LE K E ta) σ H Q:=fun {σ H Q} h=>by
 obtain ⟨H0,ν,ρ,Qd,Xd,S,h1,q,x⟩:=h
 refine ⟨H0,ν,ρ,_,Xd,S,h1,fun d k v H' g1 g2 g3=>?_,x⟩
 cases d with
 | bool i=>exact ⟨i,dn_bool g3.den,q _ _ g1 g2⟩
 | _=>exact g1.elim
theorem dpt_val (h:DE X K E e ta) (he:∀ whole,isTrue e X.env whole=(do let v <- whole;standAt e.pos;holding [v] (truthy v)):=by intro _;rfl):DT X K E e (dB ta):=⟨qt_imp (qpt_val h.q he) fun σ H Q h=>le_b h⟩
def truD:D->Option Bool
 | .none=>some false
 | .bool b=>some b
 | .int i=>some (!decide (i=0))
 | .str _=>Option.none
 | .list ds=>some (!ds.isEmpty)
 | .tuple ds=>some (!ds.isEmpty)
 | .dict _=>Option.none
def dTru (ta:TD):TDT:=fun ρ Q Xd=>ta ρ (fun d _=>∃ b,truD d=some b/\Q b) Xd
theorem zS {op:CmpOp} {f:F2} (ho:DOp X K (compareOp op) f) (ha:DE X K E a ta) (hb:DE X K E b tb) (hm:behindInMarks op b=false):DT X K E (.Compare a [op] [b] pos) (dB (dOp f ta tb)):=by
 obtain ⟨r,o,p⟩:=ho.ex
 refine ⟨qt_imp (qpt_cmpR o ha.q hb.q hm) fun σ H Q h=>?_⟩
 obtain ⟨H0,ν,ρ,Qd,Xd,S,h1,q,x⟩:=h
 refine le_two p σ H _ ⟨H0,ν,ρ,_,Xd,S,h1,fun d k v H' g1 g2 g3=>?_,x⟩
 cases d with
 | bool i=>exact ⟨i,dn_bool g3.den,q _ _ g1 g2⟩
 | _=>exact g1.elim
def dOr (tA tB:TDT):TDT:=fun ρ Q Xd=>tA ρ (fun b=>if b=true then Q true else tB ρ Q Xd) Xd
def dNot (tA:TDT):TDT:=fun ρ Q Xd=>tA ρ (fun b=>Q (!b)) Xd
theorem dPWpt (h:DW X K E e tA):DT X K E e tA:=⟨qPWpt h.q⟩
theorem dpw_or1 (ha:DT X K E a tA):DW X K E (.BoolOp .Or [a] pos) tA:=⟨qpw_or1 ha.q⟩
theorem lt_or:∀ σ H Q,LT K E (dOr tA tB) σ H Q->tOr (LT K E tA) (LT K E tB) σ H Q:=fun σ H Q h=>by
 obtain ⟨H0,ν,ρ,Qd,Xd,S,h1,q,x⟩:=h
 refine ⟨H0,ν,ρ,_,Xd,S,h1,fun b H' g1 g2=>?_,x⟩
 cases b with
 | false=>exact ⟨H0,ν,ρ,Qd,Xd,S.same g2,g1,fun b H'' a1 a2=>q b H'' a1 (g2.trans a2),x⟩
 | true=>exact q _ _ g1 g2
theorem dpw_or (ha:DT X K E a tA) (hb:DW X K E (.BoolOp .Or (b::rest) pos) tB):DW X K E (.BoolOp .Or (a::b::rest) pos) (dOr tA tB):=⟨qw_imp (qpw_or ha.q hb.q) lt_or⟩
theorem dpt_not (ha:DT X K E a tA):DT X K E (.UnaryOp .Not a pos) (dNot tA):=⟨qt_imp (qpt_not ha.q) fun σ H Q h=>by
 obtain ⟨H0,ν,ρ,Qd,Xd,S,h1,q,x⟩:=h
 exact ⟨H0,ν,ρ,_,Xd,S,h1,fun b H' g1 g2=>q _ _ g1 g2,x⟩⟩
def dChain (f g:Int->Int->Bool) (ta tb tc:TD):TD:=fun ρ Q Xd=>ta ρ (fun x _=>tb ρ (fun y _=>match x,y with
 | .int i,.int j=>if f i j=true then tc ρ (fun z _=>match z with|.int l=>Q (.bool (g j l)) .old|_=>False) Xd else Q (.bool false) .old
 | _,_=>False) Xd) Xd
theorem le_chain {f g:Int->Int->Bool}:∀ σ H Q,LE K E (dChain f g ta tb tc) σ H Q->tChain (rI0 fun i j=>.bl (f i j)) (rI0 fun i j=>.bl (g i j)) (LE K E ta) (LE K E tb) (LE K E tc) σ H Q:=fun σ H Q h=>by
 obtain ⟨H0,ν,ρ,Qd,Xd,S,h1,q,x⟩:=h
 refine ⟨H0,ν,ρ,_,Xd,S,h1,fun d k v H1 g1 e1 r1=>?_,x⟩
 refine ⟨H0,ν,ρ,_,Xd,S.same e1,g1,fun d2 k2 v2 H2 g2 e2 r2=>?_,x⟩
 cases d with
 | int i =>
  cases d2 with
  | int j =>
   refine ⟨i,j,dn_int r1.den,dn_int r2.den,_,rfl,?_⟩
   cases hf:f i j with
   | true =>
    rw [if_pos rfl]
    refine ⟨H0,ν,ρ,_,Xd,S.same (e1.trans e2),(by simp only [hf,if_true] at g2;exact g2),fun d3 k3 v3 H3 g3 e3 r3=>?_,x⟩
    cases d3 with
    | int l=>exact ⟨j,l,dn_int r2.den,dn_int r3.den,q _ _ _ _ g3 ((e1.trans e2).trans e3) (.bl _)⟩
    | _=>exact g3.elim
   | false =>
    rw [if_neg Bool.false_ne_true]
    exact q (.bool false) .old _ _ (by simpa only [hf,if_neg Bool.false_ne_true] using g2) (e1.trans e2) (.bl _)
  | _=>exact g2.elim
 | _=>exact g2.elim
theorem dpt_chain {op op':CmpOp} {f g:Int->Int->Bool} (ho:OpR X (compareOp op) (rI0 fun i j=>.bl (f i j))) (ho':OpR X (compareOp op') (rI0 fun i j=>.bl (g i j))) (ha:DE X K E a ta) (hb:DE X K E b tb) (hc:DE X K E c tc)
  (hm:lastMarks [op,op'] [b,c]=false:=by with_unfolding_all rfl):DT X K E (.Compare a [op,op'] [b,c] pos) (dB (dChain f g ta tb tc)):=⟨qt_imp (qpt_chain ho ho' ha.q hb.q hc.q hm) fun σ H Q h=>by
 obtain ⟨H0,ν,ρ,Qd,Xd,S,h1,q,x⟩:=h
 refine le_chain σ H _ ⟨H0,ν,ρ,_,Xd,S,h1,fun d k v H' g1 g2 g3=>?_,x⟩
 cases d with
 | bool i=>exact ⟨i,dn_bool g3.den,q _ _ g1 g2⟩
 | _=>exact g1.elim⟩
abbrev SpD:=List D->(D->Bool->Prop)->XD->Prop
def RR (K:W.Frag) (H H':Hp):Bool->V->D->Prop
 | true,v,d=>∃ ms,Ow K H' v d ms/\ms.Nodup/\∀ a∈ms,H a=none
 | false,v,d=>Dn K H' v d
def SpL (K:W.Frag) (sp:SpD):Sp:=fun vs H Q E=>∃ ds Qd Xd,Dns K H vs ds/\sp ds Qd Xd/\(∀ d o v H',Qd d o->Same H H'->RR K H H' o v d->Q v H')/\∀ C H',Xd C->Same H H'->E (.ref C) none H'
def kRet (o:Bool):Kd:=if o=true then .own [] else .mix
def dCall (sp:SpD) (t:TDA):TD:=fun ρ Q Xd=>t ρ (fun ds _=>sp ds (fun d o=>Q d (kRet o)) Xd) Xd
theorem rr_res {Z:Addr->Prop} {ν:Nat->List Addr} {Hs H H':Hp} {o:Bool} {v:V} {d:D} (e:Same Hs H) (h:RR K H H' o v d):Res K Z ν Hs H' (kRet o) v d:=by
 cases o with
 | true=>obtain ⟨ms,h1,h2,h3⟩:=h;exact ⟨ms,h1,h2,fun a ha=>.inl (e.gone (h3 a ha))⟩
 | false=>exact h
theorem le_call {sp:SpD} {t:TDA}:∀ σ H Q,LE K E (dCall sp t) σ H Q->LA K E t σ H fun vs H1=>SpL K sp vs H1 Q E:=fun σ H Q h=>by
 obtain ⟨H0,ν,ρ,Qd,Xd,S,h1,q,x⟩:=h
 refine ⟨H0,ν,ρ,_,Xd,S,h1,fun ds k vs H1 g1 e1 r1=>?_,x⟩
 exact ⟨ds,_,Xd,r1.dens,g1,fun d o v H' a1 a2 a3=>q _ _ _ _ a1 (e1.trans a2) (rr_res e1 a3),fun C H' a1 a2=>x C H' a1 ((S.sm.trans e1).trans a2)⟩
def dCall0 (sp:SpD) (t:TDA):TD:=fun ρ Q Xd=>t ρ (fun ds _=>sp ds (fun d o=>Q d (kRet o)) (fun _=>False)) Xd
theorem le_call0 {sp:SpD} {t:TDA}:∀ σ H Q,LE K E (dCall0 sp t) σ H Q->LA K E t σ H fun vs H1=>SpL K sp vs H1 Q E0:=fun σ H Q h=>by
 obtain ⟨H0,ν,ρ,Qd,Xd,S,h1,q,x⟩:=h
 refine ⟨H0,ν,ρ,_,Xd,S,h1,fun ds k vs H1 g1 e1 r1=>?_,x⟩
 exact ⟨ds,_,_,r1.dens,g1,fun d o v H' a1 a2 a3=>q _ _ _ _ a1 (e1.trans a2) (rr_res e1 a3),fun C H' z _=>z.elim⟩
theorem zK {x:Str} {ps:List Str} {k:Nat} {sp:SpD} {p:Pos} {es:List Expr} {t:TDA} (D:Df X.prog X.w X.K X.mg X.base x ps k (SpL K sp)) (hr:Room k X.A) (ha:DA X K E (e::es) t) (hg:Gl X x:=by rfl) (hdb:(x==("__debug__":Str))=false:=by decide)
  (he:starEach (e::es) X.env=(false,eval e X.env)::starEach es X.env:=by rfl) (hpl:(backTo pos (starEach es X.env)).any (·.1)=false:=by rfl):DE X K E (.Call (.Name x p) (e::es) [] pos) (dCall0 sp t) :=
 ⟨qe_imp (qpe_df D hr ha.q hg hdb he hpl) fun σ H Q h=>by
  show LA K E t σ H fun vs H1=>SpL K sp (vs++[]) H1 Q E0
  simp only [append_nil]
  exact le_call0 σ H Q h⟩
theorem dpe_dfE {x:Str} {ps:List Str} {k:Nat} {sp:SpD} {p:Pos} {es:List Expr} {t:TDA} (D:DfE X.prog X.w X.K X.mg X.base x ps k (SpL K sp)) (hx:Passes (CXE X.prog X.w X.base) X E) (hr:Room k X.A) (ha:DA X K E (e::es) t) (hg:Gl X x:=by rfl) (hdb:(x==("__debug__":Str))=false:=by decide)
  (he:starEach (e::es) X.env=(false,eval e X.env)::starEach es X.env:=by rfl) (hpl:(backTo pos (starEach es X.env)).any (·.1)=false:=by rfl):DE X K E (.Call (.Name x p) (e::es) [] pos) (dCall sp t) :=
 ⟨qe_imp (qpe_dfE D hx hr ha.q hg hdb he hpl) fun σ H Q h=>by
  show LA K E t σ H fun vs H1=>SpL K sp (vs++[]) H1 Q E
  simp only [append_nil]
  exact le_call σ H Q h⟩
abbrev FA:=List D->Kd->QD->Prop
def PrimA (K:W.Frag) (r:List V->Hp->VK->Prop) (f:FA):Prop:=∀ (Z:Addr->Prop) (ν:Nat->List Addr) (Hs H:Hp) (xs:List V) (ds:List D) (k:Kd) (Qf:QD) (Q:VK),(∀ a,Hd Z ν a->Mu H a)->(∀ a,Hd Z ν a->Mu Hs a)->Same Hs H->RsL K Z ν Hs H k xs ds ->
 f ds k Qf->(∀ d k v H',Qf d k->Same H H'->Res K Z ν Hs H' k v d->Q v H')->r xs H Q
structure DCl (X:Cx) (K:W.Frag) (f:Value) (g:FA):Prop where
 ex:∃ r,CallR X f r/\PrimA K r g
def dCB (g:FA) (t:TDA):TD:=fun ρ Q Xd=>t ρ (fun ds k=>g ds k Q) Xd
theorem le_cb {r:List V->Hp->VK->Prop} {g:FA} {t:TDA} (p:PrimA K r g):∀ σ H Q,LE K E (dCB g t) σ H Q->tCB r (LA K E t) σ H Q:=fun σ H Q h=>by
 obtain ⟨H0,ν,ρ,Qd,Xd,S,h1,q,x⟩:=h
 refine ⟨H0,ν,ρ,_,Xd,S,h1,fun ds k vs H1 g1 e1 r1=>?_,x⟩
 exact p Z0 ν H H1 vs ds k _ _ (S.same e1).hl S.hl e1 r1 g1 fun d k v H' a1 a2 a3=>q d k v H' a1 (e1.trans a2) a3
theorem zG {id:String} {g:FA} {x:Str} {p:Pos} {es:List Expr} {t:TDA} (hc:DCl X K (.builtin id) g) (hg:Gl X x) (hm:X.mg x=none) (hv:bootBuiltins x=some (.builtin id)) (ha:DA X K E (e::es) t) (hn:x≠"__name__":=by decide) (hdb:(x==("__debug__":Str))=false:=by decide)
  (he:starEach (e::es) X.env=(false,eval e X.env)::starEach es X.env:=by rfl) (hpl:(backTo pos (starEach es X.env)).any (·.1)=false:=by rfl):DE X K E (.Call (.Name x p) (e::es) [] pos) (dCB g t):=by
 obtain ⟨r,c,pr⟩:=hc.ex
 exact ⟨qe_imp (qpe_callB c hg hm hv ha.q hn hdb he hpl) (le_cb pr)⟩
theorem zH {T:String} {g:FA} {x:Str} {p:Pos} {es:List Expr} {t:TDA} (hc:DCl X K (.type T) g) (hg:Gl X x) (hm:X.mg x=none) (hv:bootBuiltins x=some (.type T)) (ha:DA X K E (e::es) t) (hn:x≠"__name__":=by decide) (hdb:(x==("__debug__":Str))=false:=by decide)
  (he:starEach (e::es) X.env=(false,eval e X.env)::starEach es X.env:=by rfl) (hpl:(backTo pos (starEach es X.env)).any (·.1)=false:=by rfl):DE X K E (.Call (.Name x p) (e::es) [] pos) (dCB g t):=by
 obtain ⟨r,c,pr⟩:=hc.ex
 exact ⟨qe_imp (qpe_callTy c hg hm hv ha.q hn hdb he hpl) (le_cb pr)⟩
theorem dns1 {H:Hp} {xs:List V} {d:D} (h:Dns K H xs [d]):∃ v,xs=[v]/\Dn K H v d:=by
 cases h with
 | cons h r=>cases r;exact ⟨_,rfl,h⟩
theorem dns2 {H:Hp} {xs:List V} {d e:D} (h:Dns K H xs [d,e]):∃ v w',xs=[v,w']/\Dn K H v d/\Dn K H w' e:=by
 cases h with
 | cons h r=>obtain ⟨v,rfl,g⟩:=dns1 r;exact ⟨_,_,rfl,h,g⟩
def fLen:FA:=fun ds _ Q=>match ds with
 | [.list xs]=>Q (.int xs.length) .old
 | [.tuple xs]=>Q (.int xs.length) .old
 | [.dict [(.none,.list xs)]]=>Q (.int xs.length) .old
 | _=>False
theorem dns_of_scr {H:Hp} {v:V} {ds:List D} (h:Dn K H v (.dict [(.none,.list ds)])):∃ (a:Addr) (ns:List Int),v=.ref a/\SqL K H a (ns.map V.int)/\ds=ns.map PyData.int:=by
 cases h with
 | scr ns h=>exact ⟨_,_,rfl,h,rfl⟩
theorem dcl_len (hK:X.K=K):DCl X K (.builtin "len") fLen:=⟨_,call_lenK K hK,fun Z ν Hs H xs ds k Qf Q _ _ _ h g q=>by
 unfold fLen at g
 split at g
 ·obtain ⟨v,rfl,h1⟩:=dns1 h.dens
  obtain ⟨a,us,rfl,g1,g2⟩:=dns_of_lst h1
  exact ⟨a,us,rfl,.inl (SqL.of g1),q _ _ _ _ g (Same.refl H) (by rw [g2.length];exact .int _)⟩
 ·obtain ⟨v,rfl,h1⟩:=dns1 h.dens
  obtain ⟨a,us,rfl,g1,g2⟩:=dns_of_tup h1
  exact ⟨a,us,rfl,.inr g1,q _ _ _ _ g (Same.refl H) (by rw [g2.length];exact .int _)⟩
 ·obtain ⟨v,rfl,h1⟩:=dns1 h.dens
  obtain ⟨a,ns,rfl,g1,rfl⟩:=dns_of_scr h1
  exact ⟨a,_,rfl,.inl g1,q _ _ _ _ g (Same.refl H) (by rw [length_map,length_map];exact .int _)⟩
 ·exact g.elim⟩
def intsD:List D->Option (List Int)
 | []=>some []
 | .int i::r=>(intsD r).map (i::·)
 | _=>Option.none
def boolsD:List D->Option (List Bool)
 | []=>some []
 | .bool i::r=>(boolsD r).map (i::·)
 | _=>Option.none
theorem dns_ints {H:Hp}:∀ {us:List V} {ds:List D} {ns:List Int},Dns K H us ds->intsD ds=some ns->us=ns.map V.int
 | _,_,_,.nil,e=>by cases e;rfl
 | _,_,ns,.cons h r,e=>by
  cases h<;>first|(simp only [dctD,intsD] at e;first|cases e|(rw [Option.map_eq_some_iff] at e;obtain ⟨ms,e1,rfl⟩:=e;rw [dns_ints r e1];rfl))
theorem dns_bools {H:Hp}:∀ {us:List V} {ds:List D} {ns:List Bool},Dns K H us ds->boolsD ds=some ns->us=ns.map V.bl
 | _,_,_,.nil,e=>by cases e;rfl
 | _,_,ns,.cons h r,e=>by
  cases h<;>first|(simp only [dctD,boolsD] at e;first|cases e|(rw [Option.map_eq_some_iff] at e;obtain ⟨ms,e1,rfl⟩:=e;rw [dns_bools r e1];rfl))
def fSum:FA:=fun ds _ Q=>match ds with
 | [.list xs]=>∃ ns,intsD xs=some ns/\Q (.int ns.sum) .old
 | _=>False
def fBls (f:List Bool->Bool):FA:=fun ds _ Q=>match ds with
 | [.list xs]=>∃ ns,boolsD xs=some ns/\Q (.bool (f ns)) .old
 | _=>False
theorem dcl_all (hK:X.K=K) (hc:X.calm=true):DCl X K (.builtin "all") (fBls fun l=>l.all id):=⟨_,call_allK K hK hc,fun Z ν Hs H xs ds k Qf Q _ _ _ h g q=>by
 unfold fBls at g
 split at g
 ·obtain ⟨v,rfl,h1⟩:=dns1 h.dens
  obtain ⟨a,us,rfl,g1,g2⟩:=dns_of_lst h1
  obtain ⟨ns,e,g⟩:=g
  exact ⟨a,ns,rfl,SqL.of (by rw [g1,dns_bools g2 e]),q _ _ _ _ g (Same.refl H) (.bl _)⟩
 ·exact g.elim⟩
theorem dcl_any (hK:X.K=K) (hc:X.calm=true):DCl X K (.builtin "any") (fBls fun l=>l.any id):=⟨_,call_anyK K hK hc,fun Z ν Hs H xs ds k Qf Q _ _ _ h g q=>by
 unfold fBls at g
 split at g
 ·obtain ⟨v,rfl,h1⟩:=dns1 h.dens
  obtain ⟨a,us,rfl,g1,g2⟩:=dns_of_lst h1
  obtain ⟨ns,e,g⟩:=g
  exact ⟨a,ns,rfl,SqL.of (by rw [g1,dns_bools g2 e]),q _ _ _ _ g (Same.refl H) (.bl _)⟩
 ·exact g.elim⟩
theorem rsl_one {Z:Addr->Prop} {ν:Nat->List Addr} {Hs H:Hp} {k:Kd} {v:V} {d:D} (h:RsL K Z ν Hs H k [v] [d]):Res K Z ν Hs H k v d:=by
 cases k with
 | own s =>
  obtain ⟨ms,h1,h2,h3⟩:=h
  cases h1 with
  | cons h r=>cases r;rw [append_nil] at h2 h3;exact ⟨_,h,h2,h3⟩
 | old=>cases (show Dns K _ [v] [d] from h) with|cons h r=>exact h
 | mix=>cases (show Dns K _ [v] [d] from h) with|cons h r=>exact h
def fList:FA:=fun ds k Q=>match ds with
 | [.list xs]=>Q (.list xs) (kels xs k)
 | _=>False
theorem dcl_list (hK:X.K=K):DCl X K (.type "list") fList:=⟨_,call_listK K hK,fun Z ν Hs H xs ds k Qf Q hl hn hs h g q=>by
 unfold fList at g
 split at g
 ·obtain ⟨v,rfl,_⟩:=dns1 h.dens
  obtain ⟨a,us,rfl,g1,g2,g3⟩:=res_list hl hn (rsl_one h)
  exact ⟨a,us,rfl,.inl (SqL.of g1),fun p hp=>q _ _ _ _ g (Same.new hp) (res_newL hl hs hp g3)⟩
 ·exact g.elim⟩
def fMin:FA:=fun ds _ Q=>match ds with
 | [.int i,.int j]=>Q (.int (if j < i then j else i)) .old
 | [.list xs]=>∃ ns,intsD xs=some ns/\ns≠[]/\∀ m,m∈ns->(∀ x∈ns,m<=x)->Q (.int m) .old
 | _=>False
def fMax:FA:=fun ds _ Q=>match ds with
 | [.int i,.int j]=>Q (.int (if j > i then j else i)) .old
 | [.list xs]=>∃ ns,intsD xs=some ns/\ns≠[]/\∀ m,m∈ns->(∀ x∈ns,x<=m)->Q (.int m) .old
 | _=>False
theorem callR_or {f:Value} {r r':List V->Hp->VK->Prop} (h:CallR X f r) (h':CallR X f r'):CallR X f (fun x H Q=>r x H Q\/r' x H Q):=by
 intro pins s σ H xs us Q I rv h
 rcases h with h1|h1
 ·exact h pins s σ H xs us Q I rv h1
 ·exact h' pins s σ H xs us Q I rv h1
theorem dcl_max (hK:X.K=K) (hc:X.calm=true):DCl X K (.builtin "max") fMax:=⟨_,callR_or (call_max2 hc) (call_maxLK K hK hc),fun Z ν Hs H xs ds k Qf Q hl hn hs h g q=>by
 unfold fMax at g
 split at g
 ·obtain ⟨v,w',rfl,h1,h2⟩:=dns2 h.dens
  exact .inl ⟨_,_,by rw [dn_int h1,dn_int h2],q _ _ _ _ g (Same.refl H) (.int _)⟩
 ·obtain ⟨v,rfl,h1⟩:=dns1 h.dens
  obtain ⟨a,us,rfl,g1,g2⟩:=dns_of_lst h1
  obtain ⟨ns,e,ne,g⟩:=g
  exact .inr ⟨a,ns,rfl,SqL.of (by rw [g1,dns_ints g2 e]),ne,fun m m1 m2=>q _ _ _ _ (g m m1 m2) (Same.refl H) (.int _)⟩
 ·exact g.elim⟩
def tyN:D->String
 | .none=>"NoneType"
 | .bool _=>"bool"
 | .int _=>"int"
 | .str _=>"str"
 | .list _=>"list"
 | .tuple _=>"tuple"
 | .dict _=>"dict"
def isInt:D->Bool
 | .int _=>true
 | .bool _=>true
 | _=>false
def isBool:D->Bool
 | .bool _=>true
 | _=>false
def isList:D->Bool
 | .list _=>true
 | _=>false
def noDict:D->Bool
 | .dict _=>false
 | _=>true
def KitT (K:W.Frag) (T:String) (f:D->Bool):Prop:=∀ d,noDict d=true->PySem.W.kitOne K (.type (tyN d)) (.type T)=some (f d)
theorem kit_int:KitT K "int" isInt:=by intro d h;cases d<;>first|rfl|simp [noDict] at h
theorem kit_bool:KitT K "bool" isBool:=by intro d h;cases d<;>first|rfl|simp [noDict] at h
def rIsD (K:W.Frag) (T:String) (f:D->Bool):List V->Hp->VK->Prop:=fun xs H Q=>∃ x d,xs=[x,.ty T]/\Dn K H x d/\noDict d=true/\Q (.bl (f d)) H
theorem call_isD {T:String} {f:D->Bool} (hK:X.K=K) (kt:KitT K T f):CallR X (.builtin "isinstance") (rIsD K T f):=by
 subst hK
 intro pins s σ H xs us Q I r h
 obtain ⟨x,d,rfl,hd,nd,q⟩:=h
 obtain ⟨u,w',rfl,r1,r2⟩:=vals2 r
 cases r2
 have k:=kt d nd
 cases hd with
 | non=>exact isinst_ok I r1 .non k fun tk=>⟨.bl _,H,I.tok _,rfl,q⟩
 | bl i=>exact isinst_ok I r1 (.bl _) k fun tk=>⟨.bl _,H,I.tok _,rfl,q⟩
 | int i=>exact isinst_ok I r1 (.int _) k fun tk=>⟨.bl _,H,I.tok _,rfl,q⟩
 | str i=>exact isinst_ok I r1 (.str _) k fun tk=>⟨.bl _,H,I.tok _,rfl,q⟩
 | lst h _=>exact isinst_ok I r1 (.lst h) k fun tk=>⟨.bl _,H,I.tok _,rfl,q⟩
 | tup h _ =>
  cases r1
  obtain ⟨its,rv,⟨o,e,c,n,d⟩,_⟩:=I.tuple h
  exact PySem.W.kia_one PySem.W.kitx_tuple I.kIn ⟨o,e,c⟩ k (fun z=>nomatch z) fun tk=>⟨.bl _,H,I.tok _,rfl,q⟩
 | scr _ _=>cases nd
 | opq _=>cases nd
 | dct _ _=>cases nd
 | dcf _ _=>cases nd
def dIs (f:D->Bool) (ta:TD):TD:=fun ρ Q Xd=>ta ρ (fun d _=>noDict d=true/\Q (.bool (f d)) .old) Xd
theorem dpe_isi {T:String} {f:D->Bool} {y:Str} {p p2:Pos} (hK:X.K=K) (kt:KitT K T f) (hg:Gl X "isinstance") (hm:X.mg "isinstance"=none) (ha:DE X K E a ta) (hg2:Gl X y) (hm2:X.mg y=none) (hv2:bootBuiltins y=some (.type T)) (hn:y≠"__name__":=by decide) (hd:(y==("__debug__":Str))=false:=by decide)
  (he:starEach [a,.Name y p2] X.env=(false,eval a X.env)::starEach [.Name y p2] X.env:=by rfl) (hpl:(backTo pos (starEach [.Name y p2] X.env)).any (·.1)=false:=by rfl):DE X K E (.Call (.Name "isinstance" p) [a,.Name y p2] [] pos) (dIs f ta) :=
 ⟨qe_imp (qpe_callB (call_isD hK kt) hg hm (by decide +kernel) (qpa_cons ha.q (hs:=he) (qpa_cons (qpe_bltn (v:=.ty T) hg2 hm2 hv2 rfl hn hd) qpa_nil)) (by decide) (by decide) he hpl) fun σ H Q h=>by
  obtain ⟨H0,ν,ρ,Qd,Xd,S,h1,q,x⟩:=h
  refine ⟨H0,ν,ρ,_,Xd,S,h1,fun d k v H' g1 g2 g3=>?_,x⟩
  exact ⟨v,d,rfl,g3.den,g1.1,q _ _ _ _ g1.2 g2 (.bl _)⟩⟩
def scalD:D->Bool
 | .none=>true
 | .bool _=>true
 | .int _=>true
 | .str _=>true
 | _=>false
theorem flatV_of {H:Hp} {v:V} {d:D} (h:Dn K H v d) (s:scalD d=true):flatV v=true:=by
 cases h<;>first|rfl|simp [scalD,dctD] at s
theorem eqV_of {H:Hp} {v u:V} {d e:D} (h:Dn K H v d) (g:Dn K H u e) (s:scalD d=true) (t:scalD e=true):eqV v u=PyData.eqv d e:=by
 cases h<;>first|(simp [scalD,dctD] at s;done)|(cases g<;>first|(simp [scalD,dctD] at t;done)|rfl|(simp [eqV,PyData.eqv];done))
def inD (x:D) (xs:List D):Bool:=xs.any fun y=>PyData.eqv y x
def fIn (f:Bool->Bool):F2:=fun d _ e _ Q=>scalD d=true/\match e with
 | .list es=>es.all scalD=true/\Q (.bool (f (inD d es))) .old
 | .tuple es=>es.all scalD=true/\Q (.bool (f (inD d es))) .old
 | _=>False
theorem in_items {H:Hp} {v:V} {d:D} (h:Dn K H v d) (s:scalD d=true):∀ {us:List V} {es:List D},Dns K H us es->es.all scalD=true->us.all flatV=true/\inV v us=inD d es
 | _,_,.nil,_=>⟨rfl,rfl⟩
 | _,_,.cons g r,t=>by
  rw [all_cons,Bool.and_eq_true] at t
  obtain ⟨h1,h2⟩:=in_items h s r t.2
  refine ⟨by rw [all_cons,flatV_of g t.1,h1];rfl,?_⟩
  unfold inV inD at h2 ⊢
  rw [any_cons,any_cons,h2,eqV_of g h t.1 s]
theorem prim_in {neg:Bool} {f:Bool->Bool} (hf:∀ b,f b=if neg then !b else b):Prim2 K (rIn K neg) (fIn f):=fun Z ν Hs H x y d k e l Qf Q _ _ _ h3 h4 h5 h6=>by
 obtain ⟨h0,h5⟩:=h5
 split at h5
 ·obtain ⟨a,us,rfl,g1,g2⟩:=dns_of_lst h4.den
  obtain ⟨q1,q2⟩:=in_items h3.den h0 g2 h5.1
  refine ⟨a,us,rfl,.inl (SqL.of g1),flatV_of h3.den h0,q1,h6 _ _ _ _ h5.2 (Same.refl H) ?_⟩
  rw [q2,hf];cases neg<;>exact .bl _
 ·obtain ⟨a,us,rfl,g1,g2⟩:=dns_of_tup h4.den
  obtain ⟨q1,q2⟩:=in_items h3.den h0 g2 h5.1
  refine ⟨a,us,rfl,.inr g1,flatV_of h3.den h0,q1,h6 _ _ _ _ h5.2 (Same.refl H) ?_⟩
  rw [q2,hf];cases neg<;>exact .bl _
 ·exact h5.elim
theorem dop_in (hK:X.K=K):DOp X K (compareOp .In) (fIn id):=⟨_,op_inK K hK,prim_in fun b=>rfl⟩
theorem dop_notin (hK:X.K=K):DOp X K (compareOp .NotIn) (fIn not):=⟨_,op_notInK K hK,prim_in fun b=>rfl⟩
theorem dpt_truth {e:Expr} (hK:X.K=K) (h:DE X K E e ta) (he:∀ whole,isTrue e X.env whole=(do let v <- whole;standAt e.pos;holding [v] (truthy v)):=by intro _;rfl):DT X K E e (dTru ta):=⟨by
 subst hK
 refine qt_imp ⟨pt_truth h.q.h he⟩ fun σ H Q h=>?_
 obtain ⟨H0,ν,ρ,Qd,Xd,S,h1,q,x⟩:=h
 refine ⟨H0,ν,ρ,_,Xd,S,h1,fun d k v H' g1 g2 g3=>?_,x⟩
 obtain ⟨b,e1,e2⟩:=g1
 refine ⟨b,?_,q _ _ e2 g2⟩
 have:=g3.den
 cases this with
 | non=>cases e1;exact rfl
 | bl i=>cases e1;exact rfl
 | int i=>cases e1;exact rfl
 | str i=>cases e1
 | lst h r=>cases e1;exact .inl ⟨_,SqL.of h,by cases r<;>rfl⟩
 | tup h r=>cases e1;exact .inr (.inl ⟨_,h,by cases r<;>rfl⟩)
 | scr _ _=>cases e1
 | opq _=>cases e1
 | dct _ _=>cases e1
 | dcf _ _=>cases e1⟩
end
structure EndsD where
 nx:Ren->Prop
 rt:D->Bool->Prop
 bk:Ren->Prop:=fun _=>False
 ct:Ren->Prop:=fun _=>False
abbrev TSD:=EndsD->Ren->XD->Prop
structure EndsOk (K:W.Frag) (H0:Hp) (En:Ends) (Dd:EndsD):Prop where
 nx:∀ ν ρ σ H,Dd.nx ρ->StOk K Z0 H0 ν ρ σ H->En.nx σ H
 bk:∀ ν ρ σ H,Dd.bk ρ->StOk K Z0 H0 ν ρ σ H->En.bk σ H
 ct:∀ ν ρ σ H,Dd.ct ρ->StOk K Z0 H0 ν ρ σ H->En.ct σ H
 rt:∀ d o v H,Dd.rt d o->Same H0 H->RR K H0 H o v d->En.rt v H
def LS (K:W.Frag) (E:XK) (t:TSD):TS:=fun En σ H=>∃ H0 ν ρ Dd Xd,StOk K Z0 H0 ν ρ σ H/\t Dd ρ Xd/\EndsOk K H0 En Dd/\∀ C H',Xd C->Same H0 H'->E (.ref C) none H'
structure DS (X:Cx) (K:W.Frag) (E:XK) (s:Stmt) (t:TSD):Prop where
 q:QS X s (LS K E t)
structure DSs (X:Cx) (K:W.Frag) (E:XK) (s:List Stmt) (t:TSD):Prop where
 q:QSs X s (LS K E t)
def setK (ρ:Ren) (i:Nat) (d:D) (k:Kd):Ren:=if flat d=true then ρ.set i (some (false,d)) else match k with
 | .own s=>(dropS ρ s).set i (some (true,d))
 | .old=>ρ.set i (some (false,d))
 | .mix=>(frz ρ).set i (some (false,d))
section
variable {K:W.Frag} {H0 H H':Hp} {ν:Nat->List Addr} {ρ:Ren} {σ:L2.St} {v:V} {d:D} {k:Kd}
theorem hid_z0 {H:Hp}:Same H (hid (Hd Z0 fun _=>[]) H):=fun a o h=>hid_of h fun z=>by
 rcases z with z|⟨_,z⟩
 ·exact z
 ·cases z
theorem StOk.setK (S:StOk K Z0 H0 ν ρ σ H) (e:Same H H') (h:Res K Z0 ν H H' k v d) (i:Nat):∃ ν',StOk K Z0 H0 ν' (setK ρ i d k) (σ.set i (some v)) H':=by
 unfold DL.setK
 split
 ·exact ⟨_,(S.same e).setOld i (den_hid (S.same e).hl h.den ‹_›)⟩
 ·cases k with
  | own s =>
   obtain ⟨ms,h1,h2,h3⟩:=h
   exact ⟨_,S.setOwn s i e h1 h2 h3⟩
  | old=>exact ⟨_,(S.same e).setOld i h⟩
  | mix=>exact ⟨_,(S.same e).frz.setOld i (Dn.same hid_z0 h)⟩
def rtK (d:D) (k:Kd):Bool:=flat d||match k with
 | .own _=>true
 | _=>false
theorem rr_of (S:StOk K Z0 H0 ν ρ σ H) (e:Same H H') (h:Res K Z0 ν H H' k v d):RR K H0 H' (rtK d k) v d:=by
 unfold rtK
 cases hf:flat d with
 | true=>exact ⟨[],ow_flat h.den hf,nodup_nil,fun _ z=>by cases z⟩
 | false =>
  cases k with
  | own s =>
   obtain ⟨ms,h1,h2,h3⟩:=h
   refine ⟨ms,h1,h2,fun a ha=>?_⟩
   rcases h3 a ha with z|⟨j,_,z⟩
   ·exact S.sm.gone z
   ·exact (S.fr j a z).1
  | old=>exact Dn.same hid_same h
  | mix=>exact h
theorem StOk.low {Z:Addr->Prop} {H1:Hp} (S:StOk K Z H1 ν ρ σ H) (e:Same H0 H1):StOk K Z H0 ν ρ σ H :=
 ⟨e.trans S.sm,S.len,S.sl,S.nd,S.dj,fun i a h=>⟨e.gone (S.fr i a h).1,(S.fr i a h).2⟩,fun a h=>⟨e.gone (S.zf a h).1,(S.zf a h).2⟩⟩
theorem StOk.base {Z:Addr->Prop} (S:StOk K Z H0 ν ρ σ H):Same H0 (hid (Hd Z ν) H):=fun a o h=>hid_of (S.sm a o h) fun z=>by
 rcases z with z|⟨i,z⟩
 ·rw [(S.zf a z).1] at h;cases h
 ·rw [(S.fr i a z).1] at h;cases h
theorem StOk.high {Z:Addr->Prop} (S:StOk K Z H0 ν ρ σ H):StOk K Z (hid (Hd Z ν) H) ν ρ σ H :=
 ⟨hid_same,S.len,S.sl,S.nd,S.dj,fun i a h=>⟨by unfold hid;rw [if_pos (.inr ⟨i,h⟩)],(S.fr i a h).2⟩,fun a h=>⟨by unfold hid;rw [if_pos (.inl h)],(S.zf a h).2⟩⟩
theorem RR.low {H1:Hp} {o:Bool} (h:RR K H1 H o v d) (e:Same H0 H1):RR K H0 H o v d:=by
 cases o with
 | true=>obtain ⟨ms,h1,h2,h3⟩:=h;exact ⟨ms,h1,h2,fun a ha=>e.gone (h3 a ha)⟩
 | false=>exact h
theorem EndsOk.high {En:Ends} {Dd:EndsD} {H1:Hp} (h:EndsOk K H0 En Dd) (e:Same H0 H1):EndsOk K H1 En Dd :=
 ⟨fun ν ρ σ H a S=>h.nx ν ρ σ H a (S.low e),fun ν ρ σ H a S=>h.bk ν ρ σ H a (S.low e),fun ν ρ σ H a S=>h.ct ν ρ σ H a (S.low e),fun d o v H a b c=>h.rt d o v H a (e.trans b) (c.low e)⟩
end
section
variable {X:Cx} {K:W.Frag} {E:XK} {pos:Pos} {a b c e:Expr} {te:TD} {tA:TDT} {t u:TSD}
def dSet (i:Nat) (te:TD):TSD:=fun Dd ρ Xd=>te ρ (fun d k=>Dd.nx (setK ρ i d k)) Xd
theorem dpset (i:Nat) {x:Str} {pos':Pos} (hN:X.N.Nodup) (he:DE X K E e te) (hi:X.N[i]?=some x:=by rfl) (hx:Loc X.env.scope x:=by first|exact Or.inl rfl|exact Or.inr rfl) (hs:swapsWith e (some (.Name x pos')) pos.line X.env=pure false:=by rfl) (hf:X.fn x=true\/X.env.scope.names.lookup x=some .local:=by first|exact .inl rfl|exact .inr rfl|assumption) :
  DS X K E (.Assign [.Name x pos'] e pos) (dSet i te):=⟨qs_imp (qpset i hN he.q hi hx hs hf) fun En σ H h=>by
 obtain ⟨H0,ν,ρ,Dd,Xd,S,h1,ok,x⟩:=h
 refine ⟨H0,ν,ρ,_,Xd,S,h1,fun d k v H' g1 g2 g3=>?_,x⟩
 obtain ⟨ν',S'⟩:=S.setK g2 g3 i
 exact ok.nx _ _ _ _ g1 S'⟩
def dRet (te:TD):TSD:=fun Dd ρ Xd=>te ρ (fun d k=>Dd.rt d (rtK d k)) Xd
theorem zI (he:DE X K E e te):DS X K E (.Return (some e) pos) (dRet te):=⟨qs_imp (qps_ret he.q) fun En σ H h=>by
 obtain ⟨H0,ν,ρ,Dd,Xd,S,h1,ok,x⟩:=h
 exact ⟨H0,ν,ρ,_,Xd,S,h1,fun d k v H' g1 g2 g3=>ok.rt _ _ _ _ g1 (S.sm.trans g2) (rr_of S g2 g3),x⟩⟩
def dDrop (te:TD):TSD:=fun Dd ρ Xd=>te ρ (fun _ _=>Dd.nx ρ) Xd
theorem dps_expr (he:DE X K E e te) (hs:swapsWith e none pos.line X.env=pure false:=by rfl):DS X K E (.Expr e pos) (dDrop te):=⟨qs_imp (qps_expr he.q hs) fun En σ H h=>by
 obtain ⟨H0,ν,ρ,Dd,Xd,S,h1,ok,x⟩:=h
 exact ⟨H0,ν,ρ,_,Xd,S,h1,fun d k v H' g1 g2 g3=>ok.nx _ _ _ _ g1 (S.same g2),x⟩⟩
def dNext:TSD:=fun Dd ρ _=>Dd.nx ρ
def dIfS (tA:TDT) (t u:TSD):TSD:=fun Dd ρ Xd=>tA ρ (fun b=>if b=true then t Dd ρ Xd else u Dd ρ Xd) Xd
theorem zR {as bs:List Stmt} (hc:DT X K E c tA) (ha:DSs X K E as t) (hb:DSs X K E bs u):DS X K E (.If c as bs pos) (dIfS tA t u):=⟨qs_imp (qps_if hc.q ha.q hb.q) fun En σ H h=>by
 obtain ⟨H0,ν,ρ,Dd,Xd,S,h1,ok,x⟩:=h
 refine ⟨H0,ν,ρ,_,Xd,S,h1,fun b H' g1 g2=>?_,x⟩
 cases b with
 | true=>exact ⟨H0,ν,ρ,Dd,Xd,S.same g2,g1,ok,x⟩
 | false=>exact ⟨H0,ν,ρ,Dd,Xd,S.same g2,g1,ok,x⟩⟩
def dSeq (t u:TSD):TSD:=fun Dd ρ Xd=>t { Dd with nx:=fun ρ'=>u Dd ρ' Xd } ρ Xd
theorem zO:DSs X K E [] dNext:=⟨qss_imp qpss_nil fun En σ H h=>by
 obtain ⟨H0,ν,ρ,Dd,Xd,S,h1,ok,x⟩:=h
 exact ok.nx _ _ _ _ h1 S⟩
theorem zE {st:Stmt} (h1:DS X K E st t):DSs X K E [st] t:=⟨qpss_one h1.q⟩
theorem zB {st:Stmt} {rest:List Stmt} (h1:DS X K E st t) (h2:DSs X K E rest u):DSs X K E (st::rest) (dSeq t u):=⟨qss_imp (qpss_cons h1.q h2.q) fun En σ H h=>by
 obtain ⟨H0,ν,ρ,Dd,Xd,S,h1,ok,x⟩:=h
 exact ⟨H0,ν,ρ,_,Xd,S,h1,⟨fun ν' ρ' σ' H' a S'=>⟨H0,ν',ρ',Dd,Xd,S',a,ok,x⟩,ok.bk,ok.ct,ok.rt⟩,x⟩⟩
def dFrz (i:Nat) (t:TSD):TSD:=fun Dd ρ Xd=>t Dd (frz1 i ρ) Xd
theorem dps_frz (i:Nat) {s:Stmt} (h:DS X K E s t):DS X K E s (dFrz i t):=⟨qs_imp h.q fun En σ H h=>by
 obtain ⟨H0,ν,ρ,Dd,Xd,S,h1,ok,x⟩:=h
 exact ⟨H0,_,_,Dd,Xd,S.frz1 i,h1,ok,x⟩⟩
def dRaise (C:Addr) (t:TDA):TSD:=fun _ ρ Xd=>t ρ (fun ds _=>ds.length<=1000/\Xd C) Xd
theorem dps_raise {x:Str} {C:Addr} {e0:Expr} {es:List Expr} {t:TDA} {np cpos:Pos} (hx:RaiseOk X E) (hc:X.calm=true) (c:ExC X.K X.mg x C) (hg:Gl X x) (ha:DA X K E (e0::es) t) (hdb:(x==("__debug__":Str))=false:=by decide)
  (he:starEach (e0::es) X.env=(false,eval e0 X.env)::starEach es X.env:=by rfl) (hpl:(backTo cpos (starEach es X.env)).any (·.1)=false:=by rfl) :
  DS X K E (.Raise (some (.Call (.Name x np) (e0::es) [] cpos)) none pos) (dRaise C t):=⟨qs_imp (qps_raise hx hc c hg ha.q hdb he hpl) fun En σ H h=>by
 obtain ⟨H0,ν,ρ,Dd,Xd,S,h1,ok,x⟩:=h
 refine ⟨H0,ν,ρ,_,Xd,S,h1,fun ds k vs H' g1 g2 g3=>?_,x⟩
 exact ⟨by rw [g3.dens.length];exact Nat.le_trans g1.1 (by decide),x C H' g1.2 (S.sm.trans g2)⟩⟩
def dWhile (tc:TDT) (tb:TSD):TSD:=fun Dd ρ Xd=>∃ W:Nat->Ren->Prop,(∃ m,W m ρ)/\∀ m ρ,W m ρ->tc ρ (fun b=>if b=true then tb { Dd with nx:=fun ρ'=>∃ m',m' < m/\W m' ρ',ct:=fun ρ'=>∃ m',m' < m/\W m' ρ',bk:=Dd.nx } ρ Xd else Dd.nx ρ) Xd
theorem dps_while {body:List Stmt} {tb:TSD} (hp:PassesOwn (model X.prog X.w) X.A X.env X.xe) (hc:DT X K E c tA) (hb:DSs X K E body tb):DS X K E (.While c body [] pos) (dWhile tA tb):=⟨qs_imp (qps_while hp hc.q hb.q) fun En σ H h=>by
 obtain ⟨H0,ν,ρ,Dd,Xd,S,⟨W,⟨m0,w0⟩,turn⟩,ok,x⟩:=h
 refine ⟨fun m σ H=>∃ ν ρ,StOk K Z0 H0 ν ρ σ H/\W m ρ,⟨m0,ν,ρ,S,w0⟩,?_⟩
 rintro m σ1 H1 ⟨ν1,ρ1,S1,w1⟩
 refine ⟨H0,ν1,ρ1,_,Xd,S1,turn m ρ1 w1,fun b H' g1 g2=>?_,x⟩
 cases b with
 | true =>
  rw [if_pos rfl] at g1 ⊢
  refine ⟨fun σ' H'=>∃ m',m' < m/\∃ ν ρ,StOk K Z0 H0 ν ρ σ' H'/\W m' ρ,fun σ' H' z=>z,H0,ν1,ρ1,_,Xd,S1.same g2,g1,⟨fun ν ρ σ H a S=>?_,fun ν ρ σ H a S=>ok.nx ν ρ σ H a S,fun ν ρ σ H a S=>?_,ok.rt⟩,x⟩
  ·obtain ⟨m',hm,w'⟩:=a;exact ⟨m',hm,ν,ρ,S,w'⟩
  ·obtain ⟨m',hm,w'⟩:=a;exact ⟨m',hm,ν,ρ,S,w'⟩
 | false =>
  rw [if_neg Bool.false_ne_true] at g1 ⊢
  exact ok.nx _ _ _ _ g1 (S1.same g2)⟩
end
abbrev TGD:=D->Ren->(Ren->Prop)->Prop
abbrev TGsD:=List D->Ren->(Ren->Prop)->Prop
def noOwn (ρ:Ren):Prop:=∀ (i:Nat) d,ρ[i]?≠some (some (true,d))
theorem noOwn_set {ρ:Ren} (h:noOwn ρ) (i:Nat) (d:D):noOwn (ρ.set i (some (false,d))):=fun j e z=>by
 rcases set_get z with ⟨_,z,_⟩|⟨_,z⟩
 ·cases z
 ·exact h j e z
def Agr (T:List Nat) (ρ ρ':Ren):Prop:=ρ'.length=ρ.length/\∀ i,i∉T->ρ'[i]?=ρ[i]?
def BndOk (K:W.Frag) (g:TG) (T:List Nat) (bnd:TGD):Prop:=∀ (H0:Hp) (ν:Nat->List Addr) (ρ:Ren) (σ:L2.St) (H:Hp) (v:V) (d:D) (Qd:Ren->Prop) (Q:L2.St->Hp->Prop),StOk K Z0 H0 ν ρ σ H->Dn K (hid (Hd Z0 ν) H) v d->bnd d ρ Qd ->
 (∀ ρ' σ',Qd ρ'->StOk K Z0 H0 ν ρ' σ' H->Agr T ρ ρ'->(noOwn ρ->noOwn ρ')->Q σ' H)->g v σ H Q
structure DG (X:Cx) (K:W.Frag) (tg:Expr) (T:List Nat) (bnd:TGD):Prop where
 ex:∃ g,QG X tg g/\BndOk K g T bnd
def bName (i:Nat):TGD:=fun d ρ Q=>Q (ρ.set i (some (false,d)))
def bTup (n:Nat) (bs:TGsD):TGD:=fun d ρ Q=>match d with
 | .tuple ds=>ds.length=n/\bs ds ρ Q
 | _=>False
section
variable {X:Cx} {K:W.Frag} {pos:Pos}
theorem dpgn (i:Nat) {x:Str} (hN:X.N.Nodup) (hi:X.N[i]?=some x:=by rfl) (hx:Loc X.env.scope x:=by first|exact Or.inl rfl|exact Or.inr rfl) (hf:X.fn x=true\/X.env.scope.names.lookup x=some .local:=by first|exact .inl rfl|exact .inr rfl|assumption):DG X K (.Name x pos) [i] (bName i) :=
 ⟨_,qpgn i hN hi hx hf,fun H0 ν ρ σ H v d Qd Q S h b q=>q _ _ b (S.setOld i h) ⟨length_set,fun j hj=>List.getElem?_set_ne (by simpa using Ne.symm (by simpa using hj))⟩ fun n=>noOwn_set n i d⟩
end
def ItOk (K:W.Frag) (F0:Hp) (J:It) (ds:List D):Prop:=∀ (W:Addr->Prop) (H2:Hp),(∀ a,W a->Mu H2 a)->Same F0 (hid W H2) ->
 J.stop ds.length H2/\∀ i d,ds[i]?=some d->J.go i H2/\∀ x H',J.yld i H2 x H'->Same H2 H'/\Dn K (hid W H') x d
abbrev TDI:=Ren->(List D->Bool->Prop)->XD->Prop
noncomputable def fz (b:Bool) (ν:Nat->List Addr) (H:Hp):Hp:=if b=true then hid (Hd Z0 ν) H else H
def LI (K:W.Frag) (E:XK) (t:TDI):TI:=fun σ H R=>∃ H0 ν ρ Qd Xd,StOk K Z0 H0 ν ρ σ H/\t ρ Qd Xd/\(∀ ds b J H1,Qd ds b->Same H H1->ItOk K (fz b ν H1) J ds->R J H1)/\∀ C H',Xd C->Same H0 H'->E (.ref C) none H'
structure DI (X:Cx) (K:W.Frag) (E:XK) (tg e:Expr) (t:TDI):Prop where
 q:QI X tg e (LI K E t)
theorem qi_imp {X:Cx} {tg e:Expr} {t t':TI} (h:QI X tg e t) (i:∀ σ H Q,t' σ H Q->t σ H Q):QI X tg e t':=⟨fun pins s σ H Q I w=>h.h pins s σ H Q I (i σ H Q w)⟩
section
variable {X:Cx} {K:W.Frag} {E:XK} {pos:Pos} {tg l:Expr} {te:TD} {ta:TDA}
theorem itok_list {F0:Hp} {a:Addr} {us:List V} {ds:List D} (h:F0 a=some (.lst us)) (r:Dns K F0 us ds):ItOk K F0 (Itl K a) ds:=fun W H2 hl sm=>by
 have h2:H2 a=some (.lst us):=(of_hid (sm _ _ h)).1
 refine ⟨⟨us,SqL.of h2,by rw [r.length];exact Nat.le_refl _⟩,fun i d hd=>?_⟩
 obtain ⟨u,h3,h4⟩:=r.get hd
 refine ⟨⟨us,u,SqL.of h2,h3⟩,fun x H' y=>?_⟩
 obtain ⟨rfl,y⟩:=y
 have:=y us (SqL.of h2)
 rw [h3] at this;cases this
 exact ⟨Same.refl _,Dn.same sm h4⟩
theorem itok_tup {F0:Hp} {a:Addr} {us:List V} {ds:List D} (h:SqT K F0 a us) (r:Dns K F0 us ds):ItOk K F0 (Itt K a) ds:=fun W H2 hl sm=>by
 have h2:SqT K H2 a us:=Same.tup hid_same (Same.tup sm h)
 refine ⟨⟨us,h2,by rw [r.length];exact Nat.le_refl _⟩,fun i d hd=>?_⟩
 obtain ⟨u,h3,h4⟩:=r.get hd
 refine ⟨⟨us,u,h2,h3⟩,fun x H' y=>?_⟩
 obtain ⟨rfl,y⟩:=y
 have:=y us h2
 rw [h3] at this;cases this
 exact ⟨Same.refl _,Dn.same sm h4⟩
theorem res_fz {ν:Nat->List Addr} {Hs H:Hp} {k:Kd} {v:V} {d:D} (hl:∀ a,Hd Z0 ν a->Mu H a) (hn:∀ a,Hd Z0 ν a->Mu Hs a) (h:Res K Z0 ν Hs H k v d):Dn K (fz k.isOld ν H) v d:=by
 unfold fz
 split
 ·exact h.old hl hn ‹_›
 ·exact h.den
def iL (te:TD):TDI:=fun ρ Q Xd=>te ρ (fun d k=>match d with
 | .list ds=>Q ds k.isOld
 | _=>False) Xd
theorem dpi_list (hK:X.K=K) (hl:DE X K E l te):DI X K E tg l (iL te):=⟨qi_imp (qpi_listK K hK hl.q) fun σ H R h=>by
 obtain ⟨H0,ν,ρ,Qd,Xd,S,h1,q,x⟩:=h
 refine ⟨H0,ν,ρ,_,Xd,S,h1,fun d k v H' g1 g2 g3=>?_,x⟩
 cases d with
 | list ds =>
  have hf:=res_fz (S.same g2).hl S.hl g3
  obtain ⟨a,us,rfl,q1,q2⟩:=dns_of_lst hf
  have q0:H' a=some (.lst us):=by unfold fz at q1;split at q1;exact (of_hid q1).1;exact q1
  exact ⟨a,rfl,⟨us,SqL.of q0⟩,q ds _ _ H' g1 g2 (itok_list q1 q2)⟩
 | _=>exact g1.elim⟩
def iT (te:TD):TDI:=fun ρ Q Xd=>te ρ (fun d k=>match d with
 | .tuple ds=>Q ds k.isOld
 | _=>False) Xd
theorem dpi_tup (hK:X.K=K) (hl:DE X K E l te):DI X K E tg l (iT te):=⟨qi_imp (qpi_tupK K hK hl.q) fun σ H R h=>by
 obtain ⟨H0,ν,ρ,Qd,Xd,S,h1,q,x⟩:=h
 refine ⟨H0,ν,ρ,_,Xd,S,h1,fun d k v H' g1 g2 g3=>?_,x⟩
 cases d with
 | tuple ds =>
  have hf:=res_fz (S.same g2).hl S.hl g3
  obtain ⟨a,us,rfl,q1,q2⟩:=dns_of_tup hf
  have q0:SqT K H' a us:=by unfold fz at q1;split at q1;exact Same.tup hid_same q1;exact q1
  exact ⟨a,rfl,⟨us,q0⟩,q ds _ _ H' g1 g2 (itok_tup q1 q2)⟩
 | _=>exact g1.elim⟩
def rngD (lo:Int) (n:Nat):List D:=(List.range n).map fun (i:Nat)=>PyData.int (lo+i)
theorem itok_rng {F0:Hp} {lo:Int} {n:Nat}:ItOk K F0 (Itr lo n) (rngD lo n):=fun W H2 hl sm=>by
 refine ⟨?_,fun i d hd=>?_⟩
 ·show n<=_
  unfold rngD;rw [length_map,length_range];exact Nat.le_refl _
 ·unfold rngD at hd
  rw [List.getElem?_map] at hd
  cases e:(List.range n)[i]? with
  | none=>rw [e] at hd;cases hd
  | some j =>
   rw [e] at hd;cases hd
   obtain ⟨h1,h2⟩:=List.getElem?_eq_some_iff.mp e
   rw [List.getElem_range] at h2
   subst h2
   rw [length_range] at h1
   refine ⟨h1,fun x H' y=>?_⟩
   obtain ⟨rfl,rfl⟩:=y
   exact ⟨Same.refl _,.int _⟩
def iR1 (ta:TDA):TDI:=fun ρ Q Xd=>ta ρ (fun ds _=>match ds with
 | [.int j]=>-(2 ^ 62)<=j/\j < 2 ^ 62/\Q (rngD 0 j.toNat) true
 | _=>False) Xd
theorem dpi_range1 {a:Expr} {p:Pos} (hg:Gl X "range") (hm:X.mg "range"=none) (ha:DA X K E [a] ta) (hs:starEach [a] X.env=[(false,eval a X.env)]:=by rfl):DI X K E tg (.Call (.Name "range" p) [a] [] pos) (iR1 ta):=⟨qi_imp (qpi_range1 hg hm ha.q hs) fun σ H R h=>by
 obtain ⟨H0,ν,ρ,Qd,Xd,S,h1,q,x⟩:=h
 refine ⟨H0,ν,ρ,_,Xd,S,h1,fun ds k vs H' g1 g2 g3=>?_,x⟩
 split at g1
 ·obtain ⟨v,rfl,h2⟩:=dns1 g3.dens
  exact ⟨_,by rw [dn_int h2],g1.1,g1.2.1,q _ _ _ H' g1.2.2 g2 itok_rng⟩
 ·exact g1.elim⟩
def dFor (ti:TDI) (bnd:TGD) (tb:TSD):TSD:=fun Dd ρ Xd=>ti ρ (fun ds b=>b=true/\∃ W:Nat->Ren->Prop,W 0 ρ/\(∀ i d ρ,ds[i]?=some d->W i ρ->bnd d ρ fun ρ'=>tb { Dd with nx:=W (i+1),ct:=W (i+1),bk:=Dd.nx } ρ' Xd)/\∀ ρ,W ds.length ρ->Dd.nx ρ) Xd
theorem dps_for {iter:Expr} {body:List Stmt} {ti:TDI} {T:List Nat} {bnd:TGD} {tb:TSD} (hp:PassesOwn (model X.prog X.w) X.A X.env X.xe) (hc:X.calm=true) (hi:DI X K E tg iter ti) (hg:DG X K tg T bnd) (hb:DSs X K E body tb) (hs:∀ x,foldedSetIterable iter X.env x=pure x:=by intro _;rfl) :
  DS X K E (.For tg iter body [] pos) (dFor ti bnd tb):=by
 obtain ⟨g,qg,og⟩:=hg.ex
 refine ⟨qs_imp (qps_for hp hc hi.q qg hb.q hs) fun En σ H h=>?_⟩
 obtain ⟨H0,ν,ρ,Dd,Xd,S,h1,ok,x⟩:=h
 refine ⟨H0,ν,ρ,_,Xd,S,h1,fun ds b J H1 g1 e1 it=>?_,x⟩
 obtain ⟨rfl,W,w0,step,done⟩:=g1
 have S1:=(S.same e1).high
 have eb:Same H0 (hid (Hd Z0 ν) H1):=(S.same e1).base
 have ok1:=ok.high eb
 have x1:∀ C H',Xd C->Same (hid (Hd Z0 ν) H1) H'->E (.ref C) none H':=fun C H' a b=>x C H' a (eb.trans b)
 have it:ItOk K (hid (Hd Z0 ν) H1) J ds:=it
 refine ⟨fun i m σ H=>m=ds.length - i/\i<=ds.length/\∃ ν' ρ',StOk K Z0 (hid (Hd Z0 ν) H1) ν' ρ' σ H/\W i ρ',⟨ds.length,by simp,Nat.zero_le _,ν,ρ,S1,w0⟩,?_⟩
 rintro i m σ2 H2 ⟨rfl,hi,ν2,ρ2,S2,w2⟩
 obtain ⟨i1,i2⟩:=it (Hd Z0 ν2) H2 S2.hl S2.base
 by_cases hlt:i < ds.length
 ·obtain ⟨j1,j2⟩:=i2 i ds[i] (List.getElem?_eq_getElem hlt)
  refine .inr ⟨j1,fun σ' H'=>∃ ν' ρ',StOk K Z0 (hid (Hd Z0 ν) H1) ν' ρ' σ' H'/\W (i+1) ρ',fun σ' H' ⟨ν',ρ',S',w'⟩=>⟨_,by omega,rfl,hlt,ν',ρ',S',w'⟩,fun y H' hy=>?_⟩
  obtain ⟨k1,k2⟩:=j2 y H' hy
  refine og _ ν2 ρ2 σ2 H' y _ _ _ (S2.same k1) k2 (step i _ ρ2 (List.getElem?_eq_getElem hlt) w2) fun ρ3 σ3 b3 S3 A _=>?_
  exact ⟨_,ν2,ρ3,_,Xd,S3,b3,⟨fun ν ρ σ H a S=>⟨ν,ρ,S,a⟩,fun ν ρ σ H a S=>ok1.nx ν ρ σ H a S,fun ν ρ σ H a S=>⟨ν,ρ,S,a⟩,ok1.rt⟩,x1⟩
 ·have e:i=ds.length:=by omega
  subst e
  exact .inl ⟨i1,ok1.nx _ _ _ _ (done ρ2 w2) S2⟩
end
abbrev Els:=List (D × Bool)
abbrev TB:=Ren->Els->(Els->Prop)->Prop
def Xf:XD:=fun _=>False
structure In (K:W.Frag) (Hs Hm H0:Hp) (ν:Nat->List Addr) (acc:Addr) (ρ:Ren) (σ:L2.St) (H:Hp) (es:Els):Prop where
 st:StOk K Z0 H0 ν ρ σ H
 sm:Same Hm H
 nm:Hm acc=none
 hs:∃ o,Hs acc=some o
 sh:∀ a,H a=none->Hs a=none
 hd:∃ j,acc∈ν j
 no:noOwn ρ
 ac:∃ us,H acc=some (.lst us)/\Dns K (hid (Hd Z0 ν) H) us (es.map (·.1))/\(es.all (·.2)=true->∃ ms,Ows K H us (es.map (·.1)) ms/\ms.Nodup/\∀ a∈ms,Hs a=none)
section
variable {K:W.Frag} {Hs Hm H0 H H':Hp} {ν:Nat->List Addr} {acc:Addr} {ρ ρ':Ren} {σ:L2.St} {es:Els}
theorem In.same (I:In K Hs Hm H0 ν acc ρ σ H es) (e:Same H H'):In K Hs Hm H0 ν acc ρ σ H' es:=by
 obtain ⟨us,h1,h2,h3⟩:=I.ac
 refine ⟨I.st.same e,I.sm.trans e,I.nm,I.hs,fun a h=>I.sh a (e.gone h),I.hd,I.no,us,e _ _ h1,Dns.same (hid_mono e) h2,fun q=>?_⟩
 obtain ⟨ms,g1,g2,g3⟩:=h3 q
 exact ⟨ms,g1.same e,g2,g3⟩
theorem In.ren {σ':L2.St} (I:In K Hs Hm H0 ν acc ρ σ H es) (S:StOk K Z0 H0 ν ρ' σ' H) (no:noOwn ρ'):In K Hs Hm H0 ν acc ρ' σ' H es:=⟨S,I.sm,I.nm,I.hs,I.sh,I.hd,no,I.ac⟩
theorem ows_snoc {vs:List V} {ds:List D} {v:V} {d:D} {ns ms:List Addr} (h:Ow K H v d ns) (r:Ows K H vs ds ms):Ows K H (vs++[v]) (ds++[d]) (ms++ns):=by
 induction vs generalizing ds ms with
 | nil =>
  cases r
  rw [List.nil_append,List.nil_append,List.nil_append]
  have:=Ows.cons h (.nil (K:=K) (H:=H))
  rw [append_nil] at this;exact this
 | cons u us ih =>
  cases r with
  | cons a b=>rw [append_assoc];exact .cons a (ih b)
theorem StOk.updH {ws:List V} (S:StOk K Z0 H0 ν ρ σ H) (hd:∃ j,acc∈ν j) (no:noOwn ρ):StOk K Z0 H0 ν ρ σ (upd H acc (.lst ws)) where
 sm:=by obtain ⟨j,hj⟩:=hd;exact S.sm.put (S.fr j acc hj).1
 len:=S.len
 sl:=fun i b d h=>by
  obtain ⟨v,h1,h2⟩:=S.sl i b d h
  refine ⟨v,h1,?_⟩
  cases b with
  | true=>exact absurd h (no i d)
  | false =>
   refine Dn.same (fun a o ha=>?_) h2
   obtain ⟨g1,g2⟩:=of_hid ha
   have:a≠acc:=fun z=>g2 (.inr (by rw [z];exact hd))
   exact hid_of (by rw [upd_ne this];exact g1) g2
 nd:=S.nd
 dj:=S.dj
 fr:=fun i a h=>by
  obtain ⟨g1,g2,us,g3⟩:=S.fr i a h
  by_cases z:a=acc
  ·subst z;exact ⟨g1,g2,Mu.lst upd_same⟩
  ·exact ⟨g1,g2,us,by rw [upd_ne z];exact g3⟩
 zf:=fun a h=>h.elim
theorem In.emit {He:Hp} {k:Kd} {v:V} {d:D} (I:In K Hs Hm H0 ν acc ρ σ H es) (e:Same H H') (r:Res K Z0 ν H H' k v d) (hk:(if flat d=true then Kd.own [] else k).isOld=true) (b:Bool) (hb:b=true->(if flat d=true then Kd.own [] else k)=.own []) :
  ∃ us,H' acc=some (.lst us)/\us.length=es.length/\In K Hs Hm H0 ν acc ρ σ (upd H' acc (.lst (us++[v]))) (es++[(d,b)]):=by
 have I':=I.same e
 obtain ⟨us,h1,h2,h3⟩:=I'.ac
 have hl:=I'.st.hl
 have r':Res K Z0 ν H H' (if flat d=true then Kd.own [] else k) v d:=by
  split
  ·exact Res.flat r.den ‹_› hl _
  ·exact r
 generalize (if flat d=true then Kd.own [] else k)=k' at hk hb r'
 refine ⟨us,h1,by rw [h2.length,length_map],I'.st.updH I'.hd I'.no,I'.sm.put I'.nm,I'.nm,I'.hs,fun a h=>?_,I'.hd,I'.no,us++[v],upd_same,?_,fun q=>?_⟩
 ·by_cases z:a=acc
  ·subst z;rw [upd_same] at h;cases h
  ·rw [upd_ne z] at h;exact I'.sh a h
 ·rw [map_append]
  have ho:=r'.old hl I.st.hl hk
  have all:Dns K (hid (Hd Z0 ν) H') (us++[v]) (es.map (·.1)++[d]):=h2.append (.cons ho .nil)
  refine Dns.same (fun a o ha=>?_) all
  obtain ⟨g1,g2⟩:=of_hid ha
  have:a≠acc:=fun z=>g2 (.inr (by rw [z];exact I'.hd))
  exact hid_of (by rw [upd_ne this];exact g1) g2
 ·rw [List.all_append,Bool.and_eq_true] at q
  obtain ⟨q1,q2⟩:=q
  have hb':=hb (by simpa using q2)
  subst hb'
  obtain ⟨ms,g1,g2,g3⟩:=h3 q1
  obtain ⟨ns,k1,k2,k3⟩:=r'
  have frn:∀ a∈ns,H a=none:=fun a ha=>by
   rcases k3 a ha with z|⟨j,z,_⟩
   ·exact z
   ·cases z
  obtain ⟨us0,_,_,h30⟩:=I.ac
  obtain ⟨ms0,g10,g20,g30⟩:=h30 q1
  refine ⟨ms0++ns,?_,nodup_append.mpr ⟨g20,k2,fun x hx y hy e'=>?_⟩,fun a ha=>?_⟩
  ·have hu:us0=us:=by
    obtain ⟨us1,z1,_⟩:=I.ac
    have z2:=e _ _ z1
    rw [h1] at z2;cases z2
    rename_i hh _
    have:H acc=some (.lst us0):=by assumption
    rw [z1] at this;cases this;rfl
   subst hu
   rw [map_append]
   have hacc:∀ a∈ms0++ns,a≠acc:=fun a ha z=>by
    obtain ⟨o,ho⟩:=I.hs
    rcases mem_append.mp ha with ha|ha
    ·have:=g30 a ha;rw [z,ho] at this;cases this
    ·have:=I.sh a (frn a ha);rw [z,ho] at this;cases this
   refine (ows_snoc k1 (g10.same e)).kept ⟨fun a ha=>upd_ne (hacc a ha),fun a o ha hn=>?_⟩
   have:a≠acc:=fun z=>by rw [z,h1] at ha;cases ha;cases (show true=false from hn)
   rw [upd_ne this];exact ha
  ·subst e'
   obtain ⟨ws,z⟩:=g10.there x hx
   rw [frn x hy] at z;cases z
  ·rcases mem_append.mp ha with ha|ha
   ·exact g30 a ha
   ·exact I.sh a (frn a ha)
end
def go (f:D->Els->(Els->Prop)->Prop):List D->Els->(Els->Prop)->Prop
 | [],es,Q=>Q es
 | d::r,es,Q=>f d es fun es'=>go f r es' Q
def LB (K:W.Frag) (acc:Addr) (T:List Nat) (tb:TB):TS:=fun En σ H=>∃ Hs Hm H0 ν ρ es Qd,In K Hs Hm H0 ν acc ρ σ H es/\tb ρ es Qd/\∀ es' ρ' σ' H',Qd es'->In K Hs Hm H0 ν acc ρ' σ' H' es'->Agr T ρ ρ'->En.nx σ' H'
def LG (K:W.Frag) (T:List Nat) (bnd:TGD):TG:=fun v σ H Q=>∃ H0 ν ρ d Qd,StOk K Z0 H0 ν ρ σ H/\Dn K (hid (Hd Z0 ν) H) v d/\bnd d ρ Qd/\∀ ρ' σ',Qd ρ'->StOk K Z0 H0 ν ρ' σ' H->Agr T ρ ρ'->(noOwn ρ->noOwn ρ')->Q σ' H
structure DB (Y:Cx) (K:W.Frag) (elt:Expr) (gens:List Comprehension) (scope:Scope) (pos:Pos) (d:Nat) (acc:Addr) (T:List Nat) (tb:TB):Prop where
 q:QB Y elt gens scope pos d acc (LB K acc T tb)
structure DTs (Y:Cx) (K:W.Frag) (ifs:List Expr) (t:TDT):Prop where
 q:QTs Y ifs (LT K E0 t)
theorem qg_imp {X:Cx} {e:Expr} {g g':TG} (h:QG X e g) (i:∀ v σ H Q,g' v σ H Q->g v σ H Q):QG X e g':=⟨fun pins s σ H x u Q I r w=>h.h pins s σ H x u Q I r (i x σ H Q w)⟩
theorem qb_imp {Y:Cx} {elt:Expr} {gens:List Comprehension} {scope:Scope} {pos:Pos} {d:Nat} {acc:Addr} {t t':TS} (h:QB Y elt gens scope pos d acc t) (i:∀ En σ H,t' En σ H->t En σ H):QB Y elt gens scope pos d acc t':=⟨fun pins s σ H D I w=>h.h pins s σ H D I (i D σ H w)⟩
theorem DG.lift {X:Cx} {K:W.Frag} {tg:Expr} {T:List Nat} {bnd:TGD} (h:DG X K tg T bnd):QG X tg (LG K T bnd):=by
 obtain ⟨g,q,o⟩:=h.ex
 refine qg_imp q fun v σ H Q w=>?_
 obtain ⟨H0,ν,ρ,d,Qd,S,h1,h2,h3⟩:=w
 exact o H0 ν ρ σ H v d Qd Q S h1 h2 h3
def dTrue:TDT:=fun _ Q _=>Q true
def isOwnK:Kd->Bool
 | .own []=>true
 | _=>false
def eff (d:D) (k:Kd):Kd:=if flat d=true then Kd.own [] else k
def dEmit (te:TD):TB:=fun ρ es Q=>te ρ (fun d k=>es.length < 1000000/\(eff d k).isOld=true/\Q (es++[(d,isOwnK (eff d k))])) Xf
def bFor (ti:TDI) (T:List Nat) (bnd:TGD) (tif:TDT) (tb:TB):TB:=fun ρ es Q=>ti ρ (fun ds b=>b=true/\go (fun d es Q'=>bnd d (dropS ρ T) fun ρ'=>tif ρ' (fun c=>if c=true then tb ρ' es Q' else Q' es) Xf) ds es Q) Xf
section
variable {Y:Cx} {K:W.Frag} {pos:Pos} {elt:Expr} {gens:List Comprehension} {scope:Scope} {dep:Nat} {acc:Addr}
theorem dpts_nil:DTs Y K [] dTrue:=⟨⟨fun pins s σ H Q I h=>qpts_nil.h pins s σ H Q I (by
 obtain ⟨H0,ν,ρ,Qd,Xd,S,h1,q,x⟩:=h
 exact q _ _ h1 (Same.refl H))⟩⟩
theorem dpts_one {c:Expr} {t:TDT} (h:DT Y K E0 c t):DTs Y K [c] t:=⟨qpts_one h.q⟩
theorem dpb_emit {te:TD} (hg:gens[dep+1]?=none) (hx:Y.xe=fun _ _=>False) (he:DE Y K E0 elt te):DB Y K elt gens scope pos dep acc [] (dEmit te):=⟨qb_imp (qpb_emit hg hx he.q) fun En σ H h=>by
 obtain ⟨Hs,Hm,H0,ν,ρ,es,Qd,I,h1,q⟩:=h
 refine ⟨H0,ν,ρ,_,_,I.st,h1,fun d k v H' g1 g2 g3=>?_,fun C H' z _=>z.elim⟩
 obtain ⟨g0,g4,g5⟩:=g1
 obtain ⟨us,k1,k2,I'⟩:=I.emit (He:=H) g2 g3 g4 (isOwnK (eff d k)) (fun z=>by
  change eff d k=_
  generalize eff d k=k' at z
  unfold isOwnK at z
  split at z
  ·rfl
  ·cases z)
 exact ⟨us,k1,by rw [k2];exact Nat.lt_of_lt_of_le g0 million,q _ _ _ _ g5 I' ⟨rfl,fun _ _=>rfl⟩⟩⟩
theorem noOwn_drop {ρ:Ren} {T:List Nat} (h:noOwn ρ):noOwn (dropS ρ T):=fun i d z=>h i d (dropS_get T z).2
theorem StOk.agr {H0:Hp} {ν:Nat->List Addr} {ρ ρ':Ren} {σ:L2.St} {H:Hp} {T:List Nat} (S:StOk K Z0 H0 ν ρ' σ H) (A:Agr T ρ ρ'):StOk K Z0 H0 ν (dropS ρ T) σ H :=
 ⟨S.sm,by rw [dropS_len,S.len,A.1],fun i b d h=>by
  obtain ⟨h1,h2⟩:=dropS_get T h
  exact S.sl i b d (by rw [A.2 i h1];exact h2),S.nd,S.dj,S.fr,S.zf⟩
theorem Agr.drop {ρ:Ren} {T:List Nat}:Agr T ρ (dropS ρ T):=by
 refine ⟨dropS_len T ρ,fun i hi=>?_⟩
 induction T generalizing ρ with
 | nil=>rfl
 | cons j r ih =>
  rw [mem_cons,not_or] at hi
  show (dropS (ρ.set j none) r)[i]?=_
  rw [ih hi.2,List.getElem?_set_ne (Ne.symm hi.1)]
theorem Agr.same {ρ ρ' ρ'':Ren} {T:List Nat} (h:Agr T ρ ρ') (g:Agr T ρ' ρ''):Agr T ρ ρ'':=⟨g.1.trans h.1,fun i hi=>by rw [g.2 i hi,h.2 i hi]⟩
theorem Agr.less {ρ ρ':Ren} {T U:List Nat} (h:Agr T ρ ρ') (s:∀ i∈T,i∈U):Agr U ρ ρ':=⟨h.1,fun i hi=>h.2 i fun z=>hi (s i z)⟩
theorem In.low {Hs Hm H0 H1 H:Hp} {ν:Nat->List Addr} {ρ:Ren} {σ:L2.St} {es:Els} (I:In K Hs Hm H1 ν acc ρ σ H es) (e:Same H0 H1):In K Hs Hm H0 ν acc ρ σ H es:=⟨I.st.low e,I.sm,I.nm,I.hs,I.sh,I.hd,I.no,I.ac⟩
theorem In.high {Hs Hm H0 H:Hp} {ν:Nat->List Addr} {ρ:Ren} {σ:L2.St} {es:Els} (I:In K Hs Hm H0 ν acc ρ σ H es):In K Hs Hm (hid (Hd Z0 ν) H) ν acc ρ σ H es:=⟨I.st.high,I.sm,I.nm,I.hs,I.sh,I.hd,I.no,I.ac⟩
theorem In.agr {Hs Hm H0 H:Hp} {ν:Nat->List Addr} {ρ ρ':Ren} {σ:L2.St} {es:Els} {T:List Nat} (I:In K Hs Hm H0 ν acc ρ' σ H es) (A:Agr T ρ ρ') (n:noOwn ρ):In K Hs Hm H0 ν acc (dropS ρ T) σ H es:=I.ren (I.st.agr A) (noOwn_drop n)
theorem go_loop {Hs Hm H0 H F0:Hp} {ν:Nat->List Addr} {ρ:Ren} {σ:L2.St} {es:Els} {J:It} {ds:List D} {T Tb:List Nat} {bnd:TGD} {tif:TDT} {tb:TB} {Qd:Els->Prop} {En:Ends} (I:In K Hs Hm H0 ν acc ρ σ H es) (it:ItOk K F0 J ds) (hf:Same F0 H0) (hT:∀ i∈T,i∈T++Tb)
  (h:go (fun d es Q'=>bnd d (dropS ρ (T++Tb)) fun ρ'=>tif ρ' (fun c=>if c=true then tb ρ' es Q' else Q' es) Xf) ds es Qd)
  (q:∀ es' ρ' σ' H',Qd es'->In K Hs Hm H0 ν acc ρ' σ' H' es'->Agr (T++Tb) ρ ρ'->En.nx σ' H') :
  loopT J (LG K T bnd) (tIfB (LT K E0 tif) (LB K acc Tb tb)) En σ H:=by
 refine ⟨fun i m σ H=>m=ds.length - i/\i<=ds.length/\∃ es,In K Hs Hm H0 ν acc (dropS ρ (T++Tb)) σ H es/\go (fun d es Q'=>bnd d (dropS ρ (T++Tb)) fun ρ'=>tif ρ' (fun c=>if c=true then tb ρ' es Q' else Q' es) Xf) (ds.drop i) es Qd,
  ⟨ds.length,by simp,Nat.zero_le _,es,I.ren (I.st.agr ⟨rfl,fun _ _=>rfl⟩) (noOwn_drop I.no),by simpa using h⟩,?_⟩
 rintro i m σ2 H2 ⟨rfl,hi,es2,I2,w2⟩
 obtain ⟨i1,i2⟩:=it (Hd Z0 ν) H2 I2.st.hl (hf.trans I2.st.base)
 by_cases hlt:i < ds.length
 ·obtain ⟨j1,j2⟩:=i2 i ds[i] (List.getElem?_eq_getElem hlt)
  rw [List.drop_eq_getElem_cons hlt] at w2
  have back:∀ es3 ρ3 σ3 H3,go (fun d es Q'=>bnd d (dropS ρ (T++Tb)) fun ρ'=>tif ρ' (fun c=>if c=true then tb ρ' es Q' else Q' es) Xf) (ds.drop (i+1)) es3 Qd->In K Hs Hm H0 ν acc ρ3 σ3 H3 es3->Agr (T++Tb) (dropS ρ (T++Tb)) ρ3 ->
    ∃ es,In K Hs Hm H0 ν acc (dropS ρ (T++Tb)) σ3 H3 es/\go (fun d es Q'=>bnd d (dropS ρ (T++Tb)) fun ρ'=>tif ρ' (fun c=>if c=true then tb ρ' es Q' else Q' es) Xf) (ds.drop (i+1)) es Qd:=fun es3 ρ3 σ3 H3 g3 I3 A3=>⟨es3,I3.agr (Agr.same Agr.drop A3) I.no,g3⟩
  refine .inr ⟨j1,fun σ' H'=>∃ es,In K Hs Hm H0 ν acc (dropS ρ (T++Tb)) σ' H' es/\go (fun d es Q'=>bnd d (dropS ρ (T++Tb)) fun ρ'=>tif ρ' (fun c=>if c=true then tb ρ' es Q' else Q' es) Xf) (ds.drop (i+1)) es Qd,fun σ' H' ⟨es',a,b⟩=>⟨_,by omega,rfl,hlt,es',a,b⟩,fun y H' hy=>?_⟩
  obtain ⟨k1,k2⟩:=j2 y H' hy
  refine ⟨H0,ν,_,_,_,(I2.same k1).st,k2,w2,fun ρ3 σ3 b3 S3 A3 n3=>?_⟩
  have I3:=(I2.same k1).ren S3 (n3 I2.no)
  have A3':Agr (T++Tb) (dropS ρ (T++Tb)) ρ3:=A3.less hT
  refine ⟨H0,ν,ρ3,_,_,S3,b3,fun c H4 g4 e4=>?_,fun C H' z _=>z.elim⟩
  cases c with
  | true =>
   rw [if_pos rfl] at g4 ⊢
   exact ⟨Hs,Hm,H0,ν,ρ3,es2,_,I3.same e4,g4,fun es5 ρ5 σ5 H5 g5 I5 A5=>back es5 ρ5 σ5 H5 g5 I5 (Agr.same A3' (A5.less fun i hi=>mem_append_right _ hi))⟩
  | false =>
   rw [if_neg Bool.false_ne_true] at g4 ⊢
   exact back es2 ρ3 σ3 H4 g4 (I3.same e4) A3'
 ·have e:i=ds.length:=by omega
  subst e
  rw [List.drop_length] at w2
  exact .inl ⟨i1,q es2 _ σ2 H2 w2 I2 Agr.drop⟩
theorem dpb_for {tg iter:Expr} {ifs:List Expr} {ti:TDI} {T Tb:List Nat} {bnd:TGD} {tif:TDT} {tb:TB} (hgd:gens[dep+1]?=some ⟨tg,iter,ifs,0⟩) (hx:Y.xe=fun _ _=>False) (hc:Y.calm=true) (hs:∀ x,foldedSetIterable iter Y.env x=pure x) (hi:DI Y K E0 tg iter ti) (hg:DG Y K tg T bnd) (ht:DTs Y K ifs tif) (hb:DB Y K elt gens scope pos (dep+1) acc Tb tb) :
  DB Y K elt gens scope pos dep acc (T++Tb) (bFor ti (T++Tb) bnd tif tb):=⟨qb_imp (qpb_for hgd hx hc hs hi.q hg.lift ht.q hb.q) fun En σ H h=>by
 obtain ⟨Hs,Hm,H0,ν,ρ,es,Qd,I,h1,q⟩:=h
 refine ⟨H0,ν,ρ,_,_,I.st,h1,fun ds b J H1 g1 e1 it=>?_,fun C H' z _=>z.elim⟩
 obtain ⟨rfl,g1⟩:=g1
 have I1:=I.same e1
 exact go_loop I1.high it (Same.refl _) (fun i hi=>mem_append_left _ hi) g1 fun es' ρ' σ' H' a I' A=>q es' ρ' σ' H' a (I'.low I1.st.base) A⟩
end
def capR (own:List Str) (cap:List (Str × Nat)) (ρ:Ren):Ren:=own.map (fun _=>none)++cap.map fun p=>((ρ[p.2]?).join).map fun y=>(false,y.2)
def capOk (cap:List (Str × Nat)) (ρ:Ren):Bool:=cap.all fun p=>match (ρ[p.2]?).join with
 | some (true,_)=>false
 | _=>true
def dLC (ti:TDI) (T:List Nat) (bnd:TGD) (tif:TDT) (tb:TB) (own:List Str) (cap:List (Str × Nat)):TD:=fun ρ Q Xd=>ti ρ (fun ds b =>
 go (fun d es Q'=>bnd d (dropS (capR own cap ρ) T) fun ρ'=>tif ρ' (fun c=>if c=true then tb ρ' es Q' else Q' es) Xf) ds [] fun es=>Q (.list (es.map (·.1))) (if es.all (·.2)=true then .own [] else if (b&&capOk cap ρ)=true then .old else .mix)) Xd
section
variable {K:W.Frag}
theorem capR_get {own:List Str} {cap:List (Str × Nat)} {ρ:Ren} {i:Nat} {b:Bool} {d:D} (h:(capR own cap ρ)[i]?=some (some (b,d))):b=false/\∃ p c,cap[i - own.length]?=some p/\own.length<=i/\ρ[p.2]?=some (some (c,d)):=by
 unfold capR at h
 by_cases hi:i < own.length
 ·rw [List.getElem?_append_left (by simpa using hi),List.getElem?_map] at h
  cases e:own[i]? with
  | none=>rw [e] at h;cases h
  | some _=>rw [e] at h;cases h
 ·rw [List.getElem?_append_right (by simpa using Nat.le_of_not_lt hi),length_map,List.getElem?_map] at h
  cases e:cap[i - own.length]? with
  | none=>rw [e] at h;cases h
  | some p =>
   rw [e] at h
   simp only [Option.map_some,Option.some.injEq] at h
   cases e2:ρ[p.2]? with
   | none=>rw [e2] at h;cases h
   | some x =>
    rw [e2] at h
    cases x with
    | none=>cases h
    | some y=>cases h;exact ⟨rfl,p,y.1,rfl,Nat.le_of_not_lt hi,e2⟩
theorem capS_get {own:List Str} {cap:List (Str × Nat)} {σ:L2.St} {i:Nat} {p:Str × Nat} {v:V} (h:cap[i - own.length]?=some p) (hi:own.length<=i) (hv:σ[p.2]?=some (some v)):(capS own cap σ)[i]?=some (some v):=by
 unfold capS
 rw [List.getElem?_append_right (by simpa using hi),length_map,List.getElem?_map,h]
 simp [hv]
theorem capR_no {own:List Str} {cap:List (Str × Nat)} {ρ:Ren}:noOwn (capR own cap ρ):=fun i d h=>by
 have:=(capR_get h).1;cases this
def capN (ok:Bool) (acc:Addr) (ν:Nat->List Addr):Nat->List Addr
 | 0=>[acc]
 | i+1=>if ok=true then ν i else []
theorem capN_succ {ok:Bool} {acc:Addr} {ν:Nat->List Addr} {i:Nat}:capN ok acc ν (i+1)=if ok=true then ν i else []:=rfl
theorem lc_start {own:List Str} {cap:List (Str × Nat)} {H0 H1:Hp} {ν:Nat->List Addr} {ρ:Ren} {σ:L2.St} {acc:Addr} (S:StOk K Z0 H0 ν ρ σ H1) (ha:H1 acc=none) (ok:Bool) (hok:ok=true->capOk cap ρ=true) :
  In K (upd H1 acc (.lst [])) H1 (fz ok ν H1) (capN ok acc ν) acc (capR own cap ρ) (capS own cap σ) (upd H1 acc (.lst [])) []:=by
 have sm:Same H1 (upd H1 acc (.lst [])):=Same.new ha
 have fzs:Same (fz ok ν H1) H1:=by unfold fz;split;exact hid_same;exact Same.refl _
 have nacc:∀ i,acc∉ν i:=fun i z=>by obtain ⟨_,_,us,q⟩:=S.fr i acc z;rw [ha] at q;cases q
 refine ⟨⟨fzs.trans sm,?_,?_,?_,?_,?_,fun a z=>z.elim⟩,sm,ha,⟨_,upd_same⟩,fun a h=>h,⟨0,by simp [capN]⟩,capR_no,[],upd_same,.nil,fun _=>⟨[],.nil,nodup_nil,fun _ z=>by cases z⟩⟩
 ·unfold capS capR;simp
 ·intro i b d h
  obtain ⟨rfl,p,c,h1,h2,h3⟩:=capR_get h
  obtain ⟨v,g1,g2⟩:=S.sl p.2 c d h3
  refine ⟨v,capS_get h1 h2 g1,?_⟩
  cases ok with
  | true =>
   have hc:=hok rfl
   unfold capOk at hc
   have hc:=all_eq_true.mp hc p (List.mem_of_getElem? h1)
   rw [h3] at hc
   cases c with
   | true=>cases hc
   | false =>
    refine Dn.same (fun a o q=>?_) (show Dn K (hid (Hd Z0 ν) H1) v d from g2)
    obtain ⟨q1,q2⟩:=of_hid q
    refine hid_of (sm _ _ q1) fun z=>?_
    rcases z with z|⟨j,z⟩
    ·exact z
    ·cases j with
     | zero=>rw [show capN true acc ν 0=[acc] from rfl,mem_singleton] at z;rw [z,ha] at q1;cases q1
     | succ j=>exact q2 (.inr ⟨j,z⟩)
  | false =>
   have gd:Dn K H1 v d:=by
    cases c with
    | true=>exact Ow.den g2
    | false=>exact Dn.same hid_same g2
   refine Dn.same (fun a o q=>?_) gd
   refine hid_of (sm _ _ q) fun z=>?_
   rcases z with z|⟨j,z⟩
   ·exact z
   ·cases j with
    | zero=>rw [show capN false acc ν 0=[acc] from rfl,mem_singleton] at z;rw [z,ha] at q;cases q
    | succ j=>cases z
 ·intro i
  cases i with
  | zero=>simp [capN]
  | succ i=>rw [capN_succ];split;exact S.nd i;exact nodup_nil
 ·intro i j a hi hj
  cases i with
  | zero =>
   have e:a=acc:=by simpa [capN] using hi
   cases j with
   | zero=>rfl
   | succ j =>
    rw [capN_succ] at hj
    split at hj
    ·rw [e] at hj;exact absurd hj (nacc j)
    ·cases hj
  | succ i =>
   rw [capN_succ] at hi
   split at hi
   case isFalse=>cases hi
   case isTrue =>
    cases j with
    | zero =>
     have e:a=acc:=by simpa [capN] using hj
     rw [e] at hi;exact absurd hi (nacc i)
    | succ j =>
     rename_i hk
     rw [capN_succ,if_pos hk] at hj
     rw [S.dj i j a hi hj]
 ·intro i a h
  cases i with
  | zero =>
   have e:a=acc:=by simpa [capN] using h
   subst e
   exact ⟨fzs.gone ha,fun z=>z,Mu.lst upd_same⟩
  | succ i =>
   rw [capN_succ] at h
   split at h
   case isFalse=>cases h
   case isTrue hk =>
    obtain ⟨_,_,us,q⟩:=S.fr i a h
    refine ⟨?_,fun z=>z,us,sm _ _ q⟩
    unfold fz;rw [if_pos hk];unfold hid;rw [if_pos (.inr ⟨i,h⟩)]
theorem lc_end {H0 Hs H1 H' Hq:Hp} {ν:Nat->List Addr} {ρ ρr:Ren} {σ σr:L2.St} {acc:Addr} {es:Els} {ok:Bool} (S:StOk K Z0 H0 ν ρ σ Hs) (e1:Same Hs H1) (ha:H1 acc=none) (I:In K (upd H1 acc (.lst [])) H1 Hq (capN ok acc ν) acc ρr σr H' es) :
  Res K Z0 ν Hs H' (if es.all (·.2)=true then .own [] else if ok=true then .old else .mix) (.ref acc) (.list (es.map (·.1))):=by
 obtain ⟨us,h1,h2,h3⟩:=I.ac
 split
 ·obtain ⟨ms,g1,g2,g3⟩:=h3 ‹_›
  refine ⟨acc::ms,.lst h1 g1,nodup_cons.mpr ⟨fun z=>?_,g2⟩,fun a hm=>.inl ?_⟩
  ·have:=g3 acc z;rw [upd_same] at this;cases this
  ·rcases mem_cons.mp hm with rfl|hm
   ·exact e1.gone ha
   ·have:=g3 a hm
    by_cases z:a=acc
    ·subst z;exact e1.gone ha
    ·rw [upd_ne z] at this;exact e1.gone this
 ·split
  case isTrue hk =>
   have hz:¬ Hd Z0 ν acc:=fun z=>by obtain ⟨us,q⟩:=S.hl acc z;rw [e1.gone ha] at q;cases q
   refine .lst (hid_of h1 hz) (Dns.same (hid_less fun a z=>?_) h2)
   rcases z with z|⟨j,z⟩
   ·exact z.elim
   ·exact .inr ⟨j+1,by rw [capN_succ,if_pos hk];exact z⟩
  case isFalse=>exact .lst h1 (Dns.same hid_same h2)
end
section
variable {X:Cx} {K:W.Frag} {E:XK} {pos:Pos} {elt tg iter:Expr} {ifs:List Expr} {rest:List Comprehension} {scope:Scope} {ti:TDI} {T Tb:List Nat} {bnd:TGD} {tif:TDT} {tb:TB}
theorem le_lc {own:List Str} {cap:List (Str × Nat)}:∀ σ H Q,LE K E (dLC ti (T++Tb) bnd tif tb own cap) σ H Q->tLC (LI K E ti) (LG K T bnd) (LT K E0 tif) (fun acc=>LB K acc Tb tb) own cap σ H Q:=fun σ H Q h=>by
 obtain ⟨H0,ν,ρ,Qd,Xd,S,h1,q,x⟩:=h
 refine ⟨H0,ν,ρ,_,Xd,S,h1,fun ds b J H1 g1 e1 it=>?_,x⟩
 intro acc ha
 obtain ⟨ok,hk⟩:∃ ok,ok=(b&&capOk cap ρ):=⟨_,rfl⟩
 have I:=lc_start (own:=own) (S.same e1) ha ok (fun z=>by rw [hk,Bool.and_eq_true] at z;exact z.2)
 have hf:Same (fz b ν H1) (fz ok ν H1):=by
  cases ok with
  | true =>
   have:b=true:=by rw [Eq.comm,Bool.and_eq_true] at hk;exact hk.1
   rw [this];exact Same.refl _
  | false=>unfold fz;split;exact hid_same;exact Same.refl _
 refine go_loop I it hf (fun i hi=>mem_append_left _ hi) g1 fun es' ρ' σ' H' a I' A=>?_
 rw [<-hk] at a
 exact q _ _ _ H' a (e1.trans I'.sm) (lc_end S e1 ha I')
theorem dpe_lc (own:List Str) (cap:List (Str × Nat)) (hc:X.calm=true) (L:LcScope X scope own cap) (hi:DI X K E tg iter ti)
  (hin:∀ (s₃:Shared) (H₃:Hp) (fp:List Addr) (acc:Addr),DG (X.inn scope (L2.capN own cap) s₃ H₃ fp) K tg T bnd/\DTs (X.inn scope (L2.capN own cap) s₃ H₃ fp) K ifs tif/\DB (X.inn scope (L2.capN own cap) s₃ H₃ fp) K elt (⟨tg,iter,ifs,0⟩::rest) scope pos 0 acc Tb tb)
  (hs:∀ x,foldedSetIterable iter X.env x=pure x:=by intro _;rfl):DE X K E (.ListComp elt (⟨tg,iter,ifs,0⟩::rest) scope pos) (dLC ti (T++Tb) bnd tif tb own cap) :=
 ⟨qe_imp (qpe_lc own cap hc L hi.q (fun a b c d=>⟨(hin a b c d).1.lift,(hin a b c d).2.1.q,(hin a b c d).2.2.q⟩) hs) le_lc⟩
theorem dps_setlc {i:Nat} {y:Str} {py spos:Pos} (own:List Str) (cap:List (Str × Nat)) (hN:X.N.Nodup) (hyi:X.N[i]?=some y) (hy:X.env.scope.names.lookup y=some .local) (hc:X.calm=true) (L:LcScope X scope own cap) (hi:DI X K E tg iter ti)
  (hin:∀ (s₃:Shared) (H₃:Hp) (fp:List Addr) (acc:Addr),DG (X.inn scope (L2.capN own cap) s₃ H₃ fp) K tg T bnd/\DTs (X.inn scope (L2.capN own cap) s₃ H₃ fp) K ifs tif/\DB (X.inn scope (L2.capN own cap) s₃ H₃ fp) K elt (⟨tg,iter,ifs,0⟩::rest) scope pos 0 acc Tb tb)
  (hsw:swapsWith (.ListComp elt (⟨tg,iter,ifs,0⟩::rest) scope pos) (some (.Name y py)) spos.line X.env=pure true:=by rfl) (hs:∀ x,foldedSetIterable iter X.env x=pure x:=by intro _;rfl) :
  DS X K E (.Assign [.Name y py] (.ListComp elt (⟨tg,iter,ifs,0⟩::rest) scope pos) spos) (dSet i (dLC ti (T++Tb) bnd tif tb own cap)) :=
 ⟨qs_imp (qps_setlc own cap hN hyi hy hc L hi.q (fun a b c d=>⟨(hin a b c d).1.lift,(hin a b c d).2.1.q,(hin a b c d).2.2.q⟩) hsw hs) fun En σ H h=>by
  obtain ⟨H0,ν,ρ,Dd,Xd,S,h1,ok,x⟩:=h
  refine le_lc σ H _ ⟨H0,ν,ρ,_,Xd,S,h1,fun d k v H' g1 g2 g3=>?_,x⟩
  obtain ⟨ν',S'⟩:=S.setK g2 g3 i
  exact ok.nx _ _ _ _ g1 S'⟩
end
section
variable {K:W.Frag} {H0 H H':Hp} {ν:Nat->List Addr} {ρ:Ren} {σ:L2.St} {v:V} {d:D}
theorem StOk.mut (S:StOk K Z0 H0 ν ρ σ H) (s:List Nat) (i:Nat) {ms:List Addr} (hi:σ[i]?=some (some v)) (hr:i < ρ.length) (k:∀ a o,H a=some o->a∉ν i->H' a=some o) (h:Ow K H' v d ms) (nd:ms.Nodup) (fr:∀ a∈ms,a∈ν i\/H a=none\/∃ j∈s,a∈ν j) (hs:i∉s)
  (gone:∀ j∈s,∀ a∈ν j,Mu H' a) :
  StOk K Z0 H0 (fun j=>if j=i then ms else if j∈s then [] else ν j) ((dropS ρ s).set i (some (true,d))) σ H' where
 sm:=fun a o ha=>k a o (S.sm a o ha) fun z=>by rw [(S.fr i a z).1] at ha;cases ha
 len:=by rw [length_set,dropS_len];exact S.len
 sl:=fun j b c hj=>by
  rcases set_get hj with ⟨rfl,h1,h2⟩|⟨h1,h2⟩
  ·cases h1
   exact ⟨v,hi,by rw [if_pos rfl];rw [if_pos rfl];exact h⟩
  ·obtain ⟨h3,h4⟩:=dropS_get s h2
   obtain ⟨u,q1,q2⟩:=S.sl j b c h4
   refine ⟨u,q1,?_⟩
   cases b with
   | true =>
    rw [if_pos rfl,if_neg h1,if_neg h3]
    have q2:Ow K H u c (ν j):=q2
    refine q2.kept ⟨fun a ha=>?_,fun a o ha hn=>k a o ha fun z=>?_⟩
    ·obtain ⟨us,q⟩:=q2.there a ha
     rw [k a _ q fun z=>h1 (S.dj j i a ha z),q]
    ·exact (S.fr i a z).2.2.no ha hn
   | false =>
    refine Dn.same (fun a o ha=>?_) q2
    obtain ⟨g1,g2⟩:=of_hid ha
    refine hid_of (k a o g1 fun z=>g2 (.inr ⟨i,z⟩)) fun z=>?_
    rcases z with z|⟨l,z⟩
    ·exact z
    ·have z:a∈(if l=i then ms else if l∈s then [] else ν l):=z
     split at z
     ·rcases fr a z with z|z|⟨l,_,z⟩
      ·exact g2 (.inr ⟨i,z⟩)
      ·rw [g1] at z;cases z
      ·exact g2 (.inr ⟨l,z⟩)
     ·split at z
      ·cases z
      ·exact g2 (.inr ⟨l,z⟩)
 nd:=fun j=>by
  split
  ·exact nd
  ·split
   ·exact nodup_nil
   ·exact S.nd j
 dj:=fun j l a hj hl=>by
  have key:∀ m,m≠i->m∉s->a∈ν m->a∉ms:=fun m hm hms ha hz=>by
   rcases fr a hz with z|z|⟨n,hn,z⟩
   ·exact hm (S.dj m i a ha z)
   ·obtain ⟨_,_,us,q⟩:=S.fr m a ha;rw [z] at q;cases q
   ·rw [S.dj m n a ha z] at hms;exact hms hn
  split at hj
  ·split at hl
   ·omega
   ·split at hl
    ·cases hl
    ·exact absurd hj (key l ‹_› ‹_› hl)
  ·split at hj
   ·cases hj
   ·split at hl
    ·exact absurd hl (key j ‹_› ‹_› hj)
    ·split at hl
     ·cases hl
     ·exact S.dj j l a hj hl
 fr:=fun j a ha=>by
  split at ha
  ·have ht:=h.there a ha
   rcases fr a ha with z|z|⟨m,_,z⟩
   ·exact ⟨(S.fr i a z).1,(fun q=>q),ht⟩
   ·exact ⟨S.sm.gone z,(fun q=>q),ht⟩
   ·exact ⟨(S.fr m a z).1,(fun q=>q),ht⟩
  ·split at ha
   ·cases ha
   ·obtain ⟨q1,q2,us,q3⟩:=S.fr j a ha
    exact ⟨q1,q2,us,k a _ q3 fun z=>absurd (S.dj j i a ha z) ‹_›⟩
 zf:=fun a h=>h.elim
theorem eff_own {k:Kd} {s:List Nat} {Hs:Hp} (e:eff d k=.own s) (hl:∀ a,Hd Z0 ν a->Mu H a) (h:Res K Z0 ν Hs H k v d):∃ ms,Ow K H v d ms/\ms.Nodup/\∀ a∈ms,Hs a=none\/∃ j∈s,a∈ν j:=by
 have h':Res K Z0 ν Hs H (eff d k) v d:=by
  unfold eff
  split
  ·exact Res.flat h.den ‹_› hl _
  ·exact h
 rw [e] at h'
 exact h'
end
section
variable {X:Cx} {K:W.Frag} {E:XK} {pos apos cpos:Pos} {e:Expr} {te:TD}
def dApp (i:Nat) (te:TD):TSD:=fun Dd ρ Xd=>∃ ds,ρ[i]?=some (some (true,.list ds))/\ds.length < 1000000/\te ρ (fun d k=>match eff d k with
 | .own s=>i∉s/\Dd.nx ((dropS ρ s).set i (some (true,.list (ds++[d]))))
 | _=>False) Xd
theorem own_list {H0 H:Hp} {ν:Nat->List Addr} {ρ:Ren} {σ:L2.St} {i:Nat} {ds:List D} (S:StOk K Z0 H0 ν ρ σ H) (h:ρ[i]?=some (some (true,.list ds))):∃ a us ns,σ[i]?=some (some (.ref a))/\H a=some (.lst us)/\Ows K H us ds ns/\ν i=a::ns/\a∉ns/\ns.Nodup:=by
 obtain ⟨v,h1,h2⟩:=S.sl i true _ h
 have h2:Ow K H v (.list ds) (ν i):=h2
 have hn:=S.nd i
 generalize hv:ν i=n at h2 hn
 cases h2 with
 | lst h r=>exact ⟨_,_,_,h1,h,r,rfl,(nodup_cons.mp hn).1,(nodup_cons.mp hn).2⟩
theorem len_of {α:Type} {l:List α} {i:Nat} {x:α} (h:l[i]?=some x):i < l.length:=(List.getElem?_eq_some_iff.mp h).1
theorem dps_append (i:Nat) {x:Str} {px:Pos} (hK:X.K=K) (ho:QE X (.Name x px) (tVar i)) (he:DE X K E e te) (hs:starEach [e] X.env=[(false,eval e X.env)]) (hbase:attributeBase (.Name x px) "append" X.env (eval (.Name x px) X.env)=eval (.Name x px) X.env) (hline:(apos.endLine==cpos.line)=true)
  (hsw:swapsWith (.Call (.Attribute (.Name x px) "append" apos) [e] [] cpos) none pos.line X.env=pure false:=by rfl):DS X K E (.Expr (.Call (.Attribute (.Name x px) "append" apos) [e] [] cpos) pos) (dApp i te):=⟨qs_imp (qps_expr (qpm_appendK K hK ho he.q hs hbase hline) hsw) fun En σ H h=>by
 obtain ⟨H0,ν,ρ,Dd,Xd,S,⟨ds,h1,h2,h3⟩,ok,x⟩:=h
 obtain ⟨a,us,ns,g1,g2,g3,g4,g5,g6⟩:=own_list S h1
 refine ⟨_,g1,tyl (SqL.of g2),H0,ν,ρ,_,Xd,S,h3,fun d k v H1 q1 e1 r1=>?_,x⟩
 split at q1
 case h_2=>exact q1.elim
 case h_1 s es =>
  obtain ⟨ms,m1,m2,m3⟩:=eff_own es (S.same e1).hl r1
  have ha1:H1 a=some (.lst us):=e1 _ _ g2
  have nm:∀ b∈ms,b∉ν i:=fun b hb z=>by
   rcases m3 b hb with y|⟨j,hj,y⟩
   ·obtain ⟨_,_,us,w⟩:=S.fr i b z;rw [y] at w;cases w
   ·rw [S.dj i j b z y] at q1;exact q1.1 hj
  have ham:a∉ms:=fun z=>nm a z (by rw [g4];exact mem_cons_self)
  refine ⟨a,us,v,rfl,rfl,ha1,by rw [g3.den.length];exact Nat.lt_of_lt_of_le h2 million,?_⟩
  have S1:=S.same e1
  refine ok.nx _ _ _ _ q1.2 (S.mut s i (ms:=a::(ns++ms)) (v:=.ref a) g1 (len_of h1) (fun b o hb hn=>?_) ?_ ?_ ?_ q1.1 ?_)
  ·rw [upd_ne (fun z=>hn (by rw [z,g4];exact mem_cons_self))];exact e1 _ _ hb
  ·have kp:∀ l:List Addr,(∀ b∈l,b≠a)->Kept l H1 (upd H1 a (.lst (us++[v]))):=fun l hl=>⟨fun b hb=>upd_ne (hl b hb),fun b o hb hn=>by
    have:b≠a:=fun z=>by rw [z,ha1] at hb;cases hb;cases (show true=false from hn)
    rw [upd_ne this];exact hb⟩
   have A:=(g3.same e1).kept (kp ns fun b hb z=>g5 (z ▸ hb))
   have B:=m1.kept (kp ms fun b hb z=>ham (z ▸ hb))
   exact .lst upd_same (ows_snoc B A)
  ·refine nodup_cons.mpr ⟨fun z=>?_,nodup_append.mpr ⟨g6,m2,fun y hy z hz e=>?_⟩⟩
   ·rcases mem_append.mp z with z|z
    ·exact g5 z
    ·exact ham z
   ·subst e;exact nm y hz (by rw [g4];exact mem_cons_of_mem _ hy)
  ·intro b hb
   rcases mem_cons.mp hb with rfl|hb
   ·exact .inl (by rw [g4];exact mem_cons_self)
   ·rcases mem_append.mp hb with hb|hb
    ·exact .inl (by rw [g4];exact mem_cons_of_mem _ hb)
    ·rcases m3 b hb with y|y
     ·exact .inr (.inl y)
     ·exact .inr (.inr y)
  ·intro j hj b hb
   obtain ⟨_,_,us',w⟩:=S1.fr j b hb
   have:b≠a:=fun z=>by
    have:=S.dj i j b (by rw [g4,z];exact mem_cons_self) hb
    rw [this] at q1;exact q1.1 hj
   exact ⟨us',by rw [upd_ne this];exact w⟩⟩
end
def startR (N:List Str) (ds:List D):Ren:=ds.map (fun d=>some (false,d))++List.replicate (N.length - ds.length) none
theorem start_ok {K:W.Frag} {H:Hp} {vs:List V} {ds:List D} {N:List Str} (h:Dns K H vs ds):StOk K Z0 H (fun _=>[]) (startR N ds) (start N vs) H:=by
 have hl:=h.length
 refine ⟨Same.refl H,?_,fun i b d hi=>?_,fun _=>nodup_nil,(fun _ _ _ z=>by cases z),(fun _ _ z=>by cases z),fun _ z=>False.elim z⟩
 ·unfold startR L2.start;simp [hl]
 ·unfold startR at hi
  by_cases hlt:i < ds.length
  ·rw [List.getElem?_append_left (by simpa using hlt),List.getElem?_map] at hi
   cases e:ds[i]? with
   | none=>rw [e] at hi;cases hi
   | some c =>
    rw [e] at hi;cases hi
    obtain ⟨v,g1,g2⟩:=h.get e
    refine ⟨v,?_,Dn.same hid_z0 g2⟩
    unfold L2.start
    rw [List.getElem?_append_left (by rw [length_map,hl];exact hlt),List.getElem?_map,g1];rfl
  ·rw [List.getElem?_append_right (by simpa using Nat.le_of_not_lt hlt),List.getElem?_replicate] at hi
   split at hi<;>cases hi
theorem dmk {X:Cx} {K:W.Frag} {E:XK} {b:List Stmt} {t:TSD} {N:List Str} {vs:List V} {H:Hp} {Q:VK} {ds:List D} {Qd:D->Bool->Prop} {Xd:XD} (h:DSs X K E b t) (hd:Dns K H vs ds) (q:∀ d o v H',Qd d o->Same H H'->RR K H H' o v d->Q v H') (x:∀ C H',Xd C->Same H H'->E (.ref C) none H')
  (r:t { nx:=fun _=>Qd .none true,rt:=Qd } (startR N ds) Xd):∃ t,PSs X b t/\t { nx:=fun _ H'=>Q .non H',rt:=Q } (start N vs) H :=
 ⟨_,h.q.h,H,_,_,_,Xd,start_ok hd,r,⟨fun ν ρ σ H' a S=>q _ _ _ _ a S.sm ⟨[],.non,nodup_nil,fun _ z=>by cases z⟩,fun _ _ _ _ z=>z.elim,fun _ _ _ _ z=>z.elim,q⟩,x⟩
theorem ok0 {P:Program} {w:World} {K:W.Frag} {mg:Str->Option Value} {base:Heap} {x qual:Str} {st:Stmt} {f:Addr} {fd:FuncData} {N ps:List Str} {k:Nat} {sp:SpD} (F:Fun K x qual st f fd) (S:FnScope N ps (defScope st)) (len:∀ ds Q X,sp ds Q X->ds.length=ps.length)
  (hbody:∀ (cdv:Value) (A:Around) (outer:List Env) (s:Shared) (H:Hp) (E:XK),Room k (A.deeper (envOfC qual (defScope st) s.heap.objs.size f cdv))->∃ t,DSs (cxOf CX0 P w K mg base N qual (defScope st) f cdv A outer s H E).nox K E0 (defBody st) t/\∀ ds Qd,sp ds Qd Xf->t { nx:=fun _=>Qd .none true,rt:=Qd } (startR N ds) Xf)
  (hx:∀ ds Qd Xd,sp ds Qd Xd->sp ds Qd Xf):FnOk P w K mg base CX0 (k+1) f fd ps (SpL K sp):=by
 refine F.ok S (fun vs H Q E h=>?_) (fun cdv A outer s H vs Q E hr h=>?_)
 ·obtain ⟨ds,Qd,Xd,h1,h2,_⟩:=h
  rw [h1.length];exact len ds Qd Xd h2
 ·obtain ⟨ds,Qd,Xd,h1,h2,h3,h4⟩:=h
  obtain ⟨t,D,r⟩:=hbody cdv A outer s H E hr
  exact dmk D h1 h3 (fun _ _ z _=>z.elim) (r ds Qd (hx _ _ _ h2))
theorem okE {P:Program} {w:World} {K:W.Frag} {mg:Str->Option Value} {base:Heap} {x qual:Str} {st:Stmt} {f:Addr} {fd:FuncData} {N ps:List Str} {k:Nat} {sp:SpD} (F:Fun K x qual st f fd) (S:FnScope N ps (defScope st)) (len:∀ ds Q X,sp ds Q X->ds.length=ps.length)
  (hbody:∀ (cdv:Value) (A:Around) (outer:List Env) (s:Shared) (H:Hp) (E:XK),Room k (A.deeper (envOfC qual (defScope st) s.heap.objs.size f cdv))->∃ t,DSs (cxOf (CXE P w base) P w K mg base N qual (defScope st) f cdv A outer s H E) K E (defBody st) t/\∀ ds Qd Xd,sp ds Qd Xd->t { nx:=fun _=>Qd .none true,rt:=Qd } (startR N ds) Xd) :
  FnOk P w K mg base (CXE P w base) (k+1) f fd ps (SpL K sp):=by
 refine F.okE S (fun vs H Q E h=>?_) (fun cdv A outer s H vs Q E hr h=>?_)
 ·obtain ⟨ds,Qd,Xd,h1,h2,_⟩:=h
  rw [h1.length];exact len ds Qd Xd h2
 ·obtain ⟨ds,Qd,Xd,h1,h2,h3,h4⟩:=h
  obtain ⟨t,D,r⟩:=hbody cdv A outer s H E hr
  exact dmk D h1 h3 h4 (r ds Qd Xd h2)
section
variable {X:Cx} {K:W.Frag} {E:XK} {pos:Pos} {e e1:Expr} {te:TD} {x:Str}
theorem dnS {s:Stmt} {t:TSD} (h:DS X.nox K E s t):DS X K E s t:=⟨qnS h.q⟩
theorem dnT {e:Expr} {t:TDT} (h:DT X.nox K E e t):DT X K E e t:=⟨qnT h.q⟩
def setAll (b:Bool):Ren->List Nat->List D->Ren
 | ρ,i::is,d::ds=>setAll b (ρ.set i (some (b&&!flat d,d))) is ds
 | ρ,_,_=>ρ
def unpK (ρ:Ren) (is:List Nat) (ds:List D) (k:Kd):Ren:=match eff (.tuple ds) k with
 | .own []=>setAll true ρ is ds
 | .old=>setAll false ρ is ds
 | _=>setAll false (frz ρ) is ds
def sets:L2.St->List Nat->List V->L2.St
 | σ,i::is,v::vs=>sets (σ.set i (some v)) is vs
 | σ,_,_=>σ
theorem all_old {H0 H:Hp} {ν:Nat->List Addr}:∀ {is:List Nat} {vs:List V} {ds:List D} {ρ:Ren} {σ:L2.St},StOk K Z0 H0 ν ρ σ H->Dns K (hid (Hd Z0 ν) H) vs ds->StOk K Z0 H0 ν (setAll false ρ is ds) (sets σ is vs) H
 | [],_,_,_,_,S,_=>S
 | i::is,_,_,_,_,S,.nil=>S
 | i::is,_,_,_,_,S,.cons h r=>by
  have:=all_old (is:=is) (S.setOld i h) r
  exact this
theorem all_own {H0 H':Hp}:∀ (is:List Nat) {vs:List V} {ds:List D} {ρ:Ren} {σ:L2.St} {ν:Nat->List Addr} {ms:List Addr},StOk K Z0 H0 ν ρ σ (hid (·∈ms) H')->Ows K H' vs ds ms->ms.Nodup->∃ ν',StOk K Z0 H0 ν' (setAll true ρ is ds) (sets σ is vs) H':=by
 intro is
 induction is with
 | nil=>intro vs ds ρ σ ν ms S _ _;exact ⟨ν,by unfold setAll sets;exact S.same hid_same⟩
 | cons i is ih =>
  intro vs ds ρ σ ν ms S r0 nd
  cases r0 with
  | nil=>exact ⟨ν,S.same hid_same⟩
  | cons h r =>
   rename_i v vs d ds n m
   rw [nodup_append] at nd
   have sm:Same (hid (·∈n++m) H') (hid (·∈m) H'):=hid_less fun a z=>mem_append_right _ z
   have nt:∀ a o,H' a=some o->muO o=false->hid (·∈m) H' a=some o:=fun a o ha hn=>hid_of ha fun z=>by
    exact (r.there a z).no ha hn
   have hk:Kept n H' (hid (·∈m) H'):=⟨fun a ha=>by
    unfold hid
    rw [if_neg fun z=>nd.2.2 a ha a z rfl],nt⟩
   show ∃ ν',StOk K Z0 H0 ν' (setAll true (ρ.set i (some (true&&!flat d,d))) is _) (sets (σ.set i (some v)) is _) H'
   cases hf:flat d with
   | true =>
    have S1:=(S.same sm).setOld i (v:=v) (d:=d) (den_hid (S.same sm).hl (den_kept nt h.den hf) hf)
    exact ih S1 r nd.2.1
   | false =>
    have S1:=S.setOwn [] i sm (h.kept hk) nd.1 fun a ha=>.inl (by unfold hid;rw [if_pos (mem_append_left _ ha)])
    exact ih S1 r nd.2.1
theorem unp_ok {H0 H H':Hp} {ν:Nat->List Addr} {ρ:Ren} {σ:L2.St} {k:Kd} {a:Addr} {ds:List D} (S:StOk K Z0 H0 ν ρ σ H) (e:Same H H') (h:Res K Z0 ν H H' k (.ref a) (.tuple ds)) (is:List Nat):∃ us ν',SqT K H' a us/\us.length=ds.length/\StOk K Z0 H0 ν' (unpK ρ is ds k) (sets σ is us) H':=by
 have h':Res K Z0 ν H H' (eff (.tuple ds) k) (.ref a) (.tuple ds):=by
  unfold eff
  split
  ·exact Res.flat h.den ‹_› (S.same e).hl _
  ·exact h
 have frzc:∃ us ν',SqT K H' a us/\us.length=ds.length/\StOk K Z0 H0 ν' (setAll false (frz ρ) is ds) (sets σ is us) H':=by
  obtain ⟨a',us,q,q1,q2⟩:=dns_of_tup h.den
  cases q
  exact ⟨us,_,q1,q2.length,all_old (S.same e).frz (Dns.same hid_z0 q2)⟩
 unfold unpK
 generalize eff (.tuple ds) k=k' at h'
 split
 ·obtain ⟨ms,m1,m2,m3⟩:=h'
  cases m1 with
  | tup q1 q2 =>
   have sm:Same H (hid (·∈ms) H'):=fun b o hb=>hid_of (e _ _ hb) fun z=>by
    rcases m3 b z with y|⟨_,y,_⟩
    ·rw [hb] at y;cases y
    ·cases y
   obtain ⟨ν',S'⟩:=all_own is (S.same sm) q2 m2
   exact ⟨_,ν',q1,q2.den.length,S'⟩
 ·obtain ⟨a',us,q,q1,q2⟩:=dns_of_tup (show Dn K _ _ _ from h')
  cases q
  exact ⟨us,ν,Same.tup hid_same q1,q2.length,all_old (S.same e) q2⟩
 ·exact frzc
def gNames:List Nat->TGs
 | []=>gNil
 | i::is=>gCons (gName i) (gNames is)
theorem gNames_of:∀ (is:List Nat) (vs:List V) (σ:L2.St) (H:Hp) (Q:L2.St->Hp->Prop),vs.length=is.length->Q (sets σ is vs) H->gNames is vs σ H Q
 | [],[],σ,H,Q,_,q=>⟨rfl,q⟩
 | i::is,v::vs,σ,H,Q,hl,q=>⟨v,vs,rfl,gNames_of is vs _ H Q (by simpa using hl) q⟩
 | [],_::_,_,_,_,hl,_=>by cases hl
 | _::_,[],_,_,_,hl,_=>by cases hl
def dUnp (is:List Nat) (te:TD):TSD:=fun Dd ρ Xd=>te ρ (fun d k=>match d with
 | .tuple ds=>ds.length=is.length/\Dd.nx (unpK ρ is ds k)
 | _=>False) Xd
theorem dps_unp (is:List Nat) (n:Nat) {es:List Expr} {kt:Nat} {pt:Pos} (hn':is.length=n) (hK:X.K=K) (hc:X.calm=true) (hg:QGs X es (gNames is)) (hn:(assignEach es X.env).length=n) (hst:(assignEach es X.env).findIdx? (·.1)=none) (he:DE X K E e te)
  (hs:swapsWithSole [.Tuple es kt pt] e pos.line X.env=pure false:=by rfl) (hw:swappedStores [.Tuple es kt pt] e X.env=pure none:=by rfl) (h1:(assignEach [.Tuple es kt pt] X.env).map (·.2)=[assign (.Tuple es kt pt) X.env]:=by rfl) :
  DS X K E (.Assign [.Tuple es kt pt] e pos) (dUnp is te):=⟨qs_imp (qps_asg he.q (qpg_tupK K n hK hc hg hn hst) hs hw h1) fun En σ H h=>by
 obtain ⟨H0,ν,ρ,Dd,Xd,S,h1,ok,x⟩:=h
 refine ⟨H0,ν,ρ,_,Xd,S,h1,fun d k v H' q1 e1 r1=>?_,x⟩
 cases d with
 | tuple ds =>
  obtain ⟨a,us0,rfl,_,_⟩:=dns_of_tup r1.den
  obtain ⟨us,ν',k1,k2,S'⟩:=unp_ok S e1 r1 is
  exact ⟨a,us,rfl,k1,by rw [k2,q1.1,hn'],gNames_of is us σ H' _ (by rw [k2,q1.1]) (ok.nx _ _ _ _ q1.2 S')⟩
 | _=>exact q1.elim⟩
theorem flats_ints {ns:List Int}:flats (ns.map PyData.int)=true:=flats_iff.mpr fun d hd=>by
 obtain ⟨n,_,rfl⟩:=mem_map.mp hd
 rfl
theorem dns_of_ints {H:Hp}:∀ (ns:List Int),Dns K H (ns.map V.int) (ns.map PyData.int)
 | []=>.nil
 | n::r=>.cons (.int n) (dns_of_ints r)
def dInts (ns:List Int):TDA:=fun _ Q _=>Q (ns.map PyData.int) (.own [])
theorem dpa_ints {es:List Expr} {ns:List Int} (h:intsOf es=some ns):DA X K E es (dInts ns):=⟨qa_imp (qpa_ints h) fun σ H Q h=>by
 obtain ⟨H0,ν,ρ,Qd,Xd,S,h1,q,x⟩:=h
 exact q _ _ _ H h1 (Same.refl H) ⟨[],ows_flat (dns_of_ints ns) flats_ints,nodup_nil,fun _ z=>by cases z⟩⟩
end
def iD (r:List Int):D:=.list (r.map PyData.int)
def gD (g:List (List Int)):D:=.list (g.map iD)
theorem flat_int {i:Int}:flat (.int i)=true:=rfl
theorem flat_bool {i:Bool}:flat (.bool i)=true:=rfl
theorem flat_str {i:Str}:flat (.str i)=true:=rfl
theorem flat_non:flat .none=true:=rfl
theorem flat_list {l:List D}:flat (.list l)=false:=rfl
theorem flat_tuple {l:List D}:flat (.tuple l)=flats l:=rfl
theorem flats_nil:flats []=true:=rfl
theorem flats_cons {d:D} {l:List D}:flats (d::l)=(flat d&&flats l):=rfl
theorem flat_iD {r:List Int}:flat (iD r)=false:=rfl
theorem flat_gD {r:List (List Int)}:flat (gD r)=false:=rfl
def lpD (ds:List D) (bnd:TGD) (tb:TSD):TSD:=fun Dd ρ Xd=>∃ W:Nat->Ren->Prop,W 0 ρ/\(∀ i d ρ,ds[i]?=some d->W i ρ->bnd d ρ fun ρ'=>tb { Dd with nx:=W (i+1),ct:=W (i+1),bk:=Dd.nx } ρ' Xd)/\∀ ρ,W ds.length ρ->Dd.nx ρ
theorem lp_list {ds:List D} {bnd:TGD} {tb:TSD} {Dd:EndsD} {ρ:Ren} {Xd:XD} (W:Nat->Ren->Prop) (h0:W 0 ρ) (hs:∀ i d ρ,ds[i]?=some d->W i ρ->bnd d ρ fun ρ'=>tb { Dd with nx:=W (i+1),ct:=W (i+1),bk:=Dd.nx } ρ' Xd) (hd:∀ ρ,W ds.length ρ->Dd.nx ρ):lpD ds bnd tb Dd ρ Xd:=⟨W,h0,hs,hd⟩
theorem rngD_get {lo:Int} {n i:Nat} {d:D} (h:(rngD lo n)[i]?=some d):i < n/\d=.int (lo+i):=by
 unfold rngD at h
 rw [List.getElem?_map] at h
 cases e:(List.range n)[i]? with
 | none=>rw [e] at h;cases h
 | some j =>
  rw [e] at h;cases h
  obtain ⟨h1,h2⟩:=List.getElem?_eq_some_iff.mp e
  rw [List.getElem_range] at h2
  rw [length_range] at h1
  exact ⟨h1,by rw [h2]⟩
theorem rngD_len {lo:Int} {n:Nat}:(rngD lo n).length=n:=by unfold rngD;rw [length_map,length_range]
theorem lp_rng {lo:Int} {n:Nat} {bnd:TGD} {tb:TSD} {Dd:EndsD} {ρ:Ren} {Xd:XD} (W:Nat->Ren->Prop) (h0:W 0 ρ) (hs:∀ (i:Nat) ρ,i < n->W i ρ->bnd (.int (lo+i)) ρ fun ρ'=>tb { Dd with nx:=W (i+1),ct:=W (i+1),bk:=Dd.nx } ρ' Xd) (hd:∀ ρ,W n ρ->Dd.nx ρ):lpD (rngD lo n) bnd tb Dd ρ Xd :=
 ⟨W,h0,fun i d ρ e w=>by obtain ⟨h1,rfl⟩:=rngD_get e;exact hs i ρ h1 w,fun ρ w=>hd ρ (by rw [rngD_len] at w;exact w)⟩
def onB (d:D) (Q:Bool->Prop):Prop:=match d with|.bool i=>Q i|_=>False
def onI (d:D) (Q:Int->Prop):Prop:=match d with|.int i=>Q i|_=>False
def onL (d:D) (Q:List D->Prop):Prop:=match d with|.list l=>Q l|_=>False
def onT (d:D) (Q:List D->Prop):Prop:=match d with|.tuple l=>Q l|_=>False
section
variable {t u:TSD} {te ta tb tc:TD} {tA tB:TDT} {tl:TDA} {Dd:EndsD} {ρ:Ren} {Xd:XD} {Q:QD} {QT:Bool->Prop} {QA:List D->Kd->Prop} {i:Nat} {d e:D} {k l:Kd}
theorem w_onB {b:Bool} {Q:Bool->Prop} (h:Q b):onB (.bool b) Q:=h
theorem w_onI {b:Int} {Q:Int->Prop} (h:Q b):onI (.int b) Q:=h
theorem w_onL {b:List D} {Q:List D->Prop} (h:Q b):onL (.list b) Q:=h
theorem w_onT {b:List D} {Q:List D->Prop} (h:Q b):onT (.tuple b) Q:=h
theorem w_seq (h:t { Dd with nx:=fun ρ'=>u Dd ρ' Xd } ρ Xd):dSeq t u Dd ρ Xd:=h
theorem w_set (h:te ρ (fun d k=>Dd.nx (setK ρ i d k)) Xd):dSet i te Dd ρ Xd:=h
theorem w_ret (h:te ρ (fun d k=>Dd.rt d (rtK d k)) Xd):dRet te Dd ρ Xd:=h
theorem w_drop (h:te ρ (fun _ _=>Dd.nx ρ) Xd):dDrop te Dd ρ Xd:=h
theorem w_next (h:Dd.nx ρ):dNext Dd ρ Xd:=h
theorem w_ifS (h:tA ρ (fun b=>if b=true then t Dd ρ Xd else u Dd ρ Xd) Xd):dIfS tA t u Dd ρ Xd:=h
theorem w_nx {f b c:Ren->Prop} {r:D->Bool->Prop} (h:f ρ):EndsD.nx ⟨f,r,b,c⟩ ρ:=h
theorem w_rt {f b c:Ren->Prop} {r:D->Bool->Prop} {o:Bool} (h:r d o):EndsD.rt ⟨f,r,b,c⟩ d o:=h
theorem w_frz (h:t Dd (frz1 i ρ) Xd):dFrz i t Dd ρ Xd:=h
theorem w_c (h:Q d .old):dC d ρ Q Xd:=h
theorem w_op {f:F2} (h:ta ρ (fun d k=>tb ρ (fun e l=>f d k e l Q) Xd) Xd):dOp f ta tb ρ Q Xd:=h
theorem w_fI0 {g:Int->Int->D} {x y:Int} (h:Q (g x y) .old):fI T2 g (.int x) k (.int y) l Q:=⟨trivial,h⟩
theorem w_fI {C:Int->Int->Prop} {g:Int->Int->D} {x y:Int} (h:C x y/\Q (g x y) .old):fI C g (.int x) k (.int y) l Q:=h
theorem w_addI {x y:Int} (h:Q (.int (x+y)) .old):fAdd (.int x) k (.int y) l Q:=h
theorem w_addL {x y:List D} (h:x.length+y.length<=1000000/\Q (.list (x++y)) (kels2 x k y l)):fAdd (.list x) k (.list y) l Q:=h
theorem w_addS {x y:Str} (h:x.length+y.length<=1000000/\Q (.str (x++y)) .old):fAdd (.str x) k (.str y) l Q:=h
def IxD (ds:List D) (i:Int) (Q:D->Prop):Prop:=∃ x,atI ds i=some x/\Q x
theorem w_ixL {x:List D} {y:Int} (h:IxD x y fun d=>Q d k.sub):fIx (.list x) k (.int y) l Q:=h
theorem w_ixT {x:List D} {y:Int} (h:IxD x y fun d=>Q d k.sub):fIx (.tuple x) k (.int y) l Q:=h
theorem w_eq {f:Bool->Bool} (h:(d.canLay0=true/\e.canLay0=true/\d.depth<=32)/\Q (.bool (f (PyData.eqv d e))) .old):fEq f d k e l Q:=⟨h.1.1,h.1.2.1,h.1.2.2,h.2⟩
theorem w_eqI {f:Bool->Bool} {x y:Int} (h:Q (.bool (f (x==y))) .old):fEq f (.int x) k (.int y) l Q:=⟨rfl,rfl,Nat.zero_le _,h⟩
theorem w_in {f:Bool->Bool} {x:List D} (h:(scalD d=true/\x.all scalD=true)/\Q (.bool (f (inD d x))) .old):fIn f d k (.list x) l Q:=⟨h.1.1,h.1.2,h.2⟩
theorem w_inT {f:Bool->Bool} {x:List D} (h:(scalD d=true/\x.all scalD=true)/\Q (.bool (f (inD d x))) .old):fIn f d k (.tuple x) l Q:=⟨h.1.1,h.1.2,h.2⟩
theorem w_neg (h:ta ρ (fun d _=>onI d fun i=>Q (.int (-i)) .old) Xd):dNeg ta ρ Q Xd:=h
theorem w_notV (h:ta ρ (fun d _=>onB d fun i=>Q (.bool (!i)) .old) Xd):dNotV ta ρ Q Xd:=h
theorem w_andV (h:ta ρ (fun d _=>onB d fun i=>if i=true then tb ρ Q Xd else Q (.bool false) .old) Xd):dAndV ta tb ρ Q Xd:=h
theorem w_B (h:ta ρ (fun d _=>onB d QT) Xd):dB ta ρ QT Xd:=h
theorem w_or (h:tA ρ (fun b=>if b=true then QT true else tB ρ QT Xd) Xd):dOr tA tB ρ QT Xd:=h
theorem w_not (h:tA ρ (fun b=>QT (!b)) Xd):dNot tA ρ QT Xd:=h
theorem w_true (h:QT true):dTrue ρ QT Xd:=h
theorem w_tru (h:ta ρ (fun d _=>∃ b,truD d=some b/\QT b) Xd):dTru ta ρ QT Xd:=h
theorem w_truL {x:List D} (h:QT (!x.isEmpty)):∃ b,truD (.list x)=some b/\QT b:=⟨_,rfl,h⟩
theorem w_truB {x:Bool} (h:QT x):∃ b,truD (.bool x)=some b/\QT b:=⟨_,rfl,h⟩
theorem w_chain {f g:Int->Int->Bool} (h:ta ρ (fun x _=>tb ρ (fun y _=>onI x fun i=>onI y fun j=>if f i j=true then tc ρ (fun z _=>onI z fun l=>Q (.bool (g j l)) .old) Xd else Q (.bool false) .old) Xd) Xd):dChain f g ta tb tc ρ Q Xd:=by
 unfold dChain
 have key:∀ x y:D,(onI x fun i=>onI y fun j=>if f i j=true then tc ρ (fun z _=>onI z fun l=>Q (.bool (g j l)) .old) Xd else Q (.bool false) .old)=(match x,y with
  | .int i,.int j=>if f i j=true then tc ρ (fun z _=>match z with|.int l=>Q (.bool (g j l)) .old|_=>False) Xd else Q (.bool false) .old
  | _,_=>False):=fun x y=>by
  cases x<;>first|rfl|(cases y<;>rfl)
 simp only [key] at h
 exact h
theorem w_nil (h:QA [] (.own [])):dNil ρ QA Xd:=h
theorem w_cons (h:ta ρ (fun d k=>tl ρ (fun ds l=>QA (d::ds) (kcons d k l)) Xd) Xd):dCons ta tl ρ QA Xd:=h
theorem w_ints {ns:List Int} (h:QA (ns.map PyData.int) (.own [])):dInts ns ρ QA Xd:=h
theorem w_tup (h:tl ρ (fun ds k=>ds.length<=1000/\Q (.tuple ds) k) Xd):dTup tl ρ Q Xd:=h
theorem w_lst (h:tl ρ (fun ds k=>ds.length<=1000/\Q (.list ds) k) Xd):dLst tl ρ Q Xd:=h
theorem w_call {sp:SpD} (h:tl ρ (fun ds _=>sp ds (fun d o=>Q d (kRet o)) Xd) Xd):dCall sp tl ρ Q Xd:=h
theorem w_call0 {sp:SpD} (h:tl ρ (fun ds _=>sp ds (fun d o=>Q d (kRet o)) Xf) Xd):dCall0 sp tl ρ Q Xd:=h
theorem w_cb {g:FA} (h:tl ρ (fun ds k=>g ds k Q) Xd):dCB g tl ρ Q Xd:=h
theorem w_len {x:List D} (h:Q (.int x.length) .old):fLen [.list x] k Q:=h
theorem w_lenT {x:List D} (h:Q (.int x.length) .old):fLen [.tuple x] k Q:=h
theorem w_lenS {x:List D} (h:Q (.int x.length) .old):fLen [.dict [(.none,.list x)]] k Q:=h
theorem intsD_map:∀ (ns:List Int),intsD (ns.map PyData.int)=some ns
 | []=>rfl
 | n::r=>by show (intsD (r.map PyData.int)).map (n::·)=_;rw [intsD_map r];rfl
theorem w_bls {f:List Bool->Bool} {x:List D} (h:∃ ns,boolsD x=some ns/\Q (.bool (f ns)) .old):fBls f [.list x] k Q:=h
theorem w_list {x:List D} (h:Q (.list x) (kels x k)):fList [.list x] k Q:=h
theorem w_max2 {x y:Int} (h:Q (.int (if y > x then y else x)) .old):fMax [.int x,.int y] k Q:=h
theorem w_isi {f:D->Bool} (h:ta ρ (fun d _=>noDict d=true/\Q (.bool (f d)) .old) Xd):dIs f ta ρ Q Xd:=h
theorem w_sl {f:F3} {tlo thi:TDO} (h:te ρ (fun d k=>tlo ρ (fun l=>thi ρ (fun h=>f d k l h Q) Xd) Xd) Xd):dSl f te tlo thi ρ Q Xd:=h
theorem w_noPart {Q:Option Int->Prop} (h:Q none):dNoPart ρ Q Xd:=h
theorem w_part {Q:Option Int->Prop} (h:te ρ (fun d _=>onI d fun i=>Q (some i)) Xd):dPart te ρ Q Xd:=h
theorem w_slL {x:List D} {lo hi:Option Int} (h:Q (.list (cutD x lo hi)) (kels (cutD x lo hi) k)):fSl (.list x) k lo hi Q:=h
theorem w_bName {Q:Ren->Prop} (h:Q (ρ.set i (some (false,d)))):bName i d ρ Q:=h
theorem w_for {ti:TDI} {bnd:TGD} (h:ti ρ (fun ds b=>b=true/\lpD ds bnd t Dd ρ Xd) Xd):dFor ti bnd t Dd ρ Xd:=h
theorem w_iL {Q:List D->Bool->Prop} (h:te ρ (fun d k=>onL d fun ds=>Q ds k.isOld) Xd):iL te ρ Q Xd:=h
theorem w_iT {Q:List D->Bool->Prop} (h:te ρ (fun d k=>onT d fun ds=>Q ds k.isOld) Xd):iT te ρ Q Xd:=h
def on1I (ds:List D) (Q:Int->Prop):Prop:=match ds with|[.int j]=>Q j|_=>False
theorem w_on1I {x:Int} {Q:Int->Prop} (h:Q x):on1I [.int x] Q:=h
theorem w_iR1 {Q:List D->Bool->Prop} (h:tl ρ (fun ds _=>on1I ds fun j=>(-(2 ^ 62)<=j/\j < 2 ^ 62)/\Q (rngD 0 j.toNat) true) Xd):iR1 tl ρ Q Xd:=by
 have e:(fun (ds:List D) (_:Kd)=>on1I ds fun j=>(-(2 ^ 62)<=j/\j < 2 ^ 62)/\Q (rngD 0 j.toNat) true)=(fun ds _=>match ds with|[.int j]=>-(2 ^ 62)<=j/\j < 2 ^ 62/\Q (rngD 0 j.toNat) true|_=>False):=by
  funext ds _
  unfold on1I
  split
  ·exact propext and_assoc
  ·rfl
 rw [e] at h
 exact h
theorem w_unp {is:List Nat} (h:te ρ (fun d k=>onT d fun ds=>ds.length=is.length/\Dd.nx (unpK ρ is ds k)) Xd):dUnp is te Dd ρ Xd:=h
theorem w_raise {C:Addr} (h:tl ρ (fun ds _=>ds.length<=1000/\Xd C) Xd):dRaise C tl Dd ρ Xd:=h
def LcD (f:D->Els->(Els->Prop)->Prop) (ds:List D) (ok:Bool) (Q:QD):Prop:=go f ds [] fun es=>Q (.list (es.map (·.1))) (if es.all (·.2)=true then .own [] else if ok=true then .old else .mix)
theorem w_lc {ti:TDI} {T:List Nat} {bnd:TGD} {tif:TDT} {tb:TB} {own:List Str} {cap:List (Str × Nat)} (h:ti ρ (fun ds b=>LcD (fun d es Q'=>bnd d (dropS (capR own cap ρ) T) fun ρ'=>tif ρ' (fun c=>if c=true then tb ρ' es Q' else Q' es) Xf) ds (b&&capOk cap ρ) Q) Xd):dLC ti T bnd tif tb own cap ρ Q Xd:=h
theorem w_emit {es:Els} {Q:Els->Prop} (h:te ρ (fun d k=>es.length < 1000000/\(eff d k).isOld=true/\Q (es++[(d,isOwnK (eff d k))])) Xf):dEmit te ρ es Q:=h
theorem w_bFor {ti:TDI} {T:List Nat} {bnd:TGD} {tif:TDT} {tb:TB} {es:Els} {Q:Els->Prop} (h:ti ρ (fun ds b=>b=true/\go (fun d es Q'=>bnd d (dropS ρ T) fun ρ'=>tif ρ' (fun c=>if c=true then tb ρ' es Q' else Q' es) Xf) ds es Q) Xf):bFor ti T bnd tif tb ρ es Q:=h
theorem w_ift {A B:Prop} (h:A):if (true:Bool)=true then A else B:=h
theorem w_iff {A B:Prop} (h:B):if (false:Bool)=true then A else B:=by rw [if_neg Bool.false_ne_true];exact h
theorem setK_int {x:Int}:setK ρ i (.int x) k=ρ.set i (some (false,.int x)):=rfl
theorem setK_bool {x:Bool}:setK ρ i (.bool x) k=ρ.set i (some (false,.bool x)):=rfl
theorem setK_str {x:Str}:setK ρ i (.str x) k=ρ.set i (some (false,.str x)):=rfl
theorem setK_non:setK ρ i .none k=ρ.set i (some (false,.none)):=rfl
theorem setK_own {x:List D} {s:List Nat}:setK ρ i (.list x) (.own s)=(dropS ρ s).set i (some (true,.list x)):=rfl
theorem setK_old {x:List D}:setK ρ i (.list x) .old=ρ.set i (some (false,.list x)):=rfl
theorem setK_mix {x:List D}:setK ρ i (.list x) .mix=(frz ρ).set i (some (false,.list x)):=rfl
theorem setK_ownI {x:List Int} {s:List Nat}:setK ρ i (iD x) (.own s)=(dropS ρ s).set i (some (true,iD x)):=rfl
theorem setK_oldI {x:List Int}:setK ρ i (iD x) .old=ρ.set i (some (false,iD x)):=rfl
theorem setK_mixI {x:List Int}:setK ρ i (iD x) .mix=(frz ρ).set i (some (false,iD x)):=rfl
theorem setK_ownG {x:List (List Int)} {s:List Nat}:setK ρ i (gD x) (.own s)=(dropS ρ s).set i (some (true,gD x)):=rfl
theorem setK_oldG {x:List (List Int)}:setK ρ i (gD x) .old=ρ.set i (some (false,gD x)):=rfl
theorem setK_mixG {x:List (List Int)}:setK ρ i (gD x) .mix=(frz ρ).set i (some (false,gD x)):=rfl
theorem setK_tup {x:List D} (h:flats x=true):setK ρ i (.tuple x) k=ρ.set i (some (false,.tuple x)):=by unfold setK;rw [flat_tuple,if_pos h]
theorem rtK_int {x:Int}:rtK (.int x) k=true:=rfl
theorem rtK_bool {x:Bool}:rtK (.bool x) k=true:=rfl
theorem rtK_str {x:Str}:rtK (.str x) k=true:=rfl
theorem rtK_non:rtK .none k=true:=rfl
theorem rtK_own {s:List Nat}:rtK d (.own s)=true:=by unfold rtK;rw [Bool.or_true]
theorem rtK_tup {x:List D} (h:flats x=true):rtK (.tuple x) k=true:=by unfold rtK;rw [flat_tuple,h];rfl
theorem kcons_flat (h:flat d=true):kcons d k (.own [])=.own []:=by unfold kcons;rw [if_pos h];rfl
theorem kcons_own {s:List Nat} (h:flat d=false):kcons d (.own s) (.own [])=.own (s++[]):=by
 unfold kcons;rw [h,if_neg Bool.false_ne_true]
 show (if disj s []=true then Kd.own (s++[]) else .mix)=_
 rw [if_pos (by unfold disj;simp)]
theorem kcons_old (h:flat d=false):kcons d .old (.own [])=.old:=by unfold kcons;rw [h];rfl
theorem frz_nil:frz []=[]:=rfl
theorem frz_some {b:Bool} {r:Ren}:frz (some (b,d)::r)=some (false,d)::frz r:=rfl
theorem frz_none {r:Ren}:frz (none::r)=none::frz r:=rfl
theorem dropS_nil:dropS ρ []=ρ:=rfl
theorem dropS_cons {s:List Nat}:dropS ρ (i::s)=dropS (ρ.set i none) s:=rfl
theorem kRet_t:kRet true=.own []:=rfl
theorem kRet_f:kRet false=.mix:=rfl
theorem sub_own:Kd.sub (.own [])=.own []:=rfl
theorem sub_old:Kd.sub .old=.old:=rfl
theorem sub_ownc {s:List Nat}:Kd.sub (.own (i::s))=.mix:=rfl
theorem sub_mix:Kd.sub .mix=.mix:=rfl
theorem isOld_own:Kd.isOld (.own [])=true:=rfl
theorem isOld_old:Kd.isOld .old=true:=rfl
theorem isOld_mix:Kd.isOld .mix=false:=rfl
theorem isOld_ownc {s:List Nat}:Kd.isOld (.own (i::s))=false:=rfl
theorem eff_int {x:Int}:eff (.int x) k=.own []:=rfl
theorem eff_bool {x:Bool}:eff (.bool x) k=.own []:=rfl
theorem eff_str {x:Str}:eff (.str x) k=.own []:=rfl
theorem eff_tup {x:List D} (h:flats x=true):eff (.tuple x) k=.own []:=by unfold eff;rw [flat_tuple,h];rfl
theorem eff_ltc {x:List D}:eff (.list x) k=k:=rfl
theorem eff_iD {x:List Int}:eff (iD x) k=k:=rfl
theorem eff_gD {x:List (List Int)}:eff (gD x) k=k:=rfl
theorem isOwnK_own:isOwnK (.own [])=true:=rfl
theorem isOwnK_old:isOwnK .old=false:=rfl
theorem w_v0 {r:Ren} (q:Q d .old):dVar 0 (some (false,d)::r) Q Xd:=⟨false,d,rfl,q⟩
theorem w_v1 {x0:Option (Bool × D)} {r:Ren} (q:Q d .old):dVar 1 (x0::some (false,d)::r) Q Xd:=⟨false,d,rfl,q⟩
theorem w_o1 {x0:Option (Bool × D)} {r:Ren} (q:Q d (.own [1])):dVar 1 (x0::some (true,d)::r) Q Xd:=⟨true,d,rfl,q⟩
theorem w_v2 {x0 x1:Option (Bool × D)} {r:Ren} (q:Q d .old):dVar 2 (x0::x1::some (false,d)::r) Q Xd:=⟨false,d,rfl,q⟩
theorem w_o2 {x0 x1:Option (Bool × D)} {r:Ren} (q:Q d (.own [2])):dVar 2 (x0::x1::some (true,d)::r) Q Xd:=⟨true,d,rfl,q⟩
theorem w_v3 {x0 x1 x2:Option (Bool × D)} {r:Ren} (q:Q d .old):dVar 3 (x0::x1::x2::some (false,d)::r) Q Xd:=⟨false,d,rfl,q⟩
theorem w_o3 {x0 x1 x2:Option (Bool × D)} {r:Ren} (q:Q d (.own [3])):dVar 3 (x0::x1::x2::some (true,d)::r) Q Xd:=⟨true,d,rfl,q⟩
theorem w_v4 {x0 x1 x2 x3:Option (Bool × D)} {r:Ren} (q:Q d .old):dVar 4 (x0::x1::x2::x3::some (false,d)::r) Q Xd:=⟨false,d,rfl,q⟩
theorem w_o4 {x0 x1 x2 x3:Option (Bool × D)} {r:Ren} (q:Q d (.own [4])):dVar 4 (x0::x1::x2::x3::some (true,d)::r) Q Xd:=⟨true,d,rfl,q⟩
theorem w_v5 {x0 x1 x2 x3 x4:Option (Bool × D)} {r:Ren} (q:Q d .old):dVar 5 (x0::x1::x2::x3::x4::some (false,d)::r) Q Xd:=⟨false,d,rfl,q⟩
theorem w_o5 {x0 x1 x2 x3 x4:Option (Bool × D)} {r:Ren} (q:Q d (.own [5])):dVar 5 (x0::x1::x2::x3::x4::some (true,d)::r) Q Xd:=⟨true,d,rfl,q⟩
theorem w_v6 {x0 x1 x2 x3 x4 x5:Option (Bool × D)} {r:Ren} (q:Q d .old):dVar 6 (x0::x1::x2::x3::x4::x5::some (false,d)::r) Q Xd:=⟨false,d,rfl,q⟩
theorem w_v7 {x0 x1 x2 x3 x4 x5 x6:Option (Bool × D)} {r:Ren} (q:Q d .old):dVar 7 (x0::x1::x2::x3::x4::x5::x6::some (false,d)::r) Q Xd:=⟨false,d,rfl,q⟩
theorem w_o7 {x0 x1 x2 x3 x4 x5 x6:Option (Bool × D)} {r:Ren} (q:Q d (.own [7])):dVar 7 (x0::x1::x2::x3::x4::x5::x6::some (true,d)::r) Q Xd:=⟨true,d,rfl,q⟩
theorem w_v8 {x0 x1 x2 x3 x4 x5 x6 x7:Option (Bool × D)} {r:Ren} (q:Q d .old):dVar 8 (x0::x1::x2::x3::x4::x5::x6::x7::some (false,d)::r) Q Xd:=⟨false,d,rfl,q⟩
theorem w_o8 {x0 x1 x2 x3 x4 x5 x6 x7:Option (Bool × D)} {r:Ren} (q:Q d (.own [8])):dVar 8 (x0::x1::x2::x3::x4::x5::x6::x7::some (true,d)::r) Q Xd:=⟨true,d,rfl,q⟩
theorem w_v9 {x0 x1 x2 x3 x4 x5 x6 x7 x8:Option (Bool × D)} {r:Ren} (q:Q d .old):dVar 9 (x0::x1::x2::x3::x4::x5::x6::x7::x8::some (false,d)::r) Q Xd:=⟨false,d,rfl,q⟩
theorem w_v10 {x0 x1 x2 x3 x4 x5 x6 x7 x8 x9:Option (Bool × D)} {r:Ren} (q:Q d .old):dVar 10 (x0::x1::x2::x3::x4::x5::x6::x7::x8::x9::some (false,d)::r) Q Xd:=⟨false,d,rfl,q⟩
theorem w_o11 {x0 x1 x2 x3 x4 x5 x6 x7 x8 x9 x10:Option (Bool × D)} {r:Ren} (q:Q d (.own [11])):dVar 11 (x0::x1::x2::x3::x4::x5::x6::x7::x8::x9::x10::some (true,d)::r) Q Xd:=⟨true,d,rfl,q⟩
end
structure RoomH (k:Nat) (A:Around):Prop where
 dp:A.depth+3*k+5 < recursionLimit
 un:A.units+16*k+200 < cLine
theorem RoomH.units {k:Nat} {A:Around} (r:RoomH k A):A.units+64 < cLine:=by have:=r.un;omega
abbrev cxH (P:Program) (w:World) (K:W.Frag) (mg:Str->Option Value) (base:Heap) (N:List Str) (qual:Str) (scope:Scope) (f:Addr) (cd:Value) (A:Around) (outer:List Env) (s:Shared) (H:Hp) (E:XK):Cx :=
 { cxOf CX0 P w K mg base N qual scope f cd A outer s H E with calm:=false }
theorem inv_startH {P:Program} {w:World} {K:W.Frag} {mg:Str->Option Value} {base:Heap} {N ps:List Str} {qual:Str} {scope:Scope} {f:Addr} {cd:Value} {A:Around} {outer:List Env} {s s1:Shared} {H:Hp} {E:XK} {us:List Value} {vs:List V}
  (S:FnScope N ps scope) (e0:Env0 P w K mg base A outer s H) (hl:vs.length=ps.length) (r:Vals vs us)
  (x:InCallC s s.heap.objs.size (bindL (envOfC qual scope s.heap.objs.size f cd).kindOf (ps.zip us) fun _=>none) (cellsFrom (s.heap.objs.size+1) scope.names []) (bindC (envOfC qual scope s.heap.objs.size f cd).kindOf (ps.zip us) fun _=>none) s1) :
  Inv (cxH P w K mg base N qual scope f cd A outer s H E) [] (L2.start N vs) H s1:=by
 have I:=inv_start (CX:=CX0) (E:=E) (qual:=qual) (f:=f) (cd:=cd) (A:={ A with handled:=none }) (outer:=outer) S rfl (show Env0 P w K mg base { A with handled:=none } outer s H from ⟨e0.frames,e0.mod,e0.bs,e0.bsz,e0.funs,e0.frf,e0.hok,e0.bare⟩) hl r x
 exact ⟨⟨I.ok.mod,I.ok.kind,I.ok.glob,I.ok.blt,I.ok.above,I.ok.inj,I.ok.has,I.ok.cab,(fun z=>nomatch z),Around.frames_deeper e0.frames,I.ok.stk,I.ok.exf,I.ok.bs,I.ok.bsz,I.ok.noex,I.ok.exfs,I.ok.funs,I.ok.frf⟩,I.os,I.bare,I.base,I.loc,I.cell,I.free,I.freeC,I.pin,I.hok,I.len⟩
def LEX (K:W.Frag) (t:TD):TEX:=fun σ H Q E=>∃ H0 ν ρ Qd Xd,StOk K Z0 H0 ν ρ σ H/\t ρ Qd Xd/\(∀ d k v H',Qd d k->Same H H'->Res K Z0 ν H H' k v d->Q v H')/\∀ C H',Xd C->Same H H'->E (.ref C) none H'
structure DEX (X:Cx) (K:W.Frag) (e:Expr) (t:TD):Prop where
 q:PEX X e (LEX K t)
abbrev TSDX:=EndsD->Ren->(Ren->Addr->Prop)->Prop
def LSX (K:W.Frag) (t:TSDX):TSX:=fun En Es σ H=>∃ H0 ν ρ Dd Xr,StOk K Z0 H0 ν ρ σ H/\t Dd ρ Xr/\EndsOk K H0 En Dd/\∀ ν' ρ' σ' H' C,Xr ρ' C->StOk K Z0 H0 ν' ρ' σ' H'->Es σ' (.ref C) none H'
structure DSX (X:Cx) (K:W.Frag) (s:Stmt) (t:TSDX):Prop where
 q:PSX X s (LSX K t)
structure DSXs (X:Cx) (K:W.Frag) (s:List Stmt) (t:TSDX):Prop where
 q:PSXs X s (LSX K t)
theorem pex_imp {X:Cx} {e:Expr} {t t':TEX} (h:PEX X e t) (i:∀ σ H Q E,t' σ H Q E->t σ H Q E):PEX X e t':=⟨fun pins s σ H Q E I w=>h.h pins s σ H Q E I (i σ H Q E w)⟩
theorem psx_imp {X:Cx} {e:Stmt} {t t':TSX} (h:PSX X e t) (i:∀ D E σ H,t' D E σ H->t D E σ H):PSX X e t':=⟨fun pins s σ H D E I w=>h.h pins s σ H D E I (i D E σ H w)⟩
section
variable {X:Cx} {K:W.Frag} {pos pos':Pos} {e:Expr}
def xCl (sp:SpD) (t:TDA):TD:=fun ρ Q Xd=>t ρ (fun ds _=>sp ds (fun d o=>Q d (kRet o)) Xd) Xf
theorem dex_call {x:Str} {ps:List Str} {k:Nat} {sp:SpD} {p:Pos} {es:List Expr} {t:TDA} (D:DfE X.prog X.w X.K X.mg X.base x ps k (SpL K sp)) (F:Flat X) (hr:Room k X.A) (ha:DA X.nox K E0 (e::es) t) (hg:Gl X x:=by rfl) (hdb:(x==("__debug__":Str))=false:=by decide)
  (he:starEach (e::es) X.env=(false,eval e X.env)::starEach es X.env:=by rfl) (hpl:(backTo pos (starEach es X.env)).any (·.1)=false:=by rfl):DEX X K (.Call (.Name x p) (e::es) [] pos) (xCl sp t):=⟨pex_imp (pex_call D F hr ha.q hg hdb he hpl) fun σ H Q E h=>by
 obtain ⟨H0,ν,ρ,Qd,Xd,S,h1,q,x⟩:=h
 refine ⟨H0,ν,ρ,_,Xf,S,h1,fun ds k vs H1 g1 e1 r1=>?_,fun _ _ z _=>z.elim⟩
 exact ⟨ds,_,Xd,r1.dens,g1,fun d o v H' a1 a2 a3=>q _ _ _ _ a1 (e1.trans a2) (rr_res e1 a3),fun C H' a1 a2=>x C H' a1 (e1.trans a2)⟩⟩
def xSt (i:Nat) (te:TD):TSDX:=fun Dd ρ Xr=>te ρ (fun d k=>Dd.nx (setK ρ i d k)) (Xr ρ)
theorem dsx_set (i:Nat) {x:Str} {te:TD} (hN:X.N.Nodup) (he:DEX X K e te) (hi:X.N[i]?=some x:=by rfl) (hx:Loc X.env.scope x:=by first|exact Or.inl rfl|exact Or.inr rfl) (hs:swapsWith e (some (.Name x pos')) pos.line X.env=pure false:=by rfl)
  (hf:X.fn x=true\/X.env.scope.names.lookup x=some .local:=by first|exact .inl rfl|exact .inr rfl|assumption):DSX X K (.Assign [.Name x pos'] e pos) (xSt i te):=⟨psx_imp (psx_set i hN he.q hi hx hs hf) fun D E σ H h=>by
 obtain ⟨H0,ν,ρ,Dd,Xr,S,h1,ok,x⟩:=h
 refine ⟨H0,ν,ρ,_,_,S,h1,fun d k v H' g1 g2 g3=>?_,fun C H' a b=>x _ _ _ _ _ a (S.same b)⟩
 obtain ⟨ν',S'⟩:=S.setK g2 g3 i
 exact ok.nx _ _ _ _ g1 S'⟩
theorem dsxs_one {s:Stmt} {t:TSDX} (h:DSX X K s t):DSXs X K [s] t:=⟨psxs_one h.q⟩
def xIf (tc:TDT) (a b:TSDX):TSDX:=fun Dd ρ Xr=>tc ρ (fun c=>if c=true then a Dd ρ Xr else b Dd ρ Xr) Xf
def opq (a:Addr):D:=.dict [(.bool true,.int (a:Nat))]
def onlyRt (Dd:EndsD):EndsD:={ nx:=fun _=>False,rt:=Dd.rt,bk:=fun _=>False,ct:=fun _=>False }
def dTryN (K:W.Frag) (mg:Str->Option Value) (R:Addr) (i:Nat) (tb:TSDX) (ts:Addr->Addr->TSD):TSD:=fun Dd ρ _=>tb Dd ρ fun ρ' C=>Fits K C R/\(∃ x,ExC K mg x C)/\ExK K C/\∀ ea,ts ea C (onlyRt Dd) (ρ'.set i (some (false,opq ea))) Xf
theorem dps_tryN (i:Nat) {E:XK} {x n:Str} {R:Addr} {b0:Stmt} {body suite:List Stmt} {tb:TSDX} {ts:Addr->Addr->TSD} {np hpos:Pos} {mg:Str->Option Value} (hK:X.K=K) (hmg:X.mg=mg) (F:Flat X) (hN:X.N.Nodup) (hg:Gl X x) (hm:mg x=some (.ref R)) (hb:DSXs X K body tb)
  (hs:∀ ea oe C y,XOf oe C->ExC K mg y C->ExK K C->DSs (X.within ea oe) K E0 (b0::suite) (ts ea C)) (hi:X.N[i]?=some n:=by rfl) (hln:X.env.kindOf n=some .local:=by rfl) (hln2:X.env.scope.names.lookup n=some .local:=by rfl) (hdb:(x==("__debug__":Str))=false:=by decide) :
  DS X K E (.Try body [.ExceptHandler (some (.Name x np)) (some n) (b0::suite) hpos] [] [] pos) (dTryN K mg R i tb ts):=⟨qs_imp (qps_tryN i K hK mg hmg F hN hg hm hb.q (fun ea oe C y h1 h2 h3=>(hs ea oe C y h1 h2 h3).q) hi hln hln2 hdb) fun En σ H h=>by
 obtain ⟨H0,ν,ρ,Dd,Xd,S,h1,ok,x⟩:=h
 refine ⟨H0,ν,ρ,Dd,_,S,h1,ok,fun ν' ρ' σ' H' C a S'=>?_⟩
 obtain ⟨a1,⟨y,a2⟩,a3,a4⟩:=a
 refine ⟨C,y,rfl,a1,a2,a3,fun ea _=>⟨H0,ν',_,onlyRt Dd,Xf,S'.setOld i (v:=.ref ea) (d:=opq ea) (.opq ea),a4 ea,⟨fun _ _ _ _ z=>z.elim,fun _ _ _ _ z=>z.elim,fun _ _ _ _ z=>z.elim,ok.rt⟩,fun _ _ z _=>z.elim⟩⟩⟩
def dIsX (K:W.Frag) (ea C D:Addr) (te:TD):TD:=fun ρ Q Xd=>te ρ (fun d _=>d=opq ea/\∃ b,PySem.W.kitOne K (.ref C) (.ref D)=some b/\Q (.bool b) .old) Xd
theorem dn_opq {H:Hp} {v:V} {a:Addr} (h:Dn K H v (opq a)):v=.ref a:=by
 unfold opq at h
 generalize hd:(PyData.dict [(.bool true,.int ((a:Nat):Int))])=d at h
 cases h with
 | opq b =>
  have:((a:Nat):Int)=((b:Nat):Int):=by injection hd with z;injection z with z _;injection z with _ z;injection z
  have:a=b:=by exact_mod_cast this
  rw [this]
 | _=>cases hd
theorem dpe_isX {E:XK} {ea C D:Addr} {oe:Obj} {x y:Str} {te:TD} {p p2:Pos} {ex:Expr} (hK:X.K=K) (hp:(ea,oe)∈X.pn) (hc:XOf oe C) (c:ExC K X.mg x C) (k:ExK K C) (hg:Gl X "isinstance") (hm:X.mg "isinstance"=none) (ha:DE X K E ex te) (hg2:Gl X y) (hm2:X.mg y=some (.ref D)) (hd:(y==("__debug__":Str))=false:=by decide)
  (he:starEach [ex,.Name y p2] X.env=(false,eval ex X.env)::starEach [.Name y p2] X.env:=by rfl) (hpl:(backTo pos (starEach [.Name y p2] X.env)).any (·.1)=false:=by rfl):DE X K E (.Call (.Name "isinstance" p) [ex,.Name y p2] [] pos) (dIsX K ea C D te) :=
 ⟨qe_imp (qpe_callB (call_isX hK hp hc.1 c k) hg hm (by decide +kernel) (qpa_cons ha.q (hs:=he) (qpa_cons (qpe_cls hg2 hm2 hd) qpa_nil)) (by decide) (by decide) he hpl) fun σ H Q h=>by
  obtain ⟨H0,ν,ρ,Qd,Xd,S,h1,q,x⟩:=h
  refine ⟨H0,ν,ρ,_,Xd,S,h1,fun d l v H' g1 g2 g3=>?_,x⟩
  obtain ⟨rfl,b,hb,g1⟩:=g1
  exact ⟨.ref D,b,by rw [dn_opq g3.den],.inl ⟨D,rfl,hb⟩,q _ _ _ _ g1 g2 (.bl _)⟩⟩
end
section
variable {X:Cx} {K:W.Frag}
theorem list_iD {x:List Int}:PyData.list (x.map PyData.int)=iD x:=rfl
theorem list_gD {x:List (List Int)}:PyData.list (x.map iD)=gD x:=rfl
theorem dop_fdivB:DOp X K (binaryOp .FloorDiv) (fI CDivB fun i j=>.int (i / j)):=⟨_,op_fdivB,prim_int⟩
end
section
variable {ρ:Ren} {i:Nat} {d:D} {k:Kd}
theorem unpK_own {is:List Nat} {ds:List D}:unpK ρ is ds (.own [])=setAll true ρ is ds:=by
 unfold unpK eff
 split<;>first|rfl|(split at*<;> simp_all)
theorem unpK_flat {is:List Nat} {ds:List D} (h:flats ds=true):unpK ρ is ds k=setAll true ρ is ds:=by
 unfold unpK
 have:eff (.tuple ds) k=.own []:=eff_tup h
 rw [this]
theorem setAll_cons {b:Bool} {is:List Nat} {ds:List D}:setAll b ρ (i::is) (d::ds)=setAll b (ρ.set i (some (b&&!flat d,d))) is ds:=rfl
theorem setAll_nil {b:Bool} {ds:List D}:setAll b ρ [] ds=ρ:=rfl
theorem app_iD {r:List Int} {x:Int}:PyData.list (r.map .int++[.int x])=iD (r++[x]):=by unfold iD;rw [map_append];rfl
theorem app_gD {g:List (List Int)} {r:List Int}:PyData.list (g.map iD++[iD r])=gD (g++[r]):=by unfold gD;rw [map_append];rfl
end
variable {α:Type}
theorem go_fltA {f:D->Els->(Els->Prop)->Prop} {Q:Els->Prop} (F G:α->D) (p:α->Bool):∀ (L:List α) (es:Els),(∀ a∈L,∀ es (Q':Els->Prop),es.length < 1000000->Q' (if p a=true then es++[(G a,true)] else es)->f (F a) es Q')->es.length+L.length<=1000000->Q (es++(L.filter p).map fun a=>(G a,true))->go f (L.map F) es Q
 | [],es,_,_,q=>by
  show Q es
  simpa using q
 | a::r,es,hs,hm,q=>by
  rw [length_cons] at hm
  refine hs a mem_cons_self es _ (by omega) ?_
  refine go_fltA F G p r _ (fun b hb=>hs b (mem_cons_of_mem _ hb)) ?_ ?_
  ·split
   ·rw [length_append,List.length_singleton];omega
   ·omega
  ·rw [List.filter_cons] at q
   by_cases hp:p a=true
   ·rw [if_pos hp] at q ⊢
    rw [append_assoc];exact q
   ·rw [if_neg hp] at q ⊢;exact q
theorem lc_fltA {f:D->Els->(Els->Prop)->Prop} {ok:Bool} {Q:QD} {L:List α} (F G:α->D) (p:α->Bool) (hs:∀ a∈L,∀ es (Q':Els->Prop),es.length < 1000000->Q' (if p a=true then es++[(G a,true)] else es)->f (F a) es Q') (hm:L.length<=1000000) (q:Q (.list ((L.filter p).map G)) (.own [])):LcD f (L.map F) ok Q:=by
 refine go_fltA F G p L [] hs (by simpa using hm) ?_
 have e1:((((L.filter p).map fun a=>(G a,true)):Els).map (·.1))=(L.filter p).map G:=by rw [map_map];rfl
 have e2:((((L.filter p).map fun a=>(G a,true)):Els).all (·.2))=true:=by rw [List.all_map];exact all_eq_true.mpr fun _ _=>rfl
 rw [List.nil_append,e1,if_pos e2];exact q
theorem lc_mapA {f:D->Els->(Els->Prop)->Prop} {ok:Bool} {Q:QD} {L:List α} (F G:α->D) (hs:∀ a∈L,∀ es (Q':Els->Prop),es.length < 1000000->Q' (es++[(G a,true)])->f (F a) es Q') (hm:L.length<=1000000) (q:Q (.list (L.map G)) (.own [])):LcD f (L.map F) ok Q :=
 lc_fltA F G (fun _=>true) hs hm (by rw [List.filter_eq_self.mpr fun _ _=>rfl];exact q)
def dJn (t:TSD):TSD:=t
theorem dps_jn {X:Cx} {K:W.Frag} {E:XK} {s:Stmt} {t:TSD} (h:DS X K E s t):DS X K E s (dJn t):=h
theorem w_jn {t:TSD} {Dd:EndsD} {ρ:Ren} {Xd:XD} (I:Ren->Prop) (h1:∀ N:Ren->Prop,(∀ ρ',I ρ'->N ρ')->t { Dd with nx:=N } ρ Xd) (h2:∀ ρ',I ρ'->Dd.nx ρ'):dJn t Dd ρ Xd:=h1 Dd.nx h2
section
variable {K:W.Frag} {R:Addr} {tb:TSDX} {ts:TSD} {Dd:EndsD} {ρ:Ren} {Xd:XD} {Xr:Ren->Addr->Prop} {te:TD} {tl:TDA} {sp:SpD} {Q:QD}
theorem w_tryN {mg:Str->Option Value} {i:Nat} {ts:Addr->Addr->TSD} (h:tb Dd ρ fun ρ' C=>Fits K C R/\(∃ x,ExC K mg x C)/\ExK K C/\∀ ea,ts ea C (onlyRt Dd) (ρ'.set i (some (false,opq ea))) Xf):dTryN K mg R i tb ts Dd ρ Xd:=h
theorem w_xCl (h:tl ρ (fun ds _=>sp ds (fun d o=>Q d (kRet o)) Xd) Xf):xCl sp tl ρ Q Xd:=h
theorem w_xSt {i:Nat} (h:te ρ (fun d k=>Dd.nx (setK ρ i d k)) (Xr ρ)):xSt i te Dd ρ Xr:=h
end
theorem frz1_0 {b:Bool} {d:D} {r:Ren}:frz1 0 (some (b,d)::r)=some (false,d)::r:=rfl
theorem frz1_s {i:Nat} {x:Option (Bool × D)} {r:Ren}:frz1 (i+1) (x::r)=x::frz1 i r:=by
 unfold frz1
 rw [List.getElem?_cons_succ]
 cases h:r[i]? with
 | none=>rfl
 | some y=>cases y with
  | none=>rfl
  | some p=>rfl
section
variable {k:Expr}
theorem kcons_int {x:Int} {k:Kd}:kcons (.int x) k (.own [])=.own []:=kcons_flat rfl
theorem kcons_boo {x:Bool} {k:Kd}:kcons (.bool x) k (.own [])=.own []:=kcons_flat rfl
theorem kcons_st {x:Str} {k:Kd}:kcons (.str x) k (.own [])=.own []:=kcons_flat rfl
theorem kcons_nn {k:Kd}:kcons .none k (.own [])=.own []:=kcons_flat rfl
theorem one_iD {x:Int}:PyData.list [PyData.int x]=iD [x]:=rfl
theorem two_iD {x y:Int}:PyData.list [PyData.int x,PyData.int y]=iD [x,y]:=rfl
end
abbrev SpX:=Addr->(D->Prop)->Prop
structure FnOkX (P:Program) (w:World) (K:W.Frag) (mg:Str->Option Value) (base:Heap) (k:Nat) (f:Addr) (fd:FuncData) (p:Str) (spx:SpX):Prop where
 run:∀ (A:Around) (outer:List Env) (s:Shared) (H:Hp) (args:Args) (ea C:Addr) (oe:Obj) (y:Str) (Qd:D->Prop) (Q:VK),RoomH k A->Env0 P w K mg base A outer s H->BindsTo s fd args [(p,.ref ea)]->s.heap.get? ea=some oe->A.handled=some (.ref ea)->XOf oe C->ExC K mg y C->ExK K C->H ea=none->ea∉frs outer->(∀ v,oe.data≠.cell v)->spx C Qd->(∀ d v H',Qd d->flat d=true->Same H H'->Dn K H' v d->Q v H') ->
  codeAny (model P w) A (.call (.ref f) args) (CR CX0 outer P w H s Q E0) s
abbrev cxX (P:Program) (w:World) (K:W.Frag) (mg:Str->Option Value) (base:Heap) (N:List Str) (qual:Str) (scope:Scope) (f:Addr) (cd:Value) (A:Around) (outer:List Env) (s:Shared) (H:Hp) (E:XK) (ea:Addr) (oe:Obj):Cx :=
 { cxOf CX0 P w K mg base N qual scope f cd A outer s H E with calm:=false,pn:=[(ea,oe)] }
theorem inv_startX {P:Program} {w:World} {K:W.Frag} {mg:Str->Option Value} {base:Heap} {N ps:List Str} {qual:Str} {scope:Scope} {f:Addr} {cd:Value} {A:Around} {outer:List Env} {s s1:Shared} {H:Hp} {E:XK} {us:List Value} {vs:List V} {ea:Addr} {oe:Obj}
  (S:FnScope N ps scope) (e0:Env0 P w K mg base A outer s H) (hl:vs.length=ps.length) (r:Vals vs us) (he:s.heap.get? ea=some oe) (h1:H ea=none) (h2:ea∉frs outer) (h3:∀ v,oe.data≠.cell v)
  (x:InCallC s s.heap.objs.size (bindL (envOfC qual scope s.heap.objs.size f cd).kindOf (ps.zip us) fun _=>none) (cellsFrom (s.heap.objs.size+1) scope.names []) (bindC (envOfC qual scope s.heap.objs.size f cd).kindOf (ps.zip us) fun _=>none) s1) :
  Inv (cxX P w K mg base N qual scope f cd A outer s H E ea oe) [] (L2.start N vs) H s1:=by
 have I:=inv_startH (E:=E) (qual:=qual) (f:=f) (cd:=cd) S e0 hl r x
 refine ⟨⟨I.ok.mod,I.ok.kind,I.ok.glob,I.ok.blt,I.ok.above,I.ok.inj,I.ok.has,I.ok.cab,(fun z=>nomatch z),I.ok.frames,I.ok.stk,I.ok.exf,I.ok.bs,I.ok.bsz,I.ok.noex,I.ok.exfs,I.ok.funs,I.ok.frf⟩,I.os,I.bare,I.base,I.loc,I.cell,I.free,I.freeC,fun p hp=>?_,I.hok,I.len⟩
 have:p=(ea,oe):=by simpa using hp
 subst this
 exact ⟨x.toInCall.keep _ _ he,h1,Nat.ne_of_lt (Heap.lt_size he),h2,h3⟩
theorem okX {P:Program} {w:World} {K:W.Frag} {mg:Str->Option Value} {base:Heap} {x qual:Str} {st:Stmt} {f:Addr} {fd:FuncData} {N:List Str} {p:Str} {k:Nat} {spx:SpX} (F:Fun K x qual st f fd) (S:FnScope N [p] (defScope st))
  (hbody:∀ (cdv:Value) (A:Around) (outer:List Env) (s:Shared) (H:Hp) (E:XK) (ea C:Addr) (oe:Obj) (y:Str),RoomH k (A.deeper (envOfC qual (defScope st) s.heap.objs.size f cdv))->A.handled=some (.ref ea)->XOf oe C->ExC K mg y C->ExK K C->∃ t,DSs (cxX P w K mg base N qual (defScope st) f cdv A outer s H E ea oe).nox K E0 (defBody st) t/\∀ Qd:D->Prop,spx C Qd->t { nx:=fun _=>Qd .none,rt:=fun d _=>Qd d/\flat d=true } (startR N [opq ea]) Xf):FnOkX P w K mg base (k+1) f fd p spx:=by
 obtain ⟨oc,od,kV,doc,pm,an,cdv,ct,osl,rfl,lk,hcd⟩:=F.ex
 refine ⟨fun A outer s H args ea C oe y Qd Q hr e0 hb he hA hc cx kx h1 h2 h3 hsp q=>?_⟩
 have KX:K.In s.heap:=e0.mod.kin.keeps fun b o e=>(e0.bs b o e).1
 have lim:s.heap.NoLimit:=e0.mod.nolimit.keeps fun b o e=>(e0.bs b o e).1
 have hkind:∀ y∈[p].zip [Value.ref ea],(defScope st).names.lookup y.1=some .local\/((defScope st).names.lookup y.1=some .cell/\((cellsFrom (s.heap.objs.size+1) (defScope st).names []).lookup y.1).isSome=true):=fun ⟨n,v⟩ hy=>by
  rcases S.par n (List.of_mem_zip hy).1 with q|q
  ·exact .inl q
  ·exact .inr ⟨q,PySem.W.cellsFrom_some _ _ _ (.inl q)⟩
 refine codeAny_call_function (by have:=hr.dp;omega) (KX _ _ lk) rfl S.co S.gen rfl (PySem.W.codeRec_of KX hcd) (hb _ _ _ _ ?_)
 refine wpAny_newFunctionEnv_cells S.kind hkind fun env henv s1 x=>?_
 subst henv
 refine ⟨lim.keeps x.toInCall.keep,codeAny_func ?_⟩
 obtain ⟨t,ht,hq⟩:=hbody cdv A outer s H E0 ea C oe y ⟨by have:=hr.dp;show A.depth+1+3*k+5 < _;omega,by have:=hr.un;show A.units+3+16*k+200 < _;omega⟩ hA hc cx kx
 obtain ⟨t',ht',hq'⟩:=dmk (N:=N) (vs:=[.ref ea]) (H:=H) (Q:=Q) (Qd:=fun d _=>Qd d/\flat d=true) (Xd:=Xf) ht (.cons (.opq ea) .nil) (fun d o v H' hd sm r=>q d v H' hd.1 hd.2 sm (by
  cases o with
  | true=>obtain ⟨ms,m1,_⟩:=r;exact m1.den
  | false=>exact r)) (fun _ _ z _=>z.elim) (by
   have:=hq Qd hsp
   have e:(fun (_:Ren)=>Qd PyData.none)=fun _=>(Qd PyData.none/\flat PyData.none=true):=by funext _;simp [flat]
   rw [e] at this
   exact this)
 have ht2:PSs (cxX P w K mg base N qual (defScope st) f cdv A outer s H E0 ea oe) (defBody st) t':=fun pins s σ H D I hw =>
  wpAny_mono (ht' pins s σ H D (I.wish _) hw) (fun _ _ q=>q.unwish) fun _ _ z=>False.elim z
 have I:Inv (cxX P w K mg base N qual (defScope st) f cdv A outer s H E0 ea oe) [] (L2.start N [.ref ea]) H s1:=inv_startX S e0 rfl (.cons rfl .nil) he h1 h2 h3 x
 refine wpAny_mono (ht2 [] s1 (L2.start N [.ref ea]) H _ I hq') (fun fl s' hs=>?_) fun e s' hs=>hs
 have fin:∀ {σ':L2.St} {H':Hp} {v:V} {u:Value},Inv (cxX P w K mg base N qual (defScope st) f cdv A outer s H E0 ea oe) [] σ' H' s'->RelV v u->Q v H'->CE outer P w H s Q u s' :=
  fun {σ' H' v u} J rv q=>⟨v,H',J.os,J.bare,J.base,J.hok,rv,q⟩
 cases fl with
 | ret u =>
  obtain ⟨v,σ',H',J,rv,q⟩:=hs
  exact fin J rv q
 | next =>
  obtain ⟨σ',H',J,q⟩:=hs
  exact fin (v:=V.non) (u:=Value.none) J rfl q
 | brk =>
  obtain ⟨_,_,_,q⟩:=hs
  exact False.elim q
 | cont =>
  obtain ⟨_,_,_,q⟩:=hs
  exact False.elim q
structure DfX (P:Program) (w:World) (K:W.Frag) (mg:Str->Option Value) (base:Heap) (x p:Str) (k:Nat) (spx:SpX):Prop where
 ex:∃ f fd,FnOkX P w K mg base k f fd p spx/\mg x=some (.ref f)/\PySem.W.keepIn K (.ref f)=true/\Binds K fd [p] []
section
variable {X:Cx} {K:W.Frag} {E:XK} {pos pp:Pos} {te:TD} {x:Str} {ex:Expr}
def dCallX (spx:SpX) (ea C:Addr) (te:TD):TD:=fun ρ Q Xd=>te ρ (fun d _=>d=opq ea/\spx C fun r=>Q r .old) Xd
theorem dpe_dfX {p:Str} {k:Nat} {spx:SpX} {ea C:Addr} {oe:Obj} {y:Str} (D:DfX X.prog X.w K X.mg X.base x p k spx) (hK:X.K=K) (hr:RoomH k X.A) (hp:(ea,oe)∈X.pn) (hA:X.A.handled=some (.ref ea)) (hc:XOf oe C) (c:ExC K X.mg y C) (kk:ExK K C) (ha:DE X K E ex te) (hst:X.stack=X.env::X.outer/\X.env.frame=some X.env.locals) (hg:Gl X x:=by rfl) (hdb:(x==("__debug__":Str))=false:=by decide)
  (he:starEach [ex] X.env=(false,eval ex X.env)::starEach [] X.env:=by rfl) (hpl:(backTo pos (starEach [] X.env)).any (·.1)=false:=by rfl):DE X K E (.Call (.Name x pp) [ex] [] pos) (dCallX spx ea C te):=by
 subst hK
 refine ⟨⟨fun pins s σ H Q I h=>?_⟩⟩
 obtain ⟨f,fd,F,hm,hk,hb⟩:=D.ex
 obtain ⟨H0,ν,ρ,Qd,Xd,S,h1,q,xx⟩:=h
 refine wpAny_Call_Name_kw (ld_glob I hg hm ?_ hdb)
 refine PySem.W.callWith_K (h₀:=X.base) I.ok.mod.kin hk (thn ((qpa_cons ha.q qpa_nil he).h pos pins s σ H (fun vs H1=>vs=[.ref ea]/\Same H H1/\spx C fun r=>Qd r .old) I ⟨H0,ν,ρ,_,Xd,S,h1,fun d k v H1 g1 g2 g3=>?_,xx⟩) fun us s1 ⟨vs,H1,I1,r,q1⟩=>⟨I1.kIn,?_⟩) he hpl
 ·obtain ⟨rfl,g1⟩:=g1
  exact ⟨by rw [dn_opq g3.den],g2,g1⟩
 ·obtain ⟨rfl,sm,hsp⟩:=q1
  obtain ⟨u,rfl⟩:∃ u,us=[u]:=by
   cases r with
   | cons _ r2=>cases r2;exact ⟨_,rfl⟩
  have hu:u=.ref ea:=by
   cases r with
   | cons h _=>exact h
  subst hu
  obtain ⟨p1,p2,p3,p4,p5⟩:=I1.pin (ea,oe) (mem_append_left _ hp)
  have hfr:ea∉frs X.stack:=by
   rw [hst.1]
   unfold frs
   rw [List.filterMap_cons,hst.2]
   intro z
   rcases mem_cons.mp z with z|z
   ·exact p3 z
   ·exact p4 z
  refine wpAny_call (codeAny_mono (F.run X.A X.stack s1 H1 ⟨[.ref ea],[]⟩ ea C oe y (fun r=>Qd r .old) Q hr I1.env0 (hb s1 [.ref ea] I1.kIn rfl) p1 hA hc c kk p2 hfr p5 hsp fun d v H' hd hf sm2 hv=>?_) fun r s' hq=>?_)
  ·exact q d .old v H' hd (sm.trans sm2) (by
    exact den_hid (fun a z=>by
     obtain ⟨us,w⟩:=((S.same sm).same sm2).hl a z
     exact ⟨us,w⟩) hv hf)
  ·cases r with
   | error e=>exact hq.elim
   | ok fl =>
    cases fl with
    | ret u=>exact I1.after hq
    | next=>exact False.elim hq
    | brk=>exact False.elim hq
    | cont=>exact False.elim hq
end
section
variable {X:Cx} {K:W.Frag} {E:XK}
def dIsXB (K:W.Frag) (ea C:Addr) (n:String) (te:TD):TD:=fun ρ Q Xd=>te ρ (fun d _=>d=opq ea/\∃ b,PySem.W.kitOne K (.ref C) (.type n)=some b/\Q (.bool b) .old) Xd
theorem dpe_isXB {ea C:Addr} {oe:Obj} {x y:Str} {n:String} {te:TD} {p p2 pos:Pos} {ex:Expr} (hK:X.K=K) (hp:(ea,oe)∈X.pn) (hc:XOf oe C) (c:ExC K X.mg x C) (k:ExK K C) (hg:Gl X "isinstance") (hm:X.mg "isinstance"=none) (ha:DE X K E ex te) (hg2:Gl X y) (hm2:X.mg y=none) (hv2:bootBuiltins y=some (.type n)) (hn:y≠"__name__":=by decide) (hd:(y==("__debug__":Str))=false:=by decide)
  (he:starEach [ex,.Name y p2] X.env=(false,eval ex X.env)::starEach [.Name y p2] X.env:=by rfl) (hpl:(backTo pos (starEach [.Name y p2] X.env)).any (·.1)=false:=by rfl):DE X K E (.Call (.Name "isinstance" p) [ex,.Name y p2] [] pos) (dIsXB K ea C n te) :=
 ⟨qe_imp (qpe_callB (call_isX hK hp hc.1 c k) hg hm (by decide +kernel) (qpa_cons ha.q (hs:=he) (qpa_cons (qpe_bltn (v:=.ty n) hg2 hm2 hv2 rfl hn hd) qpa_nil)) (by decide) (by decide) he hpl) fun σ H Q h=>by
  obtain ⟨H0,ν,ρ,Qd,Xd,S,h1,q,x⟩:=h
  refine ⟨H0,ν,ρ,_,Xd,S,h1,fun d l v H' g1 g2 g3=>?_,x⟩
  obtain ⟨rfl,b,hb,g1⟩:=g1
  exact ⟨.ty n,b,by rw [dn_opq g3.den],.inr ⟨n,rfl,hb⟩,q _ _ _ _ g1 g2 (.bl _)⟩⟩
end
end DL
namespace L2
open PySem PySem.Spec PyProof.Rows
end L2
namespace DL
open PySem PySem.Spec PyProof.Rows L2
section
variable {K:W.Frag}
theorem w_callX {spx:SpX} {ea C:Addr} {te:TD} {ρ:Ren} {Q:QD} {Xd:XD} (h:te ρ (fun d _=>d=opq ea/\spx C fun r=>Q r .old) Xd):dCallX spx ea C te ρ Q Xd:=h
theorem w_isX {ea C D':Addr} {te:TD} {ρ:Ren} {Q:QD} {Xd:XD} (h:te ρ (fun d _=>d=opq ea/\∃ b,PySem.W.kitOne K (.ref C) (.ref D')=some b/\Q (.bool b) .old) Xd):dIsX K ea C D' te ρ Q Xd:=h
theorem w_isXB {ea C:Addr} {n:String} {te:TD} {ρ:Ren} {Q:QD} {Xd:XD} (h:te ρ (fun d _=>d=opq ea/\∃ b,PySem.W.kitOne K (.ref C) (.type n)=some b/\Q (.bool b) .old) Xd):dIsXB K ea C n te ρ Q Xd:=h
end
end DL
namespace L2
open PySem PySem.Spec PyProof.Rows
end L2
namespace DL
open PySem PySem.Spec PyProof.Rows L2
section
variable {κ:Type} [DecidableEq κ]
def look (es:List (κ × D)) (k:κ):Option D:=(es.find? fun p=>decide (p.1=k)).map (·.2)
def putD (es:List (κ × D)) (k:κ) (d:D):List (κ × D):=if (es.any fun p=>decide (p.1=k))=true then es.map (fun p=>if p.1=k then (p.1,d) else p) else es++[(k,d)]
inductive VPs:List (κ × V)->List (κ × D)->Prop
 | nil:VPs [] []
 | cons {k v d r t}:valD d=some v->VPs r t->VPs ((k,v)::r) ((k,d)::t)
theorem VPs.look {kvs:List (κ × V)} {es:List (κ × D)} (h:VPs kvs es) (k:κ):(∃ d v,DL.look es k=some d/\valV kvs k=some v/\valD d=some v)\/(DL.look es k=none/\valV kvs k=none):=by
 induction h with
 | nil=>exact .inr ⟨rfl,rfl⟩
 | @cons k' v d r t e _ ih =>
  by_cases h:k'=k
  ·exact .inl ⟨d,v,by unfold DL.look;rw [List.find?_cons_of_pos (by simpa using h)];rfl,by unfold valV;rw [List.find?_cons_of_pos (by simpa using h)];rfl,e⟩
  ·have e1:DL.look ((k',d)::t) k=DL.look t k:=by unfold DL.look;rw [List.find?_cons_of_neg (by simpa using h)]
   have e2:valV ((k',v)::r) k=valV r k:=by unfold valV;rw [List.find?_cons_of_neg (by simpa using h)]
   rw [e1,e2];exact ih
theorem VPs.any {kvs:List (κ × V)} {es:List (κ × D)} (h:VPs kvs es) (k:κ):(kvs.any fun p=>decide (p.1=k))=es.any fun p=>decide (p.1=k):=by
 induction h with
 | nil=>rfl
 | cons _ _ ih=>rw [any_cons,any_cons,ih]
theorem VPs.snoc {kvs:List (κ × V)} {es:List (κ × D)} {k:κ} {v:V} {d:D} (h:VPs kvs es) (e:valD d=some v):VPs (kvs++[(k,v)]) (es++[(k,d)]):=by
 induction h with
 | nil=>exact .cons e .nil
 | cons e' _ ih=>exact .cons e' ih
theorem VPs.repl {kvs:List (κ × V)} {es:List (κ × D)} {k:κ} {v:V} {d:D} (h:VPs kvs es) (e:valD d=some v):VPs (kvs.map fun p=>if p.1=k then (p.1,v) else p) (es.map fun p=>if p.1=k then (p.1,d) else p):=by
 induction h with
 | nil=>exact .nil
 | @cons k' v' d' r t e' _ ih =>
  rw [map_cons,map_cons]
  by_cases q:k'=k
  ·rw [if_pos q,if_pos q];exact .cons e ih
  ·rw [if_neg q,if_neg q];exact .cons e' ih
theorem VPs.put {kvs:List (κ × V)} {es:List (κ × D)} {k:κ} {v:V} {d:D} (h:VPs kvs es) (e:valD d=some v):VPs (putK kvs k v) (putD es k d):=by
 unfold putK putD
 rw [h.any k]
 split
 ·exact h.repl e
 ·exact h.snoc e
theorem VPs.length {kvs:List (κ × V)} {es:List (κ × D)} (h:VPs kvs es):kvs.length=es.length:=by
 induction h with
 | nil=>rfl
 | cons _ _ ih=>rw [length_cons,length_cons,ih]
theorem putD_len (es:List (κ × D)) (k:κ) (d:D):(putD es k d).length<=es.length+1:=by
 unfold putD
 split
 ·rw [length_map];omega
 ·rw [length_append];exact Nat.le_refl _
end
def tupK (k:List Key):D:=.tuple (k.map keyV)
def dKD (es:List (Key × D)):D:=dctD false (es.map fun p=>(keyV p.1,p.2))
def dTD (es:List (List Key × D)):D:=dctD true (es.map fun p=>(tupK p.1,p.2))
theorem keyV_inj {a b:Key} (h:keyV a=keyV b):a=b:=by
 cases a<;>cases b<;>simp [keyV] at h
 ·rw [h]
 ·rw [h]
theorem keyVs_inj:∀ {a b:List Key},a.map keyV=b.map keyV->a=b
 | [],[],_=>rfl
 | [],_::_,h=>by cases h
 | _::_,[],h=>by cases h
 | _::r,_::t,h=>by
  rw [map_cons,map_cons] at h
  injection h with h1 h2
  rw [keyV_inj h1,keyVs_inj h2]
theorem dK_vps:∀ {kvs:List (Key × V)} {es:List (Key × D)},DKps kvs (es.map fun p=>(keyV p.1,p.2))->VPs kvs es
 | [],[],_=>.nil
 | (k,v)::r,(k',d)::t,h=>by
  have h1:keyV k'=keyV k/\valD d=some v/\DKps r (t.map fun p=>(keyV p.1,p.2)):=h
  rw [keyV_inj h1.1]
  exact .cons h1.2.1 (dK_vps h1.2.2)
 | [],_::_,h=>h.elim
 | _::_,[],h=>h.elim
theorem dK_of {kvs:List (Key × V)} {es:List (Key × D)} (h:VPs kvs es):DKps kvs (es.map fun p=>(keyV p.1,p.2)):=by
 induction h with
 | nil=>trivial
 | cons e _ ih=>exact ⟨rfl,e,ih⟩
theorem dT_vps:∀ {kvs:List (List Key × V)} {es:List (List Key × D)},DTps kvs (es.map fun p=>(tupK p.1,p.2))->VPs kvs es
 | [],[],_=>.nil
 | (k,v)::r,(k',d)::t,h=>by
  have h1:tupK k'=.tuple (k.map keyV)/\valD d=some v/\DTps r (t.map fun p=>(tupK p.1,p.2)):=h
  have h2:k'.map keyV=k.map keyV:=by have:=h1.1;unfold tupK at this;injection this
  rw [keyVs_inj h2]
  exact .cons h1.2.1 (dT_vps h1.2.2)
 | [],_::_,h=>h.elim
 | _::_,[],h=>h.elim
theorem dT_of {kvs:List (List Key × V)} {es:List (List Key × D)} (h:VPs kvs es):DTps kvs (es.map fun p=>(tupK p.1,p.2)):=by
 induction h with
 | nil=>trivial
 | cons e _ ih=>exact ⟨rfl,e,ih⟩
section
variable {K:W.Frag} {H:Hp} {v:V}
theorem dn_dK {es:List (Key × D)} (h:Dn K H v (dKD es)):∃ a kvs,v=.ref a/\H a=some (.dK kvs)/\VPs kvs es:=by
 unfold dKD dctD at h
 cases h with
 | dct e r =>
  rename_i a o
  cases o<;>first|exact r.elim|skip
  exact ⟨_,_,rfl,e,dK_vps r⟩
theorem dn_dT {es:List (List Key × D)} (h:Dn K H v (dTD es)):∃ a kvs,v=.ref a/\H a=some (.dT kvs)/\VPs kvs es:=by
 unfold dTD dctD at h
 cases h with
 | dct e r =>
  rename_i a o
  cases o<;>first|exact r.elim|skip
  exact ⟨_,_,rfl,e,dT_vps r⟩
theorem ow_dK {a:Addr} {kvs:List (Key × V)} {es:List (Key × D)} (e:H a=some (.dK kvs)) (h:VPs kvs es):Ow K H (.ref a) (dKD es) [a]:=.dct e (dK_of h)
theorem ow_dT {a:Addr} {kvs:List (List Key × V)} {es:List (List Key × D)} (e:H a=some (.dT kvs)) (h:VPs kvs es):Ow K H (.ref a) (dTD es) [a]:=.dct e (dT_of h)
theorem ow_nodes {b:Bool} {kds:List (D × D)} {ms:List Addr} (h:Ow K H v (dctD b kds) ms):∃ a,v=.ref a/\ms=[a]:=by
 unfold dctD at h
 cases h with
 | dct e r=>exact ⟨_,rfl,rfl⟩
end
abbrev KeyR:=Sum Key (List Key)
def KeyIs (H:Hp):KeyR->V->Prop
 | .inl k,v=>v=kV k
 | .inr ks,v=>∃ b,v=.ref b/\H b=some (.tup (ks.map kV))
theorem KeyIs.same {H H':Hp} {k:KeyR} {v:V} (h:KeyIs H k v) (e:Same H H'):KeyIs H' k v:=by
 cases k with
 | inl=>exact h
 | inr=>obtain ⟨b,h1,h2⟩:=h;exact ⟨b,h1,e _ _ h2⟩
abbrev TKy:=Ren->(KeyR->Prop)->XD->Prop
def LKy (K:W.Frag) (E:XK) (t:TKy):TE:=fun σ H Q=>∃ H0 ν ρ Qd Xd,StOk K Z0 H0 ν ρ σ H/\t ρ Qd Xd/\(∀ k v H',Qd k->Same H H'->KeyIs H' k v->Q v H')/\∀ C H',Xd C->Same H0 H'->E (.ref C) none H'
structure DKy (X:Cx) (K:W.Frag) (E:XK) (e:Expr) (t:TKy):Prop where
 q:QE X e (LKy K E t)
section
variable {X:Cx} {K:W.Frag} {E:XK} {pos:Pos} {e:Expr} {es:List Expr} {te td:TD} {tk:TKy}
theorem dn_keyV {H:Hp} {v:V} {k:Key} (h:Dn K H v (keyV k)):v=kV k:=by
 cases k with
 | inl=>exact dn_int h
 | inr=>cases h;rfl
def kyS (t:TD):TKy:=fun ρ Q Xd=>t ρ (fun d _=>∃ k,d=keyV k/\Q (.inl k)) Xd
theorem dky_of (h:DE X K E e te):DKy X K E e (kyS te):=⟨qe_imp h.q fun σ H Q h=>by
 obtain ⟨H0,ν,ρ,Qd,Xd,S,h1,q,x⟩:=h
 refine ⟨H0,ν,ρ,_,Xd,S,h1,fun d k v H' g1 g2 g3=>?_,x⟩
 obtain ⟨k',rfl,g⟩:=g1
 exact q _ _ _ g g2 (dn_keyV g3.den)⟩
def DHas (d:D) (k:KeyR) (C:Bool->Prop):Prop:=(∃ es k',d=dKD es/\k=.inl k'/\C (look es k').isSome)\/∃ es k',d=dTD es/\k=.inr k'/\C (look es k').isSome
theorem dhas_get {H:Hp} {x y:V} {d:D} {k:KeyR} {C:Bool->Prop} (h:DHas d k C) (hx:Dn K H x d) (hy:KeyIs H k y):∃ a o,x=.ref a/\DGet H a y o/\C o.isSome:=by
 rcases h with ⟨es,k',rfl,rfl,c⟩|⟨es,k',rfl,rfl,c⟩
 ·obtain ⟨a,kvs,rfl,e,p⟩:=dn_dK hx
  cases hy
  refine ⟨a,_,rfl,DGet.k e,?_⟩
  rcases p.look k' with ⟨d,v,e1,e2,_⟩|⟨e1,e2⟩
  ·rw [e1] at c;rw [e2];exact c
  ·rw [e1] at c;rw [e2];exact c
 ·obtain ⟨a,kvs,rfl,e,p⟩:=dn_dT hx
  obtain ⟨b,rfl,hb⟩:=hy
  refine ⟨a,_,rfl,DGet.t e hb,?_⟩
  rcases p.look k' with ⟨d,v,e1,e2,_⟩|⟨e1,e2⟩
  ·rw [e1] at c;rw [e2];exact c
  ·rw [e1] at c;rw [e2];exact c
def dDIn (f:Bool->Bool) (tk:TKy) (td:TD):TD:=fun ρ Q Xd=>tk ρ (fun k=>td ρ (fun d _=>DHas d k fun b=>Q (.bool (f b)) .old) Xd) Xd
theorem le_din {i o:Expr} (f:Bool->Bool) (r:TE->TE->TE) (hr:∀ (ty td:TE) σ H Q,(ty σ H fun y H1=>td σ H1 fun x H2=>∃ a o,x=.ref a/\DGet H2 a y o/\Q (.bl (f o.isSome)) H2)->r ty td σ H Q):∀ σ H Q,LE K E (dDIn f tk td) σ H Q->r (LKy K E tk) (LE K E td) σ H Q:=fun σ H Q h=>by
 refine hr _ _ _ _ _ ?_
 obtain ⟨H0,ν,ρ,Qd,Xd,S,h1,q,x⟩:=h
 refine ⟨H0,ν,ρ,_,Xd,S,h1,fun k v H1 g1 e1 r1=>?_,x⟩
 refine ⟨H0,ν,ρ,_,Xd,S.same e1,g1,fun d kk u H2 g2 e2 r2=>?_,x⟩
 obtain ⟨a,o,ha,hg,c⟩:=dhas_get g2 r2.den (r1.same e2)
 exact ⟨a,o,ha,hg,q _ _ _ _ c (e1.trans e2) (.bl _)⟩
theorem dpe_din {i o:Expr} (hu:X.A.units+1 < cLine) (hi:DKy X K E i tk) (ho:DE X K E o td) (hm:behindInMarks .In o=false):DE X K E (.Compare i [.In] [o] pos) (dDIn id tk td) :=
 ⟨qe_imp (qpe_din hu hi.q ho.q hm) (le_din (i:=i) (o:=o) id tDIn fun _ _ _ _ _ h=>h)⟩
def dDNew (b:Bool):TD:=fun _ Q _=>Q (if b=true then dTD [] else dKD []) (.own [])
theorem dpe_dnewK:DE X K E (.Dict [] [] pos) (dDNew false):=⟨qe_imp qpe_dnewK fun σ H Q h=>by
 obtain ⟨H0,ν,ρ,Qd,Xd,S,h1,q,x⟩:=h
 exact fun p hp=>q _ _ _ _ h1 (Same.new hp) ⟨[p],ow_dK upd_same .nil,by simp,fun a ha=>by rw [mem_singleton] at ha;subst ha;exact .inl hp⟩⟩
def DPutD (x:D) (k:KeyR) (d:D) (C:D->Prop):Prop:=(∃ es k',x=dKD es/\k=.inl k'/\es.length < 1000000/\C (dKD (putD es k' d)))\/∃ es k',x=dTD es/\k=.inr k'/\es.length < 1000000/\C (dTD (putD es k' d))
def dDPut (i:Nat) (tk:TKy) (te:TD):TSD:=fun Dd ρ Xd=>te ρ (fun d _=>(valD d).isSome=true/\∃ x,ρ[i]?=some (some (true,x))/\tk ρ (fun k=>DPutD x k d fun y=>Dd.nx (ρ.set i (some (true,y)))) Xd) Xd
theorem val_of {H:Hp} {v:V} {d:D} (h:Dn K H v d) (hs:(valD d).isSome=true):valD d=some v:=by
 cases h<;>simp [valD] at hs ⊢
theorem dps_dput (i:Nat) {x:Str} {px pos':Pos} {ie value:Expr} (hu:X.A.units+1 < cLine) (ho:QE X (.Name x px) (tVar i)) (hi:DKy X K E ie tk) (hv:DE X K E value te) (hs:swapsWith value (some (.Subscript (.Name x px) ie pos')) pos.line X.env=pure false:=by rfl):DS X K E (.Assign [.Subscript (.Name x px) ie pos'] value pos) (dDPut i tk te):=⟨qs_imp (qps_dput hu ho hi.q hv.q hs) fun En σ H h=>by
 obtain ⟨H0,ν,ρ,Dd,Xd,S,h1,ok,x⟩:=h
 refine ⟨H0,ν,ρ,_,Xd,S,h1,fun d kk v H1 g1 e1 r1=>?_,x⟩
 obtain ⟨hd,y,hy,g1⟩:=g1
 have hvd:=val_of r1.den hd
 obtain ⟨u,u1,u2⟩:=S.sl i true y hy
 have u2:Ow K H u y (ν i):=u2
 refine ⟨u,u1,H0,ν,ρ,_,Xd,S.same e1,g1,fun k w' H2 g2 e2 r2=>?_,x⟩
 have e02:=e1.trans e2
 have fin:∀ (a:Addr) (o o':HO) (z:D),u=.ref a->ν i=[a]->H2 a=some o->muO o=true->Ow K (upd H2 a o') (.ref a) z [a]->Dd.nx (ρ.set i (some (true,z)))->En.nx σ (upd H2 a o'):=fun a o o' z hu hn ho hm hz hx=>by
  subst hu
  have S':=S.mut [] i (ms:=[a]) (v:=.ref a) (H':=upd H2 a o') u1 (len_of hy) (fun b ob hb hnb=>by
   rw [upd_ne (fun z=>hnb (by rw [z,hn];exact mem_cons_self))];exact e02 _ _ hb) hz (by simp) (fun b hb=>.inl (by rw [hn];exact hb)) (by simp) (fun j hj=>by cases hj)
  exact ok.nx _ _ _ _ hx S'
 rcases g2 with ⟨es,k',rfl,rfl,hl,g2⟩|⟨es,k',rfl,rfl,hl,g2⟩
 ·obtain ⟨a,rfl,hn⟩:=ow_nodes (b:=false) u2
  obtain ⟨a',kvs,ea,e,p⟩:=dn_dK u2.den
  cases ea
  cases r2
  have e':=e02 _ _ e
  exact ⟨a,_,rfl,DPut.k e' (by rw [p.length];exact Nat.lt_of_lt_of_le hl million),fin a _ _ _ rfl hn e' rfl (ow_dK upd_same (p.put hvd)) g2⟩
 ·obtain ⟨a,rfl,hn⟩:=ow_nodes (b:=true) u2
  obtain ⟨a',kvs,ea,e,p⟩:=dn_dT u2.den
  cases ea
  obtain ⟨b,rfl,hb⟩:=r2
  have e':=e02 _ _ e
  exact ⟨a,_,rfl,DPut.t e' hb (by rw [p.length];exact Nat.lt_of_lt_of_le hl million),fin a _ _ _ rfl hn e' rfl (ow_dT upd_same (p.put hvd)) g2⟩⟩
end
end DL
namespace L2
open PySem PySem.Spec PyProof.Rows
def ItS (z:Str):It:=⟨fun i _=>i < z.cps.size,fun i H x H'=>H'=H/\∃ c,z.cps[i]?=some c/\x=.str ⟨#[c]⟩,fun i _=>z.cps.size<=i⟩
theorem turn_str {P:Program} {w:World} {K:W.Frag} {tg:Expr} {it:Addr} {T:String} {z:Str} {t:Tok}
  (hT:["enumerate","zip","dict_itemiterator","dict_reverseitemiterator","odict_iterator","itertools.zip_longest","itertools.pairwise"].contains T=false)
  (W:∀ A:Around,A.handled=none->Walks P w A it [it] [it] z.cps.size (SignAt z) (fun i h=>h.IsStrIter it T z t i))
  (slf:∀ (A:Around) (i:Nat) (s:Shared) (Q:Value->Shared->Prop) (E:Value->Shared->Prop),s.heap.IsStrIter it T z t i->Q (.ref it) s->wpAny (model P w) A (pyIter (.ref it)) Q E s):Turn P w K tg (ItS z) [it] it (fun i h=>i<=z.cps.size/\h.IsStrIter it T z t i) where
 mem:=by simp
 obj:=fun i h st b hb=>by
  have e:b=it:=by simpa using hb
  subst e
  obtain ⟨_,o,e,c,d⟩:=st
  exact ⟨o,e,fun v z=>by rw [d] at z;cases z⟩
 keep:=fun i h h' st k=>⟨st.1,let ⟨o,e,r⟩:=st.2;⟨o,k it (by simp) o e,r⟩⟩
 item:=by
  intro X hP hw hK hc i pins s σ H E I hf st hg
  subst hP hw hK
  obtain ⟨f0,f1,f2,f3,f4,f5⟩:=hf it (by simp)
  refine (W X.A (I.ok.hd hc)).item i s _ _ hg st.2 fun v h' tk hv st' kk=>?_
  obtain ⟨c,u,hc',rfl⟩:=hv
  have I1:Inv X pins σ H { s with heap:=h',toks:=tk }:=I.turned (fun b o hb e=>kk b o (by simpa using hb) e) f0 f1 f3 f4 f5
  obtain ⟨o,e1,e2,e3⟩:=id st'
  exact ⟨_,rfl,go_of (s:={ s with heap:=h',toks:=tk }) (n:=T) e1 e2 e3 hT ⟨.str ⟨#[c]⟩,H,I1,⟨u,rfl⟩,⟨rfl,c,hc',rfl⟩,⟨hg,st'⟩,fun b hb=>(hf b hb).1⟩⟩
 done:=by
  intro X hP hw hK hc i pins s σ H E I hf st hg
  subst hP hw hK
  obtain ⟨f0,f1,f2,f3,f4,f5⟩:=hf it (by simp)
  have ei:i=z.cps.size:=Nat.le_antisymm st.1 hg
  subst ei
  refine (W X.A (I.ok.hd hc)).done s _ _ st.2 fun h' tk kk=>?_
  exact ⟨rfl,I.turned (fun b o hb e=>kk b o (by simpa using hb) e) f0 f1 f3 f4 f5⟩
 self:=fun A i s Q E st hq=>slf A i s Q E st.2 hq
section
variable {X:Cx} {tg:Expr}
def iStr (tl:TE):TI:=fun σ H R=>tl σ H fun x H1=>∃ z,x=.str z/\R (ItS z) H1
theorem pi_str {l:Expr} {tl:TE} (hl:PE X l tl):PI X tg l (iStr tl):=by
 intro pins s σ H R I h
 refine thn (hl pins s σ H _ I h) fun v s1 ⟨x,H1,I1,r1,q1⟩=>?_
 obtain ⟨z,rfl,q⟩:=q1
 obtain ⟨t,rfl⟩:=r1
 have fp:∀ (o:Obj),∀ b∈[s1.heap.objs.size],FpOk X pins H1 b:=fun o b hb=>by
  have e:b=s1.heap.objs.size:=by simpa using hb
  subst e
  exact I1.fpOk (Nat.le_refl _) (I1.hok.fresh (Nat.le_refl _))
 cases ha:z.cps.all (· < 128) with
 | false =>
  refine wpAny_pyIter_wide ha ?_
  exact ⟨s1.heap.objs.size,[s1.heap.objs.size],_,_,H1,rfl,I1.kept (t':=s1.toks) fun b o e=>Heap.get?_push_of_some _ e,turn_str (by decide) (fun A hA=>Walks.strWide hA _ z t) (fun A i s Q E st hq=>wpAny_pyIter_striter_wide st hq),⟨Nat.zero_le _,_,Heap.get?_push_size _ rfl,rfl,rfl⟩,fp { cls:=.none,data:=.fields #[] },q⟩
 | true =>
  refine wpAny_pyIter_ascii ha ?_
  exact ⟨s1.heap.objs.size,[s1.heap.objs.size],_,_,H1,rfl,I1.kept (t':=s1.toks) fun b o e=>Heap.get?_push_of_some _ e,turn_str (by decide) (fun A hA=>Walks.strAscii hA _ z t) (fun A i s Q E st hq=>wpAny_pyIter_striter_ascii st hq),⟨Nat.zero_le _,_,Heap.get?_push_size _ rfl,rfl,rfl⟩,fp { cls:=.none,data:=.fields #[] },q⟩
def rSlS:V->Option Int->Option Int->Hp->VK->Prop:=fun x lo hi H Q=>∃ z,x=.str z/\z.length<=sizeLine/\Q (.str (Txt.slice z lo hi)) H
theorem part_of {v:Value} {o:Option Int} (h:IsPart v o):∃ l:Option (Int × Tok),v=partValue l/\l.map (·.1)=o:=by
 cases h with
 | none=>exact ⟨none,rfl,rfl⟩
 | int i t=>exact ⟨some (i,t),rfl,rfl⟩
theorem sl_str:SlR X rSlS:=by
 intro pins s σ H x v vl vu lo hi sl Q I rx hs pl pu h
 obtain ⟨z,rfl,hz,q⟩:=h
 obtain ⟨t,rfl⟩:=rx
 obtain ⟨l,rfl,rfl⟩:=part_of pl
 obtain ⟨u,rfl,rfl⟩:=part_of pu
 refine ⟨"str",_,F.slot_str_getitem.lookup,typeIs_str _ _ _,wpAny_getItem_str_slice (l:=l) (u:=u) (st:=none) hs rfl ?_⟩
 exact post_val_or_str ⟨Nat.le_trans (Txt.slice_le z _ _) hz,fun t' k=>⟨.str _,H,I.tok _,⟨t',rfl⟩,q⟩⟩
theorem op_mul_str:OpR X (binaryOp .Mult) (fun x y H Q=>∃ z n,x=.str z/\y=.int n/\MulOk z n/\Q (.str (Txt.mul z n)) H):=by
 intro pins s σ H x y v u Q I rx ry h
 obtain ⟨z,n,rfl,rfl,hm,q⟩:=h
 obtain ⟨t,rfl⟩:=rx
 obtain ⟨t',rfl⟩:=ry
 exact SB.mul hm fun t k=>⟨.str _,H,I.tok _,⟨t,rfl⟩,q⟩
end
end L2
namespace DL
open PySem PySem.Spec PyProof.Rows L2
section
variable {X:Cx} {K:W.Frag} {E:XK} {pos:Pos} {tg l:Expr} {te:TD}
def signs (z:Str):List D:=z.cps.toList.map fun c=>PyData.str ⟨#[c]⟩
theorem signs_len (z:Str):(signs z).length=z.cps.size:=by unfold signs;rw [length_map,Array.length_toList]
theorem itok_str {F0:Hp} {z:Str}:ItOk K F0 (ItS z) (signs z):=fun W H2 hl sm=>by
 refine ⟨?_,fun i d hd=>?_⟩
 ·show z.cps.size<=_
  rw [signs_len];exact Nat.le_refl _
 ·unfold signs at hd
  rw [List.getElem?_map,Array.getElem?_toList] at hd
  cases e:z.cps[i]? with
  | none=>rw [e] at hd;cases hd
  | some c =>
   rw [e] at hd;cases hd
   refine ⟨?_,fun x H' y=>?_⟩
   ·show i < z.cps.size
    exact (Array.getElem?_eq_some_iff.mp e).1
   ·obtain ⟨rfl,c',e',rfl⟩:=y
    rw [e] at e';cases e'
    exact ⟨Same.refl _,.str _⟩
def iS (te:TD):TDI:=fun ρ Q Xd=>te ρ (fun d _=>match d with
 | .str z=>Q (signs z) true
 | _=>False) Xd
theorem dpi_str (hl:DE X K E l te):DI X K E tg l (iS te):=⟨qi_imp (⟨pi_str hl.q.h⟩:QI X tg l (iStr (LE K E te))) fun σ H R h=>by
 obtain ⟨H0,ν,ρ,Qd,Xd,S,h1,q,x⟩:=h
 refine ⟨H0,ν,ρ,_,Xd,S,h1,fun d k v H' g1 g2 g3=>?_,x⟩
 have:=g3.den
 cases d with
 | str z=>cases this;exact ⟨z,rfl,q _ _ _ H' g1 g2 itok_str⟩
 | _=>exact g1.elim⟩
def fIxS:F2:=fun d _ e _ Q=>match d,e with
 | .str z,.int i=>z.length<=1000000/\∃ c,atI z.cps.toList i=some c/\Q (.str ⟨#[c]⟩) .old
 | _,_=>False
theorem dixS:DIx X K fIxS:=⟨_,ix_str,fun Z ν Hs H x y d k e l Qf Q _ _ _ h3 h4 h5 h6=>by
 unfold fIxS at h5
 split at h5
 ·have a:=h3.den
  have b:=h4.den
  cases a
  cases b
  obtain ⟨h5,c,h7,h8⟩:=h5
  exact ⟨_,_,c,rfl,rfl,Nat.le_trans h5 million,h7,h6 _ _ _ _ h8 (Same.refl H) (.str _)⟩
 ·exact h5.elim⟩
def fMulS:F2:=fun d _ e _ Q=>match d,e with
 | .str z,.int i=>MulOk z i/\Q (.str (Txt.mul z i)) .old
 | _,_=>False
theorem dop_mulS:DOp X K (binaryOp .Mult) fMulS:=⟨_,op_mul_str,fun Z ν Hs H x y d k e l Qf Q _ _ _ h3 h4 h5 h6=>by
 unfold fMulS at h5
 split at h5
 ·have a:=h3.den
  have b:=h4.den
  cases a
  cases b
  exact ⟨_,_,rfl,rfl,h5.1,h6 _ _ _ _ h5.2 (Same.refl H) (.str _)⟩
 ·exact h5.elim⟩
def fLenS:FA:=fun ds _ Q=>match ds with
 | [.str z]=>z.length<=1000000/\Q (.int z.length) .old
 | _=>False
theorem dcl_lenS:DCl X K (.builtin "len") fLenS:=⟨_,call_len_str,fun Z ν Hs H xs ds k Qf Q _ _ _ h g q=>by
 unfold fLenS at g
 split at g
 ·obtain ⟨v,rfl,h1⟩:=dns1 h.dens
  cases h1
  exact ⟨_,rfl,Nat.le_trans g.1 million,q _ _ _ _ g.2 (Same.refl H) (.int _)⟩
 ·exact g.elim⟩
def fSlS:F3:=fun d _ lo hi Q=>match d with
 | .str z=>z.length<=1000000/\Q (.str (Txt.slice z lo hi)) .old
 | _=>False
theorem zL {e:Expr} {lo hi:Option Expr} {te:TD} {tl th:TDO} {p2:Pos} (he:DE X K E e te) (hl:DO X K E lo tl) (hu:DO X K E hi th):DE X K E (.Subscript e (.Slice lo hi none p2) pos) (dSl fSlS te tl th):=⟨by
 refine qe_imp (qpe_slice sl_str he.q hl.q hu.q) fun σ H Q h=>?_
 obtain ⟨H0,ν,ρ,Qd,Xd,S,h1,q,x⟩:=h
 refine ⟨H0,ν,ρ,_,Xd,S,h1,fun d k v H1 g1 e1 r1=>?_,x⟩
 refine ⟨H0,ν,ρ,_,Xd,S.same e1,g1,fun l H2 g2 e2=>?_,x⟩
 refine ⟨H0,ν,ρ,_,Xd,S.same (e1.trans e2),g2,fun u H3 g3 e3=>?_,x⟩
 have r:=r1.den
 unfold fSlS at g3
 split at g3
 ·cases r
  exact ⟨_,rfl,Nat.le_trans g3.1 million,q _ _ _ _ g3.2 ((e1.trans e2).trans e3) (.str _)⟩
 ·exact g3.elim⟩
theorem dcl_anyX {ea C:Addr} {oe:Obj} (hK:X.K=K) (hp:(ea,oe)∈X.pn) (hc:XOf oe C) (hh:X.A.handled=some (.ref ea)):DCl X K (.builtin "any") (fBls fun l=>l.any id):=⟨_,call_anyX K hK hp hc.2 hh,fun Z ν Hs H xs ds k Qf Q _ _ _ h g q=>by
 unfold fBls at g
 split at g
 ·obtain ⟨v,rfl,h1⟩:=dns1 h.dens
  obtain ⟨a,us,rfl,g1,g2⟩:=dns_of_lst h1
  obtain ⟨ns,e,g⟩:=g
  exact ⟨a,ns,rfl,SqL.of (by rw [g1,dns_bools g2 e]),q _ _ _ _ g (Same.refl H) (.bl _)⟩
 ·exact g.elim⟩
end
section
variable {ρ:Ren} {Q:QD} {Xd:XD} {z:Str} {i:Int} {k l:Kd} {te:TD} {lo hi:Option Int}
theorem w_ixX (h:z.length<=1000000/\∃ c,atI z.cps.toList i=some c/\Q (.str ⟨#[c]⟩) .old):fIxS (.str z) k (.int i) l Q:=h
theorem w_mulX (h:MulOk z i/\Q (.str (Txt.mul z i)) .old):fMulS (.str z) k (.int i) l Q:=h
theorem w_lenX (h:z.length<=1000000/\Q (.int z.length) .old):fLenS [.str z] k Q:=h
theorem w_slX (h:z.length<=1000000/\Q (.str (Txt.slice z lo hi)) .old):fSlS (.str z) k lo hi Q:=h
def onS (Q:List D->Bool->Prop):QD:=fun d _=>match d with
 | .str z=>Q (signs z) true
 | _=>False
theorem w_iS {Q:List D->Bool->Prop} (h:te ρ (onS Q) Xd):iS te ρ Q Xd:=h
theorem w_onS {Q:List D->Bool->Prop} (h:Q (signs z) true):onS Q (.str z) k:=h
end
end DL
namespace L2
open PySem PySem.Spec PyProof.Rows PySem.W
open PySem.Calls
def sameK:V->V->Bool
 | .int _,.int _=>true
 | .str _,.str _=>true
 | _,_=>false
def sameKs:List V->List V->Bool
 | [],[]=>true
 | a::r,b::t=>sameK a b&&sameKs r t
 | _,_=>false
theorem sameK.symm {a b:V} (h:sameK a b=true):sameK b a=true:=by cases a<;>cases b<;>first|rfl|cases h
theorem sameK.trans {a b c:V} (h:sameK a b=true) (g:sameK b c=true):sameK a c=true:=by cases a<;>cases b<;>first|(cases h;done)|(cases c<;>first|rfl|(cases g;done))
theorem sameKs.symm:∀ {a b:List V},sameKs a b=true->sameKs b a=true
 | [],[],_=>rfl
 | _::_,_::_,h=>by
  rw [sameKs,Bool.and_eq_true] at h ⊢
  exact ⟨sameK.symm h.1,sameKs.symm h.2⟩
 | [],_::_,h=>by cases h
 | _::_,[],h=>by cases h
theorem sameKs.trans:∀ {a b c:List V},sameKs a b=true->sameKs b c=true->sameKs a c=true
 | [],[],[],_,_=>rfl
 | _::_,_::_,_::_,h,g=>by
  rw [sameKs,Bool.and_eq_true] at h g ⊢
  exact ⟨sameK.trans h.1 g.1,sameKs.trans h.2 g.2⟩
 | [],_::_,_,h,_=>by cases h
 | _::_,[],_,h,_=>by cases h
 | _,[],_::_,_,g=>by cases g
 | _,_::_,[],_,g=>by cases g
end L2
namespace DL
open PySem PySem.Spec PyProof.Rows L2
variable {α:Type}
theorem go_mapA {f:D->Els->(Els->Prop)->Prop} {Q:Els->Prop} (F G:α->D) (L:List α) (es:Els) (hs:∀ a∈L,∀ es (Q':Els->Prop),es.length < 1000000->Q' (es++[(G a,true)])->f (F a) es Q') (hm:es.length+L.length<=1000000) (q:Q (es++(L.map G).map fun d=>(d,true))):go f (L.map F) es Q :=
 go_fltA F G (fun _=>true) L es hs hm (by rw [List.filter_eq_self.mpr fun _ _=>rfl];rw [map_map] at q;exact q)
theorem go_flatA {f:D->Els->(Els->Prop)->Prop} {Q:Els->Prop} (F:α->D) (G:α->List D):∀ (L:List α) (es:Els),(∀ a∈L,∀ es (Q':Els->Prop),es.length+(G a).length<=1000000->Q' (es++(G a).map fun d=>(d,true))->f (F a) es Q')->es.length+(L.flatMap G).length<=1000000->Q (es++(L.flatMap G).map fun d=>(d,true))->go f (L.map F) es Q
 | [],es,_,_,q=>by
  show Q es
  simpa using q
 | a::r,es,hs,hm,q=>by
  rw [List.flatMap_cons,length_append] at hm
  rw [List.flatMap_cons,map_append,<-append_assoc] at q
  refine hs a mem_cons_self es _ (by omega) ?_
  exact go_flatA F G r _ (fun b hb=>hs b (mem_cons_of_mem _ hb)) (by rw [length_append,length_map];omega) q
theorem lc_flatA {f:D->Els->(Els->Prop)->Prop} {ok:Bool} {Q:QD} {L:List α} (F:α->D) (G:α->List D) (hs:∀ a∈L,∀ es (Q':Els->Prop),es.length+(G a).length<=1000000->Q' (es++(G a).map fun d=>(d,true))->f (F a) es Q') (hm:(L.flatMap G).length<=1000000) (q:Q (.list (L.flatMap G)) (.own [])):LcD f (L.map F) ok Q:=by
 refine go_flatA F G L [] hs (by simpa using hm) ?_
 have e1:((((L.flatMap G).map fun d=>(d,true)):Els).map (·.1))=L.flatMap G:=by rw [map_map];exact List.map_id _
 have e2:((((L.flatMap G).map fun d=>(d,true)):Els).all (·.2))=true:=by rw [List.all_map];exact all_eq_true.mpr fun _ _=>rfl
 rw [List.nil_append,e1,if_pos e2];exact q
end DL
namespace L2
open PySem PySem.Spec PyProof.Rows
end L2
namespace DL
open PySem PySem.Spec PyProof.Rows L2
end DL
namespace L2
open PySem PySem.Spec PyProof.Rows PySem.W PySem.Calls
def RawD (h:Heap) (d:Addr) (es:Array DictEntry) (ep:Nat):Prop:=∃ o,h.get? d=some o/\o.ExactDict/\o.data=.dict es ep
theorem RawD.lt {h:Heap} {d:Addr} {es:Array DictEntry} {ep:Nat} (x:RawD h d es ep):d < h.objs.size:=let ⟨_,e,_⟩:=x;Heap.lt_size e
theorem RawD.at {h h':Heap} {d:Addr} {es:Array DictEntry} {ep:Nat} (x:RawD h d es ep) (k:∀ o,h.get? d=some o->h'.get? d=some o):RawD h' d es ep:=let ⟨o,e,r⟩:=x;⟨o,k o e,r⟩
theorem RawD.ty {s:Shared} {d:Addr} {es:Array DictEntry} {ep:Nat} (x:RawD s.heap d es ep):s.TypeIs (.ref d) "dict":=let ⟨o,e,c,_⟩:=x;⟨o,e,c.1⟩
section
variable {prog:Program} {w:World} {A:Around} {E:Value->Shared->Prop} {s:Shared} {d it:Addr} {es:Array DictEntry} {ep i:Nat}
theorem raw_iter {Q:Value->Shared->Prop} (hd:(d==sysModules)=false) (hm:RawD s.heap d es ep)
  (hQ:Q (.ref s.heap.objs.size) { s with heap:=s.heap.push { cls:=.type "dict_keyiterator",data:=.fields #[.ref d,.int 0 0,.int es.size 0,.int ep 0] } }):wpAny (model prog w) A (pyIter (.ref d)) Q E s:=by
 obtain ⟨o,ho,hc,hdat⟩:=id hm
 refine wpAny_pyIter_slot hm.ty F.slot_dict_iter (wpAny_call_entry F.slot_dict_iter hm.ty F.entry_dict_iter ?_ (F.args_dict_iter_1 _))
 unfold Builtin.«dict.__iter__»
 refine wpAny_bind ?_
 unfold Builtin.Dict.dictSlotNone
 refine wpAny_bind (wpAny_notOrdered_dict hm.ty ?_)
 show wpAny _ _ (pure (Value.ref d)) _ _ s
 refine wpAny_pure ?_
 show wpAny _ _ (Builtin.Dict.showsAll d >>= _) _ _ s
 unfold Builtin.Dict.showsAll
 rw [if_neg (by rw [hd];exact Bool.false_ne_true)]
 refine wpAny_bind (wpAny_pure ?_)
 refine wpAny_bind (wpAny_dictEntries ho hdat ?_)
 refine wpAny_bind (wpAny_dictEpoch ho hdat ?_)
 refine wpAny_bind (wpAny_newObj_type (wpAny_pure ⟨_,rfl,"dict_keyiterator",_,⟨_,Heap.get?_push_size _ rfl,rfl⟩,F.slot_dict_keyiterator_next.lookup,?_⟩))
 simpa [rawInt] using hQ
theorem raw_item {e:DictEntry} {Q:Option Value->Shared->Prop} (hit:s.heap.IsKeyIter it d i es.size ep) (hm:RawD s.heap d es ep) (hx:es[i]?=some e)
  (hQ:∀ h',h'.IsKeyIter it d (i+1) es.size ep->Heap.SameBut it s.heap h'->Q (some e.key) { s with heap:=h' }):wpAny (model prog w) A (pyNext (.ref it)) Q E s:=by
 obtain ⟨o,ho,hc,hd⟩:=id hit
 obtain ⟨od,hod,hcd,hdd⟩:=id hm
 unfold pyNext
 refine wpAny_bind (wpAny_attempt (wpAny_callSpecial?_slot (name:=Str.ofString "__next__") hit.typeIs F.slot_dict_keyiterator_next
  (wpAny_call_entry F.slot_dict_keyiterator_next hit.typeIs F.entry_dict_keyiterator_next ?_ (F.args_dict_keyiterator_next_1 _))))
 refine wpAny_bind (wpAny_pure ?_)
 refine wpAny_bind ?_
 refine wpAny_bind ?_
 first|refine wpAny_bind (wpAny_typeNameOfWhole_keyiter hit.typeIs (wpAny_pure ?_))|refine wpAny_bind (wpAny_typeNameOf_keyiter hit.typeIs (wpAny_pure ?_))
 refine wpAny_bind (wpAny_fieldsOf ho hd ?_)
 simp only [show Builtin.Dict_items.ownsTuple "dict_keyiterator"=false by decide,Bool.false_eq_true,if_false]
 show wpAny _ _ (if (Value.ref d==Value.none)=true then _ else _) _ _ s
 rw [if_neg (show ¬ ((Value.ref d==Value.none)=true) from Bool.false_ne_true)]
 refine wpAny_bind (wpAny_pure ?_)
 refine wpAny_bind (wpAny_dictEntries hod hdd ?_)
 rw [if_neg (by simp)]
 refine wpAny_bind (wpAny_pure ?_)
 refine wpAny_bind (wpAny_dictEpoch hod hdd ?_)
 rw [if_neg (by simp)]
 refine wpAny_pure ?_
 simp only [show ¬ ((i:Int) < 0) from by omega,if_false,Int.toNat_natCast,hx]
 refine wpAny_bind ?_
 first|refine wpAny_bind (wpAny_typeNameOfWhole_keyiter hit.typeIs (wpAny_pure ?_))|refine wpAny_bind (wpAny_typeNameOf_keyiter hit.typeIs (wpAny_pure ?_))
 refine wpAny_bind (wpAny_isOneOf_keyiter hit.typeIs ?_)
 show wpAny _ _ (setField (.ref it) 1 (rawInt ((i:Int)+1)) >>= _) _ _ s
 refine wpAny_bind (wpAny_setField ho hd (by simp) ?_)
 have hit':(s.heap.update it (Obj.mapFields (·.setIfInBounds 1 (rawInt ((i:Int)+1))))).IsKeyIter it d (i+1) es.size ep :=
  ⟨_,Heap.get?_update_self _ ho (Obj.isFreed_of_fields (Obj.data_mapFields hd _)),(Obj.cls_mapFields ..).trans hc,by rw [Obj.data_mapFields hd];simp [rawInt]⟩
 refine wpAny_bind (wpAny_holding ?_)
 refine wpAny_bind (wpAny_isOneOf_keyiter (s:={ s with heap:=s.heap.update it (Obj.mapFields (·.setIfInBounds 1 (rawInt ((i:Int)+1)))) }) hit'.typeIs ?_)
 show wpAny _ _ (pure e.key) _ _ _
 exact wpAny_pure (wpAny_pure ⟨_,rfl,wpAny_pure (hQ _ hit' (Heap.SameBut.update ..))⟩)
theorem raw_end {Q:Option Value->Shared->Prop} (hh:A.handled=none) (hit:s.heap.IsKeyIter it d i es.size ep) (hm:RawD s.heap d es ep) (hx:es[i]?=none)
  (hQ:∀ h',Heap.ExtBut it s.heap h'->Q none { s with heap:=h' }):wpAny (model prog w) A (pyNext (.ref it)) Q E s:=by
 obtain ⟨o,ho,hc,hd⟩:=id hit
 obtain ⟨od,hod,hcd,hdd⟩:=id hm
 unfold pyNext
 refine wpAny_bind (wpAny_attempt (wpAny_callSpecial?_slot (name:=Str.ofString "__next__") hit.typeIs F.slot_dict_keyiterator_next
  (wpAny_call_entry F.slot_dict_keyiterator_next hit.typeIs F.entry_dict_keyiterator_next ?_ (F.args_dict_keyiterator_next_1 _))))
 refine wpAny_bind (wpAny_pure ?_)
 refine wpAny_bind ?_
 refine wpAny_bind ?_
 first|refine wpAny_bind (wpAny_typeNameOfWhole_keyiter hit.typeIs (wpAny_pure ?_))|refine wpAny_bind (wpAny_typeNameOf_keyiter hit.typeIs (wpAny_pure ?_))
 refine wpAny_bind (wpAny_fieldsOf ho hd ?_)
 simp only [show Builtin.Dict_items.ownsTuple "dict_keyiterator"=false by decide,Bool.false_eq_true,if_false]
 show wpAny _ _ (if (Value.ref d==Value.none)=true then _ else _) _ _ s
 rw [if_neg (show ¬ ((Value.ref d==Value.none)=true) from Bool.false_ne_true)]
 refine wpAny_bind (wpAny_pure ?_)
 refine wpAny_bind (wpAny_dictEntries hod hdd ?_)
 rw [if_neg (by simp)]
 refine wpAny_bind (wpAny_pure ?_)
 refine wpAny_bind (wpAny_dictEpoch hod hdd ?_)
 rw [if_neg (by simp)]
 refine wpAny_pure ?_
 simp only [show ¬ ((i:Int) < 0) from by omega,if_false,Int.toNat_natCast,hx]
 refine wpAny_bind ?_
 first|refine wpAny_bind (wpAny_typeNameOfWhole_keyiter hit.typeIs (wpAny_pure ?_))|refine wpAny_bind (wpAny_typeNameOf_keyiter hit.typeIs (wpAny_pure ?_))
 show wpAny _ _ (setField (.ref it) 0 .none >>= _) _ _ s
 refine wpAny_bind (wpAny_setField ho hd (by simp) ?_)
 show wpAny _ _ (newExc (.type "StopIteration") [] >>= _) _ _ _
 refine wpAny_bind ?_
 simp only [newExc,newTuple]
 refine wpAny_bind (wpAny_newObj_type ?_ (by size_fits))
 refine wpAny_bind (m:=firstArgMember _ _) (wpAny_of_eq (a:=Value.none) (by first|rfl|(simp only [firstArgMember];rfl)) ?_)
 refine wpAny_newObj_type ?_ (by size_fits)
 simp only [raiseNew]
 refine wpAny_bind (wpAny_handled ?_)
 rw [show A.in1.handled=none from hh]
 refine wpAny_bind (wpAny_pure (wpAny_throw ?_))
 refine wpAny_bind (wpAny_isInstance (T:="StopIteration") (b:=true) ⟨_,Heap.get?_push_size _ rfl,rfl⟩ isSubtype_stop ?_)
 exact wpAny_pure (hQ _ (((Heap.SameBut.update ..).extBut.push _).push _))
theorem raw_walks (hh:A.handled=none) (I:Addr) (hne:d≠I):Walks prog w A I [I,d] [I] es.size (fun i v=>(es[i]?).map (·.key)=some v) (fun i h=>h.IsKeyIter I d i es.size ep/\RawD h d es ep) where
 sub:=fun b hb=>by simp at hb;simp [hb]
 frame:=fun _ _ _ st hk=>⟨st.1.at fun o e=>hk I (by simp) o e,st.2.at fun o e=>hk d (by simp) o e⟩
 item:=fun i s Q E hi st hQ=>by
  have hx:es[i]?=some es[i]:=Array.getElem?_eq_getElem hi
  refine raw_item st.1 st.2 hx fun h' hit' hs'=>?_
  exact hQ _ h' s.toks (by rw [hx];rfl) ⟨hit',st.2.at fun o e=>hs'.extBut d o hne e⟩ fun b o hb e=>hs'.extBut b o (fun h=>hb (by simp [h])) e
 done:=fun s Q E st hQ=>raw_end hh st.1 st.2 (by simp) fun h' he'=>hQ h' s.toks fun b o hb e=>he' b o (fun h=>hb (by simp [h])) e
 self:=fun _ _ _ _ st hQ=>wpAny_pyIter_keyiter st.1 hQ
theorem raw_src (lo:(d==sysModules)=false):KdlSrc prog w "dict" d d es.size (fun i v=>(es[i]?).map (·.key)=some v) (fun h=>RawD h d es ep) where
 type:=fun _ hm=>hm.ty
 there:=fun _ hm=>⟨hm.lt,hm.lt⟩
 keep:=fun _ _ hm hk=>hm.at fun o e=>hk d (.inl rfl) o e
 notList:=by decide
 notTuple:=by decide
 hint:=fun _ _ _ _ hm hq=>kdl_hint_dict hm.ty hq
 iter:=fun _ _ hh hm=>⟨_,_,(fun _ _ hq=>raw_iter lo hm hq),raw_walks hh _ (Nat.ne_of_lt hm.lt),⟨⟨_,Heap.get?_push_size _ rfl,rfl,rfl⟩,hm.at fun o e=>Heap.get?_push_of_some _ e⟩⟩
theorem collect_src {T:String} {r:Addr} {n:Nat} {P:Nat->Value->Prop} {OK:Heap->Prop} {Q:List Value->Shared->Prop} (K:KdlSrc prog w T r d n P OK) (hh:A.handled=none) (hok:OK s.heap) (hn:n<=sizeLine)
  (h:∀ h' tk (vs:List Value),(∀ b o,s.heap.get? b=some o->h'.get? b=some o)->s.heap.objs.size<=h'.objs.size->ItemsOf P vs.toArray n->Q vs { s with heap:=h',toks:=tk }):wpAny (model prog w) A (collect (.ref r)) Q E s:=by
 have hlt:=K.there _ hok
 have hS0:(s.heap.push (seqObj "list" #[] 0)).get? s.heap.objs.size=some { cls:=.type "list",data:=.seq #[] 0 }:=Heap.get?_push_size _ rfl
 have key:∀ R:Result->Shared->Prop,(∀ h' tk acc' c',(∀ b o,b≠s.heap.objs.size->(s.heap.push (seqObj "list" #[] 0)).get? b=some o->h'.get? b=some o)->h'.get? s.heap.objs.size=some { cls:=.type "list",dict:=none,data:=.seq acc' c',slots:=#[] }->ItemsOf P acc' n->R (.ok (.ret (.ref s.heap.objs.size))) { s with heap:=h',toks:=tk }) ->
   codeAny (model prog w) A (.builtin "list.__iadd__" ⟨[.ref s.heap.objs.size,.ref r],[]⟩) R { s with heap:=s.heap.push (seqObj "list" #[] 0) }:=fun R hR =>
  codeAny_builtin entry_list_iadd' (kdl_extend (s:={ s with heap:=s.heap.push (seqObj "list" #[] 0) }) K hh (K.keep _ _ hok fun b _ o e=>Heap.get?_push_of_some _ e) s.heap.objs.size (Nat.ne_of_gt hlt.1) (Nat.ne_of_gt hlt.2) _ 0 hS0 hR hn)
 unfold collect
 refine wpAny_bind (wpAny_runValue (codeAny_builtin entry_proto_collect' ?_))
 show wpAny _ _ (do again (.builtin "list.__iadd__" ⟨[<-newList [],.ref r],[]⟩)) _ _ s
 refine wpAny_bind (wpAny_newList (wpAny_pure ⟨Code.quiet_builtin _ (by decide +kernel),key _ fun h' tk acc' c' hk hS hacc=>?_⟩))
 show wpAny (model prog w) A (do
   let o <- load s.heap.objs.size
   match o.data with
   | .seq xs _=>pure xs.toList
   | _=>unsupported "internal:collect") Q E { s with heap:=h',toks:=tk }
 refine wpAny_bind (wpAny_load hS ?_)
 show wpAny _ _ (pure acc'.toList) Q E _
 exact wpAny_pure (h h' tk acc'.toList (fun b o e=>hk b o (Nat.ne_of_lt (Heap.lt_size e)) (Heap.get?_push_of_some _ e)) (Nat.le_of_lt (Heap.lt_size hS)) (by simpa using hacc))
end
section
variable {vs:List Value}
theorem sortedHeap_old {h:Heap} {a b:Addr} {out:Array Value} {o:Obj} (hb:b≠a) (q:h.get? b=some o):(sortedHeap h a vs out).get? b=some o:=by
 unfold sortedHeap
 rw [Heap.get?_update_ne _ _ _ _ hb]
 refine Heap.get?_push_of_some _ (Heap.get?_push_of_some _ ?_)
 rw [Heap.get?_update_ne _ _ _ _ hb];exact q
theorem sortedHeap_at {h:Heap} {a:Addr} {out:Array Value} {n:Nat} (q:h.get? a=some (seqObj "list" vs.toArray n)):∃ e,(sortedHeap h a vs out).get? a=some (seqObj "list" out e):=by
 unfold sortedHeap
 obtain ⟨e1,q1⟩:∃ e,(h.update a (Obj.mapSeq fun _=>(#[]:Array Value))).get? a=some (seqObj "list" #[] e):=⟨_,get?_update_seq q fun _=>#[]⟩
 have q2:=Heap.get?_push_of_some (seqObj "list" #[] 0) (Heap.get?_push_of_some (seqObj "tuple" vs.toArray 0) q1)
 exact ⟨_,get?_update_seq q2 fun _=>out⟩
theorem items_are_list {es:Array DictEntry} {ws:List Value} (h:ItemsOf (fun i v=>(es[i]?).map (·.key)=some v) ws.toArray es.size):ws=es.toList.map (·.key):=by
 obtain ⟨h1,h2⟩:=h
 rw [size_toArray] at h1
 apply List.ext_getElem?
 intro i
 rw [List.getElem?_map]
 have q:es.toList[i]?=es[i]?:=Array.getElem?_toList
 rw [q]
 cases e:ws[i]? with
 | some v =>
  have:=h2 i v (by simpa using e)
  exact this.symm
 | none =>
  have:ws.length<=i:=by simpa using e
  have e2:es[i]?=none:=Array.getElem?_eq_none (by omega)
  rw [e2];rfl
end
section
variable {X:Cx} {pins:List (Addr × Obj)} {σ:List (Option V)} {H:Hp} {s:Shared} {a:Addr}
theorem dT_raw (I:Inv X pins σ H s) {kvs:List (List Key × V)} (e:H a=some (.dT kvs)):(a==sysModules)=false/\∃ es ep bs,RawD s.heap a es ep/\es.size=kvs.length/\es.toList.map (·.key)=bs.map Value.ref/\Paired (fun b (p:List Key × V)=>H b=some (.tup (p.1.map kV))) bs kvs:=by
 obtain ⟨_,y,xs,r,o,es,ep,h1,h2,h3,h4,_⟩:=(show ObjOk X.prog X.w H s.heap a (.dT kvs) from I.hok a _ e)
 refine ⟨y,es,ep,xs.map (·.2.1),⟨o,h1,h2,h3⟩,?_,?_,?_⟩
 ·have:es.toList.length=xs.length:=by rw [h4,length_map]
  rw [Array.length_toList] at this
  rw [this];exact (Paired.length r).symm
 ·rw [h4,map_map,map_map];rfl
 ·have go:∀ {l:List (List Key × V)} {m:List (List Key × Addr × Value)},Paired (fun (p:List Key × V) (q:List Key × Addr × Value)=>p.1=q.1/\H q.2.1=some (.tup (p.1.map kV))/\RelV p.2 q.2.2) l m->Paired (fun b (p:List Key × V)=>H b=some (.tup (p.1.map kV))) (m.map (·.2.1)) l:=by
   intro l m r
   induction r with
   | nil=>exact .nil
   | cons h _ ih=>exact .cons h.2.1 ih
  exact go r
theorem dK_raw (I:Inv X pins σ H s) {kvs:List (Key × V)} (e:H a=some (.dK kvs)):(a==sysModules)=false/\∃ es ep,RawD s.heap a es ep/\es.size=kvs.length/\Vals (kvs.map fun p=>kV p.1) (es.toList.map (·.key)):=by
 obtain ⟨_,y,vs,r,o,es,ep,h1,h2,h3,_,h5,_⟩:=(show ObjOk X.prog X.w H s.heap a (.dK kvs) from I.hok a _ e)
 have hp:∀ {l:List DictEntry} {m:List (Key × Value)} {n:List (Key × V)},Pairs (mixKind X.prog X.w) l m->KV n m->Vals (n.map fun p=>kV p.1) (l.map (·.key)):=by
  intro l m n p
  induction p generalizing n with
  | nil=>intro k;cases k;exact .nil
  | cons g1 g2 _ ih =>
   intro k
   cases k with
   | cons q1 q2 =>
    refine .cons ?_ (ih q2)
    show RelV (kV _) _
    rw [q1.1]
    rcases keyIs_shape g1 with ⟨i,t,e1,e2⟩|⟨x,t,e1,e2⟩
    ·rw [e1];exact ⟨t,e2⟩
    ·rw [e1];exact ⟨t,e2⟩
 have v:=hp h5 r
 refine ⟨y,es,ep,⟨o,h1,h2,h3⟩,?_,v⟩
 have:=v.length
 rw [length_map,length_map,Array.length_toList] at this
 exact this.symm
end
end L2
namespace DL
open PySem PySem.Spec PyProof.Rows L2
end DL
namespace L2
open PySem PySem.Spec PyProof.Rows PySem.W PySem.Calls
section
variable {prog:Program} {w:World} {A:Around} {E:Value->Shared->Prop} {s:Shared} {d:Addr} {es:Array DictEntry} {ep:Nat}
theorem raw_meets_len (hd:(d==sysModules)=false):MeetsIn prog w (Builtin.«dict.__len__» ⟨[.ref d],[]⟩) (fun _ R s=>RawD s.heap d es ep/\R (.ok (.ret (.int es.size s.toks))) { s with toks:=s.toks+1 }) :=
 .of_wp fun A R s ⟨hm,h⟩=>by
  obtain ⟨o,ho,hc,hdat⟩:=hm
  show wpAny _ _ (dictSize d >>= _) _ _ s
  unfold dictSize
  refine wpAny_bind (wpAny_bind (wpAny_dictEntries ho hdat (wpAny_pure ?_)))
  show wpAny _ _ (Builtin.Dict.pendingCount d >>= _) _ _ s
  refine wpAny_bind (wpAny_pendingCount_other hd ?_)
  refine wpAny_ret_mkInt ?_
  rw [Nat.add_zero];exact h
theorem raw_len {Q:Value->Shared->Prop} (hd:(d==sysModules)=false) (hm:RawD s.heap d es ep) (hfit:(es.size:Int) < 2 ^ 63)
  (h:Q (.int es.size (s.toks+1)) { s with toks:=s.toks+1+1 }):wpAny (model prog w) A (call (.builtin "len") [.ref d]) Q E s:=by
 refine Calls.call_function_entry kind_len plain_len entry_len (args_len1 _) ?_
 unfold Builtin.«len»
 refine wpAny_bind (m:=oneArg "len" _) (wpAny_pure ?_)
 refine wpAny_bind (m:=callSpecial? (.ref d) (Str.ofString "__len__")) (wpAny_callSpecial?_slot (name:=Str.ofString "__len__") hm.ty F.slot_dict_len
  (call_meetsIn F.slot_dict_len hm.ty F.entry_dict_len (F.args_dict_len_1 _) (raw_meets_len (es:=es) (ep:=ep) hd) ⟨hm,?_⟩))
 show wpAny _ _ _ _ _ { s with toks:=s.toks+1 }
 refine wpAny_bind (wpAny_holding (wpAny_pure ?_))
 refine wpAny_bind (wpAny_letGo ?_)
 show wpAny _ _ (if ((es.size:Nat):Int) < 0 then _ else _) _ _ _
 rw [if_neg (by omega)]
 show wpAny _ _ (if ((es.size:Nat):Int) ≥ 2 ^ 63 then _ else _) _ _ _
 rw [if_neg (by omega)]
 exact wpAny_bind (wpAny_mkInt (wpAny_pure ⟨_,rfl,h⟩))
end
def rLenD2:List V->Hp->VK->Prop:=fun xs H Q=>∃ a,xs=[.ref a]/\((∃ kvs,H a=some (.dK kvs)/\Q (.int kvs.length) H)\/∃ kvs,H a=some (.dT kvs)/\Q (.int kvs.length) H)
theorem call_lenD2 {X:Cx}:CallR X (.builtin "len") rLenD2:=by
 intro pins s σ H xs us Q I r h
 obtain ⟨a,rfl,h⟩:=h
 obtain ⟨u,rfl,rx⟩:=vals1 r
 cases rx
 rcases h with ⟨kvs,e,q⟩|⟨kvs,e,q⟩
 ·obtain ⟨lo,es,ep,h1,h2,_⟩:=dK_raw I e
  have hz:=(dk_of I.hok e).1
  refine raw_len lo h1 (by rw [h2];rw [sizeLine_eq] at hz;omega) ?_
  exact ⟨.int kvs.length,H,I.tok _,⟨_,by rw [h2]⟩,q⟩
 ·obtain ⟨lo,es,ep,bs,h1,h2,_⟩:=dT_raw I e
  have hz:=(dt_of I.hok e).1
  refine raw_len lo h1 (by rw [h2];rw [sizeLine_eq] at hz;omega) ?_
  exact ⟨.int kvs.length,H,I.tok _,⟨_,by rw [h2]⟩,q⟩
end L2
namespace DL
open PySem PySem.Spec PyProof.Rows L2
section
variable {X:Cx} {K:W.Frag} {E:XK}
def fLenD:FA:=fun ds _ Q=>(∃ es,ds=[dTD es]/\Q (.int es.length) .old)\/∃ es,ds=[dKD es]/\Q (.int es.length) .old
theorem dcl_lenD:DCl X K (.builtin "len") fLenD:=⟨_,call_lenD2,fun Z ν Hs H xs ds k Qf Q hl hn hs h g q=>by
 rcases g with ⟨es,rfl,g⟩|⟨es,rfl,g⟩
 ·obtain ⟨v,rfl,h1⟩:=dns1 h.dens
  obtain ⟨a,kvs,rfl,e,p⟩:=dn_dT h1
  exact ⟨a,rfl,.inr ⟨kvs,e,by rw [p.length];exact q _ _ _ _ g (Same.refl H) (.int _)⟩⟩
 ·obtain ⟨v,rfl,h1⟩:=dns1 h.dens
  obtain ⟨a,kvs,rfl,e,p⟩:=dn_dK h1
  exact ⟨a,rfl,.inl ⟨kvs,e,by rw [p.length];exact q _ _ _ _ g (Same.refl H) (.int _)⟩⟩⟩
variable {ρ:Ren} {Q:QD} {Xd:XD} {k:Kd} {te td:TD} {tk:TKy} {es:List (List Key × D)} {eK:List (Key × D)} {i:Nat} {Dd:EndsD}
theorem w_lenDK (h:Q (.int eK.length) .old):fLenD [dKD eK] k Q:=.inr ⟨eK,rfl,h⟩
theorem w_newK (h:Q (dKD []) (.own [])):dDNew false ρ Q Xd:=h
def onKS (Q:KeyR->Prop):QD:=fun d _=>∃ k,d=keyV k/\Q (.inl k)
theorem w_kyS {Q:KeyR->Prop} (h:te ρ (onKS Q) Xd):kyS te ρ Q Xd:=h
theorem w_onKs {Q:KeyR->Prop} {x:Str} (h:Q (.inl (.inr x))):onKS Q (.str x) k:=⟨.inr x,rfl,h⟩
def onIn (f:Bool->Bool) (td:TD) (ρ:Ren) (Q:QD) (Xd:XD):KeyR->Prop:=fun k=>td ρ (fun d _=>DHas d k fun b=>Q (.bool (f b)) .old) Xd
theorem w_dIn {f:Bool->Bool} (h:tk ρ (onIn f td ρ Q Xd) Xd):dDIn f tk td ρ Q Xd:=h
theorem w_onIn {f:Bool->Bool} {kr:KeyR} (h:td ρ (fun d _=>DHas d kr fun b=>Q (.bool (f b)) .old) Xd):onIn f td ρ Q Xd kr:=h
theorem w_hasK {kk:Key} {C:Bool->Prop} (h:C (look eK kk).isSome):DHas (dKD eK) (.inl kk) C:=.inl ⟨eK,kk,rfl,rfl,h⟩
def onPut (i:Nat) (tk:TKy) (Dd:EndsD) (ρ:Ren) (Xd:XD):QD:=fun d _=>(valD d).isSome=true/\∃ x,ρ[i]?=some (some (true,x))/\tk ρ (fun k=>DPutD x k d fun y=>Dd.nx (ρ.set i (some (true,y)))) Xd
theorem w_dPut (h:te ρ (onPut i tk Dd ρ Xd) Xd):dDPut i tk te Dd ρ Xd:=h
theorem w_onPut {d x:D} {k:Kd} (h1:(valD d).isSome=true) (h2:ρ[i]?=some (some (true,x))) (h:tk ρ (fun k=>DPutD x k d fun y=>Dd.nx (ρ.set i (some (true,y)))) Xd):onPut i tk Dd ρ Xd d k:=⟨h1,x,h2,h⟩
theorem w_putDK {d:D} {kk:Key} {C:D->Prop} (h:eK.length < 1000000/\C (dKD (putD eK kk d))):DPutD (dKD eK) (.inl kk) d C:=.inl ⟨eK,kk,rfl,rfl,h⟩
section
variable {pos:Pos} {i o:Expr}
theorem dpt_din (hu:X.A.units+1 < cLine) (hi:DKy X K E i tk) (ho:DE X K E o td) (hm:behindInMarks .In o=false):DT X K E (.Compare i [.In] [o] pos) (dB (dDIn id tk td)) :=
 ⟨qt_imp (qpt_din hu hi.q ho.q hm) fun σ H Q h=>le_din (i:=i) (o:=o) id tDIn (fun _ _ _ _ _ h=>h) σ H _ (le_b h)⟩
end
end
section
variable {ρ:Ren} {i:Nat} {s:List Nat} {eK:List (Key × D)}
theorem flat_dK:flat (dKD eK)=false:=rfl
theorem setK_ownK:setK ρ i (dKD eK) (.own s)=(dropS ρ s).set i (some (true,dKD eK)):=rfl
theorem setK_oldK:setK ρ i (dKD eK) .old=ρ.set i (some (false,dKD eK)):=rfl
theorem setK_mixK:setK ρ i (dKD eK) .mix=(frz ρ).set i (some (false,dKD eK)):=rfl
end
structure GInt (mg:Str->Option Value) (x:Str) (i:Int):Prop where
 ex:∃ t,mg x=some (.int i t)
structure GTup (K:W.Frag) (mg:Str->Option Value) (x:Str) (ds:List D):Prop where
 ex:∃ a,mg x=some (.ref a)/\∀ H,Dn K H (.ref a) (.tuple ds)
def scD:Value->Option D
 | .none=>some .none
 | .bool b=>some (.bool b)
 | .int i _=>some (.int i)
 | .str x _=>some (.str x)
 | _=>Option.none
def scDs:List Value->Option (List D)
 | []=>some []
 | v::r=>match scD v,scDs r with
  | some d,some ds=>some (d::ds)
  | _,_=>Option.none
section
variable {X:Cx} {K:W.Frag} {E:XK} {pos:Pos} {x:Str}
theorem scD_dn {H:Hp} {v:Value} {d:D} (h:scD v=some d):∃ u,RelV u v/\Dn K H u d:=by
 cases v<;>simp [scD] at h<;>subst h
 ·exact ⟨.non,rfl,.non⟩
 ·exact ⟨.bl _,rfl,.bl _⟩
 ·exact ⟨.int _,⟨_,rfl⟩,.int _⟩
 ·exact ⟨.str _,⟨_,rfl⟩,.str _⟩
theorem scDs_dns {H:Hp}:∀ {vs:List Value} {ds:List D},scDs vs=some ds->∃ us,Vals us vs/\Dns K H us ds
 | [],_,h=>by cases h;exact ⟨[],.nil,.nil⟩
 | v::r,ds,h=>by
  unfold scDs at h
  cases e1:scD v with
  | none=>rw [e1] at h;cases h
  | some d =>
   cases e2:scDs r with
   | none=>rw [e1,e2] at h;cases h
   | some l =>
    rw [e1,e2] at h
    cases h
    obtain ⟨u,h1,h2⟩:=scD_dn (K:=K) (H:=H) e1
    obtain ⟨us,h3,h4⟩:=scDs_dns (H:=H) e2
    exact ⟨u::us,.cons h1 h3,.cons h2 h4⟩
theorem gtup_of {mg:Str->Option Value} {a:Addr} {o:Obj} {its:Array Value} {n:Nat} {ds:List D} (hm:mg x=some (.ref a)) (h1:K.lookup a=some o) (h2:o.cls=.type "tuple") (h3:o.data=.seq its n) (h4:its.size<=1000) (h5:scDs its.toList=some ds):GTup K mg x ds :=
 ⟨a,hm,fun H=>by
  obtain ⟨us,r,d⟩:=scDs_dns (K:=K) (H:=H) h5
  exact .tup (.inr ⟨o,its,n,h1,h2,h3,Nat.le_trans h4 (by decide),r⟩) d⟩
theorem dpe_gint {i:Int} (G:GInt X.mg x i) (hg:Gl X x) (hd:(x==("__debug__":Str))=false:=by decide):DE X K E (.Name x pos) (dC (.int i)):=by
 obtain ⟨t,hm⟩:=G.ex
 exact dc_of (⟨pe_glob hg hm (v:=.int i) ⟨t,rfl⟩ hd⟩:QE X (.Name x pos) (tC (.int i))) fun _=>.int _
theorem dpe_gtup {ds:List D} (G:GTup K X.mg x ds) (hg:Gl X x) (hd:(x==("__debug__":Str))=false:=by decide):DE X K E (.Name x pos) (dC (.tuple ds)):=by
 obtain ⟨a,hm,h⟩:=G.ex
 refine ⟨qe_imp (⟨pe_glob hg hm (v:=.ref a) rfl hd⟩:QE X (.Name x pos) (tC (.ref a))) fun σ H Q h'=>?_⟩
 obtain ⟨H0,ν,ρ,Qd,Xd,S,h1,q,_⟩:=h'
 exact q _ _ (.ref a) H h1 (Same.refl H) (h _)
end
end DL
namespace L2
open PySem PySem.Spec PyProof.Rows
end L2
namespace DL
open PySem PySem.Spec PyProof.Rows L2
section
theorem kels2_flat {ds es:List D} {k l:Kd} (h:(flats ds&&flats es)=true):kels2 ds k es l=.own []:=by unfold kels2;rw [if_pos h]
end
section
variable {ρ:Ren} {d:D} {q:Nat}
def lk (q:Nat) (d:D) (ρ:Ren):Ren:=(frz ρ).set q (some (false,d))
end
end DL
namespace L2
open PySem PySem.Spec PyProof.Rows
section
variable {P:Program} {w:World} {A:Around} {R:Result->Shared->Prop} {it bx:Addr} {fp wr:List Addr} {n:Nat} {V0:Nat->Value->Prop} {St:Nat->Heap->Prop} {bt:Nat->Nat->Bool} {dv:Value}
abbrev mxArgs (it bx:Addr) (dv:Value):Args:=⟨[.ref it,.none,.ref bx],[("default",dv)]⟩
abbrev mxBox (us:Array Value) (c:Nat):Obj:={ cls:=.type "list",dict:=none,data:=.seq us c,slots:=#[] }
theorem mx_nm:(toString "max"++toString ".loop":String)="max.loop":=by decide
theorem mx_on (W:Walks P w A.in1 it fp wr n V0 St) (hc:CmpOf P w A.in1 .Gt V0 bt) (hb:bx∉fp) :
  ∀ (r j:Nat) (s:Shared) (u:Value) (c:Nat),n=j+1+r->St (j+1) s.heap->V0 (argBest bt j) u->s.heap.get? bx=some (mxBox #[u,u] c) ->
  (∀ v h' tk,V0 (argBest bt (n - 1)) v->(∀ b o,b∉wr->b≠bx->s.heap.get? b=some o->h'.get? b=some o)->R (.ok (.ret v)) { s with heap:=h',toks:=tk }) ->
  codeAny (model P w) A (.builtin "max.loop" (mxArgs it bx dv)) R s
 | 0,j,s,u,c,hn,st,hu,hx,hR=>by
  have hw:bx∉wr:=fun h=>hb (W.sub _ h)
  refine codeAny_builtin PySem.F.entry_max_loop ?_
  rw [Around.under_plainId PySem.F.plain_max_loop _]
  show wpAny _ A.in1 (seqItems? (.ref bx) >>= _) _ _ s
  refine wpAny_bind (wpAny_seqItems hx rfl ?_)
  show wpAny _ A.in1 (tryCatch (pyNext (.ref it)) _ >>= _) _ _ s
  refine wpAny_bind (wpAny_tryCatch (W.done s _ _ (by rw [hn];exact st) fun h' tk kk=>?_))
  show wpAny _ A.in1 (updateSeq bx (fun _=>#[]) >>= _) _ _ _
  refine wpAny_bind (wpAny_updateSeq (kk bx _ hw hx) rfl (wpAny_bind (wpAny_letGo (wpAny_pure ?_))))
  exact hR u _ tk (by rw [hn];exact hu) fun b o h1 h2 e=>(Heap.get?_update_other _ _ (Ne.symm h2)).trans (kk b o h1 e)
 | r+1,j,s,u,c,hn,st,hu,hx,hR=>by
  have hw:bx∉wr:=fun h=>hb (W.sub _ h)
  refine codeAny_builtin PySem.F.entry_max_loop ?_
  rw [Around.under_plainId PySem.F.plain_max_loop _]
  show wpAny _ A.in1 (seqItems? (.ref bx) >>= _) _ _ s
  refine wpAny_bind (wpAny_seqItems hx rfl ?_)
  show wpAny _ A.in1 (tryCatch (pyNext (.ref it)) _ >>= _) _ _ s
  refine wpAny_bind (wpAny_tryCatch (W.item (j+1) s _ _ (by omega) st fun v h' tk hv st' kk=>?_))
  have hx':=kk bx _ hw hx
  show wpAny _ A.in1 (tryCatch (holding [v,v] (richCompare .Gt v u >>= _)) _ >>= _) _ _ _
  refine wpAny_bind (wpAny_tryCatch (wpAny_holding (wpAny_bind (hc (j+1) (argBest bt j) v u _ _ _ hv hu ?_))))
  refine wpAny_bind (wpAny_holding (wpAny_truthy_bool (wpAny_bind (wpAny_letGo (wpAny_pure ?_)))))
  cases hq:bt (j+1) (argBest bt j) with
  | true =>
   simp only [if_true]
   refine wpAny_bind (wpAny_updateSeq hx' rfl (wpAny_bind (wpAny_letGo ?_)))
   rw [mx_nm]
   refine wpAny_pure ⟨plainId_quiet PySem.F.plain_max_loop _,mx_on W hc hb r (j+1) _ v _ (by omega) (W.frame _ _ _ st' fun b hbf o e=>?_) (by simp only [argBest,hq,if_true];exact hv) (Heap.get?_update_self _ hx' rfl) fun v2 h2 tk2 a1 a2=>?_⟩
   ·exact (Heap.get?_update_other _ _ (fun h:bx=b=>hb (by rw [h];exact hbf))).trans e
   ·exact hR v2 h2 tk2 a1 fun b o e1 e2 e=>a2 b o e1 e2 ((Heap.get?_update_other _ _ (Ne.symm e2)).trans (kk b o e1 e))
  | false =>
   simp only [Bool.false_eq_true,if_false]
   refine wpAny_bind (wpAny_letGo ?_)
   rw [mx_nm]
   refine wpAny_pure ⟨plainId_quiet PySem.F.plain_max_loop _,mx_on W hc hb r (j+1) _ u c (by omega) st' (by simp only [argBest,hq,Bool.false_eq_true,if_false];exact hu) hx' fun v2 h2 tk2 a1 a2=>?_⟩
   exact hR v2 h2 tk2 a1 fun b o e1 e2 e=>a2 b o e1 e2 (kk b o e1 e)
theorem mx_run (W:Walks P w A.in1 it fp wr n V0 St) (hc:CmpOf P w A.in1 .Gt V0 bt) (hb:bx∉fp) {s:Shared} {c:Nat} (st:St 0 s.heap) (hx:s.heap.get? bx=some (mxBox #[] c))
  (hR:∀ v h' tk,(n=0/\v=dv\/0 < n/\V0 (argBest bt (n - 1)) v)->(∀ b o,b∉wr->b≠bx->s.heap.get? b=some o->h'.get? b=some o)->R (.ok (.ret v)) { s with heap:=h',toks:=tk }) :
  codeAny (model P w) A (.builtin "max.loop" (mxArgs it bx dv)) R s:=by
 have hw:bx∉wr:=fun h=>hb (W.sub _ h)
 refine codeAny_builtin PySem.F.entry_max_loop ?_
 rw [Around.under_plainId PySem.F.plain_max_loop _]
 show wpAny _ A.in1 (seqItems? (.ref bx) >>= _) _ _ s
 refine wpAny_bind (wpAny_seqItems hx rfl ?_)
 show wpAny _ A.in1 (tryCatch (pyNext (.ref it)) _ >>= _) _ _ s
 by_cases hn:n=0
 ·refine wpAny_bind (wpAny_tryCatch (W.done s _ _ (by rw [hn];exact st) fun h' tk kk=>?_))
  refine wpAny_bind (wpAny_rule (wpAny_pure ?_))
  exact hR dv h' tk (.inl ⟨hn,rfl⟩) fun b o h1 _ e=>kk b o h1 e
 ·refine wpAny_bind (wpAny_tryCatch (W.item 0 s _ _ (by omega) st fun v h' tk hv st' kk=>?_))
  have hx':=kk bx _ hw hx
  show wpAny _ A.in1 (updateSeq bx (fun _=>#[v,v]) >>= _) _ _ _
  refine wpAny_bind (wpAny_updateSeq hx' rfl ?_)
  rw [mx_nm]
  refine wpAny_pure ⟨plainId_quiet PySem.F.plain_max_loop _,mx_on W hc hb (n - 1) 0 _ v _ (by omega) (W.frame _ _ _ st' fun b hbf o e=>?_) hv (Heap.get?_update_self _ hx' rfl) fun v2 h2 tk2 a1 a2=>?_⟩
  ·exact (Heap.get?_update_other _ _ (fun h:bx=b=>hb (by rw [h];exact hbf))).trans e
  ·exact hR v2 h2 tk2 (.inr ⟨by omega,a1⟩) fun b o e1 e2 e=>a2 b o e1 e2 ((Heap.get?_update_other _ _ (Ne.symm e2)).trans (kk b o e1 e))
end
theorem mx_argsOk (a v:Value):argsOk "max" ⟨[a],[(Str.ofString "default",v)]⟩:=by unfold argsOk;kernel_rfl
theorem max_dflt {P:Program} {w:World} {A:Around} {E:Value->Shared->Prop} {s:Shared} {l:Addr} {xs:Array (Int × Tok)} {dv:Value} {Q:Value->Shared->Prop} (hh:A.handled=none) (hl:s.heap.IsList l (intItems xs))
  (h:∀ v h' tk,(xs.size=0/\v=dv\/0 < xs.size/\(intItems xs)[argBest (fun i j=>decide (numAt xs i > numAt xs j)) (xs.size - 1)]?=some v)->(∀ b o,s.heap.get? b=some o->h'.get? b=some o)->Q v { s with heap:=h',toks:=tk }) :
  wpAny (model P w) A (call (.builtin "max") [.ref l] [(Str.ofString "default",dv)]) Q E s:=by
 refine kmk_tree PySem.F.kind_max PySem.F.plain_max PySem.F.entry_max (mx_argsOk _ _) ?_
 show wpAny _ A.in1 (Builtin.Builtins.bindParams "max" ["key","default"] 0 ⟨[],[(Str.ofString "default",dv)]⟩ >>= _) _ _ s
 refine wpAny_bind (wpAny_of_eq (show Builtin.Builtins.bindParams "max" ["key","default"] 0 ⟨[],[(Str.ofString "default",dv)]⟩=pure [none,some dv] from rfl) ?_)
 refine wpAny_bind (wpAny_pure (wpAny_bind (iter_intList hl fun s2 e st hfp hlI=>?_)))
 subst e
 refine wpAny_bind (wpAny_newObj_type ?_)
 have W:=Walks.list (prog:=P) (w:=w) (A:=A.in1) hh s.heap.objs.size l hlI (intItems xs)
 have sz:(intItems xs).size=xs.size:=by simp [intItems]
 rw [mx_nm]
 refine wpAny_pure ⟨plainId_quiet PySem.F.plain_max_loop _,mx_run W (CmpOf.ints_gt (numAt xs) fun _ _=>intItems_at) (fun hm=>Nat.lt_irrefl _ (hfp _ hm)) (W.frame _ _ _ st fun b _ o e=>Heap.get?_push_of_some _ e) (Heap.get?_push_size _ rfl) fun v h' tk hv kk=>?_⟩
 rw [sz] at hv
 exact h v h' tk hv (old_kept fun b o hb e=>kk b o hb (Nat.ne_of_lt (Heap.lt_size e)) (Heap.get?_push_of_some _ e))
section
variable {X:Cx}
def tMaxD (K:W.Frag) (d:Int) (t:TA):TE:=fun σ H Q=>t σ H fun xs H1=>∃ (a:Addr) (ns:List Int),xs=[.ref a]/\SqL K H1 a (ns.map V.int)/\∀ M,(ns=[]->M=d)->(ns≠[]->M∈ns/\∀ x∈ns,x<=M)->Q (.int M) H1
theorem pe_maxD (K:W.Frag) (hK:X.K=K) (hc:X.calm=true) {e:Expr} {t:TA} {d:Int} {p pos kp cp:Pos} {j} (hg:Gl X "max") (hm:X.mg "max"=none) (ha:PA X [e] t)
  (he:backTo pos (starEach [e] X.env)=(false,eval e X.env)::backTo pos (starEach [] X.env):=by rfl) (hplain:(backTo pos (starEach [e] X.env)).any (·.1)=false:=by rfl):PE X (.Call (.Name "max" p) [e] [⟨some "default",.Constant (.int d) j cp,kp⟩] pos) (tMaxD K d t):=by
 subst hK
 intro pins s σ H Q I h
 refine wpAny_Call_Name_kw (ld_blt I hg hm boot_max ?_ (by decide) (by decide))
 refine callWith_kw (thn (ha pos pins s σ H _ I h) fun us s1 ⟨vs,H1,I1,r,q⟩=>kws_cons (wpAny_Constant_int (kws_nil ?_))) he hplain
 obtain ⟨a,ns,rfl,hq,q⟩:=q
 obtain ⟨u,rfl,r1⟩:=vals1 r
 cases r1
 have I2:=I1.tok (s1.toks+1)
 obtain ⟨its,rv,pl,hz⟩:=I2.list hq
 have hi:=intsAre_of rv
 obtain ⟨zs,ez⟩:=hi.allInts.items
 have hl:=pl.isList
 rw [ez] at hl
 have e3:ns=zs.toList.map (fun x=>x.1):=by
  have e2:=hi.numsOf
  have e3:=nums_intItems (xs:=zs)
  rw [<-ez] at e3
  exact e2.symm.trans e3
 have hlen:ns.length=zs.size:=by rw [e3,length_map,Array.length_toList]
 refine max_dflt (I2.ok.hd hc) hl fun v h' tk hv hk=>?_
 rcases hv with ⟨h0,rfl⟩|⟨h0,hv⟩
 ·exact ⟨.int _,H1,I2.kept hk,⟨_,rfl⟩,q _ (fun _=>rfl) fun z=>absurd (List.eq_nil_of_length_eq_zero (by omega)) z⟩
 ·obtain ⟨t,rfl⟩:=intItems_at hv
  obtain ⟨h1,h2⟩:=argBest_gt (numAt zs) (zs.size - 1)
  refine ⟨.int _,H1,I2.kept hk,⟨_,rfl⟩,q _ (fun z=>by rw [z] at hlen;simp at hlen;omega) fun _=>⟨?_,fun x hx=>?_⟩⟩
  ·rw [e3,numAt_eq];exact getD_mem (by rw [length_map,Array.length_toList];omega)
  ·rw [e3] at hx
   obtain ⟨j,hj,rfl⟩:=mem_getD hx
   rw [length_map,Array.length_toList] at hj
   rw [<-numAt_eq];exact h2 j (by omega)
end
open HT
section
variable {prog:Program} {w:World} {A:Around} {E:Value->Shared->Prop} {s:Shared}
theorem getItem_tuple_all {t sl:Addr} {items:Array Value} {vl vu:Value} {lo hi:Option Int} {Q:Value->Shared->Prop} (ht:IsTup s.heap t items) (hs:s.heap.IsSliceOf sl vl vu .none) (pl:IsPart vl lo) (pu:IsPart vu hi)
  (hw:sIx items.size 0 lo=0/\sIx items.size items.size hi=items.size) (h:Q (.ref t) s):wpAny (model prog w) A (getItem (.ref t) (.ref sl)) Q E s:=by
 obtain ⟨os,hos,hcs,hds⟩:=id hs
 have hTs:s.TypeIs (.ref sl) "slice":=⟨os,hos,hcs⟩
 unfold getItem
 try with_reducible refine wpAny_holding ?_
 first|refine wpAny_bind (wpAny_pure ?_)|skip
 refine wpAny_bind (wpAny_sequenceKey ht.typeIs (by decide) ?_)
 refine wpAny_bind (wpAny_callSpecial?_slot (name:=Str.ofString "__getitem__") ht.typeIs PyProof.Rows.slot_tuple_getitem
  (wpAny_call_entry PyProof.Rows.slot_tuple_getitem ht.typeIs entry_tuple_getitem ?_ (args_tuple_getitem _ _)))
 show wpAny _ _ (Builtin.Tuple.tupleItemsOf (.ref t) >>= _) _ _ s
 refine wpAny_bind (tupleItemsOf_ ht ?_)
 refine wpAny_bind (wpAny_typeOf hTs ?_)
 rw [if_pos (by decide)]
 refine wpAny_bind (sliceApplied_gen hs pl pu ?_)
 have hyes:(((sIx items.size 0 lo:Nat):Int)==0&&(1:Int)==1&&(sIx items.size items.size hi - sIx items.size 0 lo)==items.size)=true:=by
  rw [hw.1,hw.2];simp
 show wpAny _ _ (if (((sIx items.size 0 lo:Nat):Int)==0&&(1:Int)==1&&(sIx items.size items.size hi - sIx items.size 0 lo)==items.size)=true then _ else _) _ _ s
 rw [if_pos hyes]
 refine wpAny_bind (wpAny_bind (wpAny_typeOf ht.typeIs (wpAny_pure ?_)))
 rw [if_pos (by decide)]
 exact wpAny_bind (wpAny_rule (wpAny_pure ⟨_,rfl,wpAny_pure h⟩))
end
section
variable {X:Cx}
def rSlA (K:W.Frag):V->Option Int->Option Int->Hp->VK->Prop:=fun x lo hi H Q=>∃ a xs,x=.ref a/\SqT K H a xs/\(HT.sIx xs.length 0 lo=0/\HT.sIx xs.length xs.length hi=xs.length)/\Q (.ref a) H
theorem sl_all:SlR X (rSlA X.K):=by
 intro pins s σ H x v vl vu lo hi sl Q I rx hs pl pu h
 obtain ⟨a,xs,rfl,hx,hw,q⟩:=h
 cases rx
 obtain ⟨its,r,ht,hz⟩:=I.tuple hx
 have hlen:its.toArray.size=xs.length:=by rw [size_toArray];exact r.length.symm
 exact ⟨"tuple",_,PyProof.Rows.slot_tuple_getitem.lookup,ht.typeIs,getItem_tuple_all ht hs pl pu (by rw [hlen];exact hw) ⟨.ref a,H,I,rfl,q⟩⟩
end
end L2
namespace DL
open PySem PySem.Spec PyProof.Rows L2
section
variable {X:Cx} {K:W.Frag} {E:XK} {pos:Pos}
def fSlT:F3:=fun d _ lo hi Q=>match d with
 | .tuple ds=>flats ds=true/\Q (.tuple (cutD ds lo hi)) .old
 | _=>False
theorem dpe_sliceT {e:Expr} {lo hi:Option Expr} {te:TD} {tl th:TDO} {p2:Pos} (hK:X.K=K) (he:DE X K E e te) (hl:DO X K E lo tl) (hu:DO X K E hi th):DE X K E (.Subscript e (.Slice lo hi none p2) pos) (dSl fSlT te tl th):=⟨by
 subst hK
 refine qe_imp (qpe_slice (sl_all.or sl_tup) he.q hl.q hu.q) fun σ H Q h=>?_
 obtain ⟨H0,ν,ρ,Qd,Xd,S,h1,q,x⟩:=h
 refine ⟨H0,ν,ρ,_,Xd,S,h1,fun d k v H1 g1 e1 r1=>?_,x⟩
 refine ⟨H0,ν,ρ,_,Xd,S.same e1,g1,fun l H2 g2 e2=>?_,x⟩
 refine ⟨H0,ν,ρ,_,Xd,S.same (e1.trans e2),g2,fun u H3 g3 e3=>?_,x⟩
 have e03:=(e1.trans e2).trans e3
 have hl3:=(S.same e03).hl
 have r3:=((r1.den).same e2).same e3
 cases d with
 | tuple ds =>
  obtain ⟨hf,g3⟩:=g3
  cases r3 with
  | @tup a us _ ht hd =>
   by_cases hw:HT.sIx us.length 0 l=0/\HT.sIx us.length us.length u=us.length
   ·refine .inl ⟨a,us,rfl,ht,hw,q _ _ _ _ g3 e03 ?_⟩
    have e:cutD ds l u=ds:=by
     unfold cutD
     rw [<-hd.length,hw.1,hw.2,List.drop_zero,Nat.sub_zero,List.take_of_length_le (by rw [hd.length];exact Nat.le_refl _)]
    rw [e]
    exact den_hid hl3 (.tup ht hd) hf
   ·refine .inr ⟨a,us,rfl,ht,hw,fun p hp=>q _ _ _ _ g3 (e03.trans (Same.new hp)) ?_⟩
    have hd':Dns X.K (upd H3 p (.tup (cutV us l u))) (cutV us l u) (cutD ds l u):=by
     unfold cutV cutD
     rw [hd.length]
     exact (((hd.same (Same.new hp))).drop _).take _
    have hf':flats (cutD ds l u)=true:=flats_iff.mpr fun d hd=>flats_iff.mp hf d (mem_of_mem_drop (mem_of_mem_take hd))
    exact den_hid (S.same (e03.trans (Same.new hp))).hl (.tup (.inl (.inl upd_same)) hd') hf'
 | _=>exact g3.elim⟩
theorem w_slT {x:List D} {k:Kd} {lo hi:Option Int} {Q:QD} (h:flats x=true/\Q (.tuple (cutD x lo hi)) .old):fSlT (.tuple x) k lo hi Q:=h
theorem flats_strs:∀ bs:List Str,flats (bs.map PyData.str)=true
 | []=>rfl
 | _::r=>by rw [map_cons];exact flats_strs r
theorem kels_strs {bs:List Str} {k:Kd}:kels (bs.map PyData.str) k=.own []:=by unfold kels;rw [flats_strs];rfl
def fMaxD (d:Int):FA:=fun ds _ Q=>match ds with
 | [.list xs]=>∃ ns,intsD xs=some ns/\∀ M,(ns=[]->M=d)->(ns≠[]->M∈ns/\∀ x∈ns,x<=M)->Q (.int M) .old
 | _=>False
theorem dpe_maxD {e:Expr} {ta:TDA} {d:Int} {p kp cp:Pos} {j} (hK:X.K=K) (hc:X.calm=true) (hg:Gl X "max") (hm:X.mg "max"=none) (ha:DA X K E [e] ta) (he:backTo pos (starEach [e] X.env)=(false,eval e X.env)::backTo pos (starEach [] X.env):=by rfl) (hplain:(backTo pos (starEach [e] X.env)).any (·.1)=false:=by rfl) :
  DE X K E (.Call (.Name "max" p) [e] [⟨some "default",.Constant (.int d) j cp,kp⟩] pos) (dCB (fMaxD d) ta):=⟨qe_imp (⟨pe_maxD K hK hc hg hm ha.q.h he hplain⟩:QE X _ (tMaxD K d (LA K E ta))) fun σ H Q h=>by
 obtain ⟨H0,ν,ρ,Qd,Xd,S,h1,q,x⟩:=h
 refine ⟨H0,ν,ρ,_,Xd,S,h1,fun ds k vs H1 g1 e1 r1=>?_,x⟩
 unfold fMaxD at g1
 split at g1
 ·obtain ⟨v,rfl,h1⟩:=dns1 r1.dens
  obtain ⟨a,us,rfl,g2,g3⟩:=dns_of_lst h1
  obtain ⟨ns,e,g1⟩:=g1
  exact ⟨a,ns,rfl,SqL.of (by rw [g2,dns_ints g3 e]),fun M m1 m2=>q _ _ _ _ (g1 M m1 m2) e1 (.int _)⟩
 ·exact g1.elim⟩
theorem w_maxD {d:Int} {x:List D} {k:Kd} {Q:QD} (h:∃ ns,intsD x=some ns/\∀ M,(ns=[]->M=d)->(ns≠[]->M∈ns/\∀ x∈ns,x<=M)->Q (.int M) .old):fMaxD d [.list x] k Q:=h
end
end DL
namespace L2
open PySem PySem.Spec PyProof.Rows
section
variable {X:Cx}
def rSw:V->List V->Hp->VK->Prop:=fun x vs H Q=>∃ z y,x=.str z/\vs=[.str y]/\Q (.bl (Txt.startswith z y)) H
theorem mt_sw:MtR X "str.startswith" rSw:=by
 intro pins s σ H x vs v us Q I rx rv h
 obtain ⟨z,y,rfl,rfl,q⟩:=h
 obtain ⟨t,rfl⟩:=rx
 obtain ⟨u,rfl,t',rfl⟩:=rv.one
 exact SC.startswith ⟨.bl _,H,I,rfl,q⟩
end
end L2
namespace DL
open PySem PySem.Spec PyProof.Rows L2
section
variable {X:Cx} {K:W.Frag} {E:XK} {apos cpos:Pos} {x:Str} {o e:Expr} {to te:TD}
def fIntS:FA:=fun ds _ Q=>match ds with
 | [.str z]=>z.length<=640/\∃ n,PySem.intText? z=some n/\Q (.int n) .old
 | _=>False
def onX (d:D) (Q:Str->Prop):Prop:=match d with
 | .str z=>Q z
 | _=>False
theorem w_onX {z:Str} {Q:Str->Prop} (h:Q z):onX (.str z) Q:=h
theorem onX_ex {d:D} {Q:Str->Prop} (h:onX d Q):∃ z,d=.str z/\Q z:=by
 cases d with
 | str z=>exact ⟨z,rfl,h⟩
 | _=>exact h.elim
structure DMm (X:Cx) (K:W.Frag) (id:String) (g:Str->D->QD->Prop):Prop where
 ex:∃ r,MtR X id r/\∀ (ν:Nat->List Addr) (Hs H:Hp) (z:Str) (v:V) (d:D) (Qf:QD) (Q:VK),(∀ a,Hd Z0 ν a->Mu H a)->Same Hs H->Dn K H v d->g z d Qf->(∀ d k v H',Qf d k->Same H H'->Res K Z0 ν Hs H' k v d->Q v H')->r (.str z) [v] H Q
def dMm (g:Str->D->QD->Prop) (to te:TD):TD:=fun ρ Q Xd=>to ρ (fun d _=>onX d fun z=>te ρ (fun e _=>g z e Q) Xd) Xd
theorem dpe_mm {name:Str} {id:String} {g:Str->D->QD->Prop} (hK:X.K=K) (slot:Slot "str" name id) (hty:typeOf (.builtin id)=pure (.type "method_descriptor")) (hm:DMm X K id g) (ho:DE X K E o to) (he:DE X K E e te)
  (hb:attributeBase o name X.env (eval o X.env)=eval o X.env:=by rfl) (hfew:((backTo cpos (starEach [e] X.env)).all (fun x=>!x.1)&&(backToKw cpos (keywordEach [] X.env)).all (fun x=>x.1.isSome)&&decide (([e]:List Expr).length+([]:List Keyword).length+(if ([]:List Keyword).isEmpty then 0 else 1) < 30))=true:=by rfl) (hline:(apos.endLine==cpos.line)=true:=by rfl) (hs:starEach [e] X.env=(false,eval e X.env)::starEach [] X.env:=by rfl) (hplain:(backTo cpos (starEach [] X.env)).any (·.1)=false:=by rfl) :
  DE X K E (.Call (.Attribute o name apos) [e] [] cpos) (dMm g to te):=by
 obtain ⟨r,hr,p⟩:=hm.ex
 refine ⟨qe_imp (⟨pe_bm PySem.F.plainAttrs_str slot hty hr ho.q.h (qpa_cons he.q qpa_nil hs).h hb hfew hline hs hplain⟩:QE X _ _) fun σ H Q h=>?_⟩
 obtain ⟨H0,ν,ρ,Qd,Xd,S,h1,q,x⟩:=h
 refine ⟨H0,ν,ρ,_,Xd,S,h1,fun d k u H1 g1 e1 r1=>?_,x⟩
 obtain ⟨z,rfl,g1⟩:=onX_ex g1
 have hu:=r1.den
 cases hu
 refine ⟨rfl,H0,ν,ρ,_,Xd,S.same e1,g1,fun d2 k2 v H2 g2 e2 r2=>?_,x⟩
 exact p ν H H2 z v d2 Qd Q (S.same (e1.trans e2)).hl (e1.trans e2) r2.den g2 fun d3 k3 v3 H3 a1 a2 a3=>q d3 k3 v3 H3 a1 ((e1.trans e2).trans a2) a3
def gSw:Str->D->QD->Prop:=fun z d Q=>match d with
 | .str y=>Q (.bool (Txt.startswith z y)) .old
 | _=>False
theorem dmm_sw:DMm X K "str.startswith" gSw:=⟨_,mt_sw,fun ν Hs H z v d Qf Q hl e h g q=>by
 unfold gSw at g
 split at g
 ·cases h
  exact ⟨z,_,rfl,rfl,q _ _ _ _ g (Same.refl H) (.bl _)⟩
 ·exact g.elim⟩
def fNiS:F2:=fun d _ e _ Q=>match d,e with
 | .str i,.str j=>Q (.bool (!(!(Builtin.Str.occurrences j i 0 j.length 1).isEmpty))) .old
 | _,_=>False
theorem dop_notinS:DOp X K (compareOp .NotIn) fNiS:=⟨_,op_notin_str,fun Z ν Hs H x y d k e l Qf Q _ _ _ h3 h4 h5 h6=>by
 unfold fNiS at h5
 split at h5
 ·have a:=h3.den
  have b:=h4.den
  cases a
  cases b
  exact ⟨_,_,rfl,rfl,h6 _ _ _ _ h5 (Same.refl H) (.bl _)⟩
 ·exact h5.elim⟩
variable {ρ:Ren} {Q:QD} {Xd:XD} {k l:Kd} {z y:Str} {i j:Int} {ds:List D} {n:Nat}
theorem w_mm {g:Str->D->QD->Prop} (h:to ρ (fun d _=>onX d fun z=>te ρ (fun e _=>g z e Q) Xd) Xd):dMm g to te ρ Q Xd:=h
theorem w_sw (h:Q (.bool (Txt.startswith z y)) .old):gSw z (.str y) Q:=h
theorem w_niS (h:Q (.bool (!(!(Builtin.Str.occurrences y z 0 y.length 1).isEmpty))) .old):fNiS (.str z) k (.str y) l Q:=h
end
end DL
namespace L2
open PySem PySem.Spec PyProof.Rows HT
end L2
namespace DL
open PySem PySem.Spec PyProof.Rows L2
end DL
namespace L2
open PySem PySem.Spec PyProof.Rows
end L2
namespace DL
open PySem PySem.Spec PyProof.Rows L2
end DL
namespace L2
open PySem PySem.Spec PyProof.Rows PySem.W PySem.Calls
section
variable {X:Cx} {pins:List (Addr × Obj)} {σ:St} {H:Hp} {s:Shared} {a:Addr} {v:V} {u r:Value} {A:Around} {E:Value->Shared->Prop}
theorem d_dictSet {kvs:List (Key × V)} {k:Key} {Q:Unit->Shared->Prop} (I:Inv X pins σ H s) (e:H a=some (.dK kvs)) (l:kvs.length < sizeLine) (ry:RelV (kV k) u) (rv:RelV v r) (h:∀ s',Inv X pins σ (upd H a (.dK (putK kvs k v))) s'->Q () s') :
  wpAny (model X.prog X.w) A (dictSet a u r) Q E s:=by
 obtain ⟨z,hd,vs,rel,dd⟩:=dk_of I.hok e
 have hz:vs.length<=sizeLine:=by rw [<-rel.length];exact z
 have hl:(putK kvs k v).length<=sizeLine:=by have:=length_putK kvs k v;omega
 refine wpAny_dictSet_pairs (hsz:=hz) (kV_is ry) dd fun h' dd' hs=>h _ ?_
 have he:∃ q,h'.get? a=some q:=let ⟨q,_,_,hq,_⟩:=dd';⟨q,hq⟩
 exact d_write I (by rw [e];exact True.intro) hs he (dk_new hl hd (rel.put k rv) dd')
end
section
variable {acc:Addr}
def tEmitD (acc:Addr) (tk tv:TE):TS:=fun D σ H=>tk σ H fun k H1=>tv σ H1 fun v H2=>∃ kvs k',k=kV k'/\H2 acc=some (.dK kvs)/\kvs.length < sizeLine/\D.nx σ (upd H2 acc (.dK (putK kvs k' v)))
end
end L2
namespace DL
open PySem PySem.Spec PyProof.Rows L2
def trueD (es:List (Key × D)):List Key->List (Key × D)
 | []=>es
 | k::r=>trueD (putD es k (.bool true)) r
theorem trueD_len:∀ (ks:List Key) (es:List (Key × D)),(trueD es ks).length<=es.length+ks.length
 | [],es=>Nat.le_refl _
 | a::r,es=>by
  have:=trueD_len r (putD es a (.bool true))
  have:=putD_len es a (.bool true)
  rw [trueD,length_cons];omega
end DL
namespace L2
open PySem PySem.Spec PyProof.Rows PySem.W PySem.Calls
section
variable {prog:Program} {w:World} {A:Around} {R:Result->Shared->Prop} {s:Shared}
theorem dciLoop_any {ke ve target iter:Expr} {ifs:List Expr} {scope:Scope} {pos:Pos} {it:Value} {acc:Addr} {env:Env} (I:Nat->Shared->Prop)
  (turn:∀ n s,I n s->wpAny (model prog w) A (pyNext it) (fun r s₁=>match r with
   | none=>R (.ok .next) s₁
   | some v=>wpAny (model prog w) A (letOwnedTupleGo target it v) (fun _ s₁'=>wpAny (model prog w) A (assign target env v) (fun _ s₂ =>
     wpAny (model prog w) A (forIn ifs true fun c r=>if r=true then do let ok <- isTrue c env (eval c env);pure (ForInStep.yield ok) else pure (ForInStep.yield r)) (fun ok s₃=>if ok=true then
      wpAny (model prog w) A (eval ke env) (fun kv s₃=>wpAny (model prog w) A (eval ve env) (fun vv s₄=>wpAny (model prog w) A (dictSet acc kv vv) (fun _ s₅=>∃ m,m < n/\I m s₅) (fun _ _=>False) s₄) (fun _ _=>False) s₃) (fun _ _=>False) s₃
      else ∃ m,m < n/\I m s₃) (fun _ _=>False) s₂) (fun _ _=>False) s₁') (fun _ _=>False) s₁) (fun _ _=>False) s)
  (n:Nat) (h:I n s) :
  codeAny (model prog w) A (.compLoop (.DictComp ke ve [⟨target,iter,ifs,0⟩] scope pos) 0 it (.ref acc) env) R s:=by
 refine codeAny_loop rfl I (fun n s hI=>?_) n h
 show wpAny _ A ((compTurn (.DictComp ke ve [⟨target,iter,ifs,0⟩] scope pos) 0 it (.ref acc) env).onRaise (fun x=>do noteFrame x env;theTreesLotGoes x)) _ _ s
 refine wpAny_noted (wpAny_noRaise ?_)
 unfold compTurn
 dsimp only [List.getElem?_cons_zero]
 refine wpAny_bind (wpAny_standAt (wpAny_bind (thn (turn n s hI) (fun r s₁ h₁=>?_))))
 cases r with
 | none=>exact wpAny_pure h₁
 | some v =>
  refine wpAny_bind (thn h₁ fun _ s₁' h₁=>wpAny_bind (thn h₁ fun _ s₂ h₂=>wpAny_bind (thn h₂ fun ok s₂' h₂=>?_)))
  cases ok with
  | false=>exact wpAny_pure ⟨rfl,h₂⟩
  | true =>
  rw [if_pos rfl] at h₂ ⊢
  dsimp only [List.getElem?_cons_succ,List.getElem?_nil]
  refine wpAny_bind ?_
  refine wpAny_bind (thn h₂ fun kv s₃ h₃=>?_)
  refine wpAny_bind (wpAny_holding (thn h₃ fun vv s₄ h₄=>?_))
  refine wpAny_bind (wpAny_standAt ?_)
  exact wpAny_holding (thn h₄ fun _ s₅ h₅=>wpAny_pure ⟨rfl,h₅⟩)
theorem dciStart_any {ke ve target iter:Expr} {ifs:List Expr} {scope:Scope} {pos:Pos} {it acc:Value} {env:Env}
  (h0:codeAny (model prog w) A (.compLoop (.DictComp ke ve [⟨target,iter,ifs,0⟩] scope pos) 0 it acc env) R s)
  (h:wpAny (model prog w) A (pyIter it) (fun it' s'=>codeAny (model prog w) A (.compLoop (.DictComp ke ve [⟨target,iter,ifs,0⟩] scope pos) 0 it' acc env) R s') (fun _ _=>False) s) :
  codeAny (model prog w) A (.compStart (.DictComp ke ve [⟨target,iter,ifs,0⟩] scope pos) 0 it acc env) R s:=by
 refine codeAny_of_tree ?_
 show wpAny _ _ ((compStart (.DictComp ke ve [⟨target,iter,ifs,0⟩] scope pos) 0 it acc env).onRaise (fun x=>do noteFrame x env;standAt theWindowsPlace)) _ _ s
 refine wpAny_notedAt (wpAny_noRaise ?_)
 unfold compStart
 have hc:clausesOf (.DictComp ke ve [⟨target,iter,ifs,0⟩] scope pos)=[⟨target,iter,ifs,0⟩]:=rfl
 rw [hc]
 show wpAny _ _ (ask >>= _) _ _ s
 refine wpAny_bind (wpAny_askSetting (wpAny_ite ?_))
 split
 ·first
   | exact wpAny_bind (wpAny_pure (wpAny_pure (And.intro rfl h0)))
   | exact wpAny_pure (And.intro rfl h0)
 ·first
   | exact wpAny_bind (wpAny_rule (wpAny_bind (wpAny_standAt (wpAny_bind (wpAny_mono h (fun it' s' h'=>wpAny_pure (And.intro rfl h')) fun _ _ x=>x)))))
   | (refine wpAny_bind (wpAny_rule ?_);show wpAny _ _ (standAt iter.pos >>= _) _ _ s;exact wpAny_bind (wpAny_standAt (wpAny_bind (wpAny_mono h (fun it' s' h'=>wpAny_pure (And.intro rfl h')) fun _ _ x=>x))))
end
section
variable {Y:Cx} {acc:Addr} {scope:Scope} {pos:Pos} {ke ve:Expr}
theorem dci_loop {tg iter:Expr} {ifs:List Expr} {ti:TT} {g:TG} {tk tv:TE} {pins:List (Addr × Obj)} {s:Shared} {σ:St} {H:Hp} {D:Ends} {J:It} {fp:List Addr} {it:Addr} {tn:Nat->Heap->Prop}
  (hx:Y.xe=fun _ _=>False) (hc:Y.calm=true) (hg:PG Y tg g) (ht:PTs Y ifs ti) (hk:PE Y ke tk) (hve:PE Y ve tv)
  (I:Inv Y pins σ H s) (T:Turn Y.prog Y.w Y.K tg J fp it tn) (st:tn 0 s.heap) (f2:∀ b∈fp,FpOk Y pins H b) (h:loopT J g (tIfB ti (tEmitD acc tk tv)) D σ H) :
  codeAny (model Y.prog Y.w) Y.A (.compLoop (.DictComp ke ve [⟨tg,iter,ifs,0⟩] scope pos) 0 (.ref it) (.ref acc) Y.env) (fun r s'=>r=.ok .next/\∃ σ' H',Inv Y pins σ' H' s'/\D.nx σ' H') s:=by
 obtain ⟨W,⟨m0,w0⟩,turn⟩:=h
 have stat:∀ {H':Hp},(∀ b∈fp,H' b=none)->∀ b∈fp,FpOk Y pins H' b:=fun hn b hb=>⟨hn b hb,(f2 b hb).2⟩
 refine dciLoop_any (fun n s'=>∃ i σ' H',Inv Y pins σ' H' s'/\tn i s'.heap/\(∀ b∈fp,H' b=none)/\W i n σ' H') ?_ m0 ⟨0,σ,H,I,st,fun b hb=>(f2 b hb).1,w0⟩
 rintro n s3 ⟨i,σ3,H3,I3,st3,fr3,w3⟩
 rcases turn i n σ3 H3 w3 with ⟨stop,qn⟩|⟨go,N,hN,step⟩
 ·refine thn (T.done Y rfl rfl rfl hc i pins s3 σ3 H3 _ I3 (stat fr3) st3 stop) fun r s4 ⟨hr,I4⟩=>?_
  subst hr
  exact ⟨rfl,σ3,H3,I4,qn⟩
 ·refine thn (T.item Y rfl rfl rfl hc i pins s3 σ3 H3 _ I3 (stat fr3) st3 go) fun r s4 ⟨u,hr,h4⟩=>?_
  subst hr
  refine thn h4 fun _ s5 ⟨x,H5,I5,r5,y5,st5,fr5⟩=>?_
  have I5':=I5.pinned (stat fr5) (T.obj _ _ st5)
  have a1:=hg _ s5 σ3 H5 x u _ I5' r5 (step x H5 y5)
  rw [hx] at a1
  refine thn a1 fun _ s6 ⟨σ6,H6,I6,q6⟩=>?_
  have a0:=ht _ s6 σ6 H6 _ I6 q6
  rw [hx] at a0
  refine thn a0 fun ok s6 ⟨H6,I6,q6⟩=>?_
  cases ok with
  | false =>
   rw [if_neg Bool.false_ne_true] at q6 ⊢
   obtain ⟨m',hm,w7⟩:=hN _ _ q6
   refine ⟨m',hm,i+1,_,_,I6.unpinned,T.keep _ _ _ st5 fun b hb o e=>(I6.pin (b,o) (mem_append_right _ (mem_append_right _ (mem_pinsAt hb e)))).1,fun b hb=>?_,w7⟩
   obtain ⟨o,e,d⟩:=T.obj _ _ st5 b hb
   exact (I6.pin (b,o) (mem_append_right _ (mem_append_right _ (mem_pinsAt hb e)))).2.1
  | true =>
  rw [if_pos rfl] at q6 ⊢
  have a2:=hk _ s6 σ6 H6 _ I6 q6
  rw [hx] at a2
  refine thn a2 fun kv s7 ⟨k,H7,I7,r7,q7⟩=>?_
  have a3:=hve _ s7 σ6 H7 _ I7 q7
  rw [hx] at a3
  refine thn a3 fun vv s8 ⟨v,H8,I8,r8,kvs,k',ek,e8,l8,q8⟩=>?_
  subst ek
  refine d_dictSet I8 e8 l8 r7 r8 fun s9 I9=>?_
  obtain ⟨m',hm,w7⟩:=hN _ _ q8
  refine ⟨m',hm,i+1,_,_,I9.unpinned,T.keep _ _ _ st5 fun b hb o e=>(I9.pin (b,o) (mem_append_right _ (mem_append_right _ (mem_pinsAt hb e)))).1,fun b hb=>?_,w7⟩
  obtain ⟨o,e,d⟩:=T.obj _ _ st5 b hb
  exact (I9.pin (b,o) (mem_append_right _ (mem_append_right _ (mem_pinsAt hb e)))).2.1
end
def tDCI (wi:TI) (g:TG) (ti:TT) (tk tv:TE) (own:List Str) (cap:List (Str × Nat)):TE:=fun σ H Q=>wi σ H fun J H1=>∀ acc,H1 acc=none ->
 loopT J g (tIfB ti (tEmitD acc tk tv)) { nx:=fun _ H'=>Q (.ref acc) H',rt:=fun _ _=>False } (capS own cap σ) (upd H1 acc (.dK []))
theorem pe_dci {X:Cx} {ke ve tg iter:Expr} {ifs:List Expr} {ti:TT} {scope:Scope} {pos:Pos} {wi:TI} {g:TG} {tk tv:TE} (own:List Str) (cap:List (Str × Nat)) (hc:X.calm=true) (L:LcScope X scope own cap) (hi:PI X tg iter wi)
  (hin:∀ (s₃:Shared) (H₃:Hp) (fp:List Addr),PG (X.inn scope (capN own cap) s₃ H₃ fp) tg g/\PTs (X.inn scope (capN own cap) s₃ H₃ fp) ifs ti/\PE (X.inn scope (capN own cap) s₃ H₃ fp) ke tk/\PE (X.inn scope (capN own cap) s₃ H₃ fp) ve tv)
  (hs:∀ x,foldedSetIterable iter X.env x=pure x:=by intro _;rfl):PE X (.DictComp ke ve [⟨tg,iter,ifs,0⟩] scope pos) (tDCI wi g ti tk tv own cap):=by
 intro pins s σ H Q I h
 have ev:eval (.DictComp ke ve [⟨tg,iter,ifs,0⟩] scope pos) X.env=comprehension (.DictComp ke ve [⟨tg,iter,ifs,0⟩] scope pos) scope X.env (firstIterPos [⟨tg,iter,ifs,0⟩] pos) newDict (firstAsync [⟨tg,iter,ifs,0⟩]) (firstIter [⟨tg,iter,ifs,0⟩] X.env):=by rw [eval]
 rw [ev]
 have hcl:∀ x∈scope.names,x.2=.free->∃ c,X.env.cells.lookup x.1=some c:=fun x hx hk=>I.ok.has x.1 (L.fre x hx hk)
 refine wpAny_comprehension_free (use:=none) rfl hs (closureFor_cl hcl) L.kind L.loc (thn (hi pins s σ H _ I h) fun x s1 h1=>thn h1 fun itv s2 ⟨it,fp,tn,J,H2,e,I2,T,st2,f2,q2⟩=>?_)
 subst e
 refine wpAny_newObj_type ?_
 have I3:=I2.laid (a:=s2.heap.objs.size) (o:=.dK []) (t':=s2.toks) (fun _ _ q=>Heap.get?_push_of_some _ q) (Nat.le_refl _) (dk_empty s2.heap I2.big)
 have fr2:H2 s2.heap.objs.size=none:=I2.fresh
 have f3:∀ b∈fp,FpOk X pins (upd H2 s2.heap.objs.size (.dK [])) b:=fun b hb=>by
  obtain ⟨o,eo,_⟩:=T.obj 0 _ st2 b hb
  obtain ⟨g1,g2⟩:=f2 b hb
  exact ⟨by rw [upd_ne (Nat.ne_of_lt (Heap.lt_size eo))];exact g1,g2⟩
 have k3:∀ b o,s2.heap.get? b=some o->(s2.heap.push { cls:=.type "dict",data:=.dict #[] }).get? b=some o:=fun b o e=>Heap.get?_push_of_some _ e
 have st3:tn 0 (s2.heap.push { cls:=.type "dict",data:=.dict #[] }):=T.keep 0 _ _ st2 fun b _ o e=>k3 b o e
 refine newEnv_in ?_
 have I4:=inv_in L I3 f3 fun b hb=>by obtain ⟨o,eo,_⟩:=T.obj 0 _ st3 b hb;exact ⟨o,eo⟩
 obtain ⟨hg,ht,hk,hv⟩:=hin { s2 with heap:=s2.heap.push { cls:=.type "dict",data:=.dict #[] },toks:=s2.toks } (upd H2 s2.heap.objs.size (.dK [])) fp
 have st4:=T.keep 0 _ (pushCells ((s2.heap.push { cls:=.type "dict",data:=.dict #[] }).push { cls:=.type "dict",data:=.dict #[] }) scope.names) st3 fun b _ o e=>pushCells_keeps _ _ b o (Heap.get?_push_of_some _ e)
 have f4:∀ b∈fp,FpOk (X.inn scope (capN own cap) { s2 with heap:=s2.heap.push { cls:=.type "dict",data:=.dict #[] },toks:=s2.toks } (upd H2 s2.heap.objs.size (.dK [])) fp) [] (upd H2 s2.heap.objs.size (.dK [])) b:=fun b hb =>
  ⟨(f3 b hb).1,(I4.ok.exf b hb).1,I4.ok.exfs b hb,.inl hb,(I4.ok.exf b hb).2,fun p hp=>absurd (show p∈([]:List (Addr × Obj)) from hp) (by simp)⟩
 have lp:=dci_loop (Y:=X.inn scope (capN own cap) { s2 with heap:=s2.heap.push { cls:=.type "dict",data:=.dict #[] },toks:=s2.toks } (upd H2 s2.heap.objs.size (.dK [])) fp) (acc:=s2.heap.objs.size) (scope:=scope) (pos:=pos) (iter:=iter) rfl hc hg ht hk hv I4 T st4 f4 (q2 _ fr2)
 have lp':=codeAny_mono lp (R':=compPost (model X.prog X.w) X.A X.xe none (EP X pins σ Q) (.ref s2.heap.objs.size) (s2.heap.push { cls:=.type "dict",data:=.dict #[] }).objs.size) fun r s' ⟨hr,σ',H',I',q'⟩=>by
  subst hr
  obtain ⟨m',hn',_⟩:=id I'.loc
  refine ⟨m',hn',fun h' hsb=>?_⟩
  refine ⟨.ref s2.heap.objs.size,H',?_,rfl,q'⟩
  have neC:∀ b o,(s2.heap.push { cls:=.type "dict",data:=.dict #[] }).get? b=some o->b≠(s2.heap.push { cls:=.type "dict",data:=.dict #[] }).objs.size:=fun b o e=>Nat.ne_of_lt (Heap.lt_size e)
  have B:=I'.base
  refine I3.call' (ch:=fp) I'.os ⟨fun b o e n hb hx=>(hsb.2 b (neC b o e)).trans (B.keep b o e n hb hx),fun b o e n hb hx=>?_,B.free,fun b o e hx=>?_,B.tups,B.frzs,B.tbls⟩ (fun b u e=>?_) I'.bare fun b hb=>⟨(f3 b hb).2.2.2.1,(f3 b hb).2.1,(f3 b hb).2.2.2.2.1,(f3 b hb).2.2.2.2.2⟩
  ·obtain ⟨sl,e1⟩:=B.slot b o e n hb hx
   exact ⟨sl,(hsb.2 b (neC b o e)).trans e1⟩
  ·obtain ⟨o',e1⟩:=B.there b o e hx
   exact ⟨o',(hsb.2 b (neC b o e)).trans e1⟩
  ·have hC:H' (s2.heap.push { cls:=.type "dict",data:=.dict #[] }).objs.size=none:=I'.free
   refine (I'.hok b u e).stay (fun c v hc' q=>(hsb.2 c ?_).trans q) (fun _ q=>q) fun _ _ q=>q
   rintro rfl
   rcases hc' with hc'|hc'
   ·rw [<-hc',hC] at e;cases e
   ·rw [hC] at hc';cases hc'
 exact dciStart_any lp' (T.self _ _ _ _ _ st4 lp')
theorem qpe_dci {X:Cx} {ke ve tg iter:Expr} {ifs:List Expr} {ti:TT} {scope:Scope} {pos:Pos} {wi:TI} {g:TG} {tk tv:TE} (own:List Str) (cap:List (Str × Nat)) (hc:X.calm=true) (L:LcScope X scope own cap) (hi:QI X tg iter wi)
  (hin:∀ (s₃:Shared) (H₃:Hp) (fp:List Addr),QG (X.inn scope (capN own cap) s₃ H₃ fp) tg g/\QTs (X.inn scope (capN own cap) s₃ H₃ fp) ifs ti/\QE (X.inn scope (capN own cap) s₃ H₃ fp) ke tk/\QE (X.inn scope (capN own cap) s₃ H₃ fp) ve tv)
  (hs:∀ x,foldedSetIterable iter X.env x=pure x:=by intro _;rfl):QE X (.DictComp ke ve [⟨tg,iter,ifs,0⟩] scope pos) (tDCI wi g ti tk tv own cap):=⟨pe_dci own cap hc L hi.h (fun s H fp=>⟨(hin s H fp).1.h,(hin s H fp).2.1.h,(hin s H fp).2.2.1.h,(hin s H fp).2.2.2.h⟩) hs⟩
section
variable {κ:Nat->Int} {p:Array Nat}
def kk (κ:Nat->Int) (p:Array Nat) (i:Nat):Int:=κ (p.getD i 0)
def Dn (κ:Nat->Int) (p:Array Nat) (n:Nat):Prop:=∀ i j,i<=j->j < n->kk κ p j<=kk κ p i
end
end L2
namespace DL
open PySem PySem.Spec PyProof.Rows L2
section
theorem vps_keys {kvs:List (Key × V)} {es:List (Key × D)} (v:VPs kvs es):kvs.map (·.1)=es.map (·.1):=by
 induction v with
 | nil=>rfl
 | cons _ _ ih=>rw [map_cons,map_cons,ih]
end
end DL
namespace L2
open PySem PySem.Spec PyProof.Rows PySem.W PySem.Calls
end L2
namespace DL
open PySem PySem.Spec PyProof.Rows L2
end DL
namespace L2
open PySem PyProof.Rows
def gal':Bool->Keyed->Array Keyed->Nat->Nat->Nat->StateT SortSt Sem (Option Nat):=sortPriv% PySem.Builtin.gallop
def mlo':Array Keyed->Array Keyed->StateT SortSt Sem (Array Keyed):=sortPriv% PySem.Builtin.mergeLo
def mhi':Array Keyed->Array Keyed->StateT SortSt Sem (Array Keyed):=sortPriv% PySem.Builtin.mergeHi
def smg':Nat->StateT SortSt Sem Unit:=sortPriv% PySem.Builtin.setMinGallop
def bey (lf:Bool) (ky:Keyed) (ar:Array Keyed) (bs i:Nat):StateT SortSt Sem (Option Bool):=do
 let x <- elem' ar (bs+i)
 if lf then lt' x ky else return (<- lt' ky x).map (!·)
theorem gal'_eq (lf:Bool) (ky:Keyed) (ar:Array Keyed) (bs n ht:Nat):gal' lf ky ar bs n ht=(do
 let mut la:=0
 let mut o:=1
 let mut l:=0
 let mut h:=0
 let some rt <- bey lf ky ar bs ht|return none
 if rt then
  let mx:=n - ht
  for _ in [0:n] do
   if o ≥ mx then break
   let some mo <- bey lf ky ar bs (ht+o)|return none
   if !mo then break
   la:=o
   o:=2*o+1
  l:=ht+la+1
  h:=ht+min o mx
 else
  let mx:=ht+1
  for _ in [0:n] do
   if o ≥ mx then break
   let some fd <- bey lf ky ar bs (ht - o)|return none
   if fd then break
   la:=o
   o:=2*o+1
  l:=ht+1 - min o mx
  h:=ht - la
 for _ in [0:n] do
  if l ≥ h then break
  let m:=l+(h - l) / 2
  let some mo <- bey lf ky ar bs m|return none
  if mo then l:=m+1 else h:=m
 return some h):=rfl
theorem smg'_eq (g:Nat):smg' g=modify fun s=>SortSt.mk' (kindOf s) (arrOf s) (pendingOf s) g (failedOf s):=rfl
theorem mlo'_eq (a b:Array Keyed):mlo' a b=(do
 rule "list.sort.merge-lo"
 let tt:=a.size+b.size
 let dn (u:Array Keyed) (i j:Nat):=u++a.extract i a.size++b.extract j b.size
 let lA (u:Array Keyed) (i j:Nat):=u++b.extract j b.size++a.extract i a.size
 let mut u:Array Keyed:=#[<-elem' b 0]
 let mut i:=0
 let mut j:=1
 if j==b.size then return dn u i j
 if i+1==a.size then return lA u i j
 let mut mg:=gallopOf (<- get)
 for _ in [0:tt] do
  let mut ac:=0
  let mut bc:=0
  for _ in [0:tt] do
   let some bw <- lt' (<- elem' b j) (<- elem' a i)|return dn u i j
   if bw then
    u:=u.push (<- elem' b j);j:=j+1;bc:=bc+1;ac:=0
    if j==b.size then return dn u i j
    if bc ≥ mg then break
   else
    u:=u.push (<- elem' a i);i:=i+1;ac:=ac+1;bc:=0
    if i+1==a.size then return lA u i j
    if ac ≥ mg then break
  rule "list.sort.gallop"
  mg:=mg+1
  for _ in [0:tt] do
   if mg > 1 then mg:=mg - 1
   smg' mg
   let some k <- gal' false (<- elem' b j) a i (a.size - i) 0|return dn u i j
   ac:=k
   if k > 0 then
    u:=u++a.extract i (i+k);i:=i+k
    if i+1==a.size then return lA u i j
    if i==a.size then return dn u i j
   u:=u.push (<- elem' b j);j:=j+1
   if j==b.size then return dn u i j
   let some k <- gal' true (<- elem' a i) b j (b.size - j) 0|return dn u i j
   bc:=k
   if k > 0 then
    u:=u++b.extract j (j+k);j:=j+k
    if j==b.size then return dn u i j
   u:=u.push (<- elem' a i);i:=i+1
   if i+1==a.size then return lA u i j
   if ac < 7&&bc < 7 then break
  mg:=mg+1
  smg' mg
 unsupported "internal:list.sort.merge-bound"):=rfl
section
variable {prog:Program} {w:World} {A:Around} {E:Value->Shared->Prop} {s:Shared}
structure Pure (prog:Program) (w:World) (A:Around) (s:Shared) (κ:SortKind) (rk:Keyed->Int) (S:Keyed->Prop):Prop where
 lt:∀ x y,S x->S y->∀ (Q:Bool->Shared->Prop) (E:Value->Shared->Prop),Q (decide (rk x < rk y)) s->wpAny (model prog w) A (keyLt' κ x.1 y.1) Q E s
variable {κ:SortKind} {rk:Keyed->Int} {S:Keyed->Prop}
theorem tm_lt (P:Pure prog w A s κ rk S) {st:SortSt} {x y:Keyed} {Q:Option Bool->SortSt->Prop} (hk:kindOf st=κ) (hx:S x) (hy:S y) (h:Q (some (decide (rk x < rk y))) st):wpS (model prog w) A E s (lt' x y) Q st:=by
 rw [lt'_eq]
 refine wpS_bind (wpS_get ?_)
 rw [hk]
 exact wpS_bind (wpS_lift (wpAny_attempt (P.lt x y hx hy _ _ ⟨rfl,wpS_pure h⟩)))
theorem tm_el {st:SortSt} {ar:Array Keyed} {i:Nat} {x:Keyed} {Q:Keyed->SortSt->Prop} (h:ar[i]?=some x) (q:Q x st):wpS (model prog w) A E s (elem' ar i) Q st:=by
 rw [elem'_eq,h]
 exact wpS_pure q
def Be (rk:Keyed->Int) (lf:Bool) (ky x:Keyed):Bool:=if lf=true then decide (rk x < rk ky) else !(decide (rk ky < rk x))
theorem tm_bey (P:Pure prog w A s κ rk S) {st:SortSt} {lf:Bool} {ky x:Keyed} {ar:Array Keyed} {bs i:Nat} {Q:Option Bool->SortSt->Prop} (hk:kindOf st=κ) (hx:ar[bs+i]?=some x) (sx:S x) (sk:S ky) (h:Q (some (Be rk lf ky x)) st):wpS (model prog w) A E s (bey lf ky ar bs i) Q st:=by
 unfold bey
 refine wpS_bind (tm_el hx ?_)
 cases lf with
 | true=>exact tm_lt P hk sx sk h
 | false=>exact wpS_bind (tm_lt P hk sk sx (wpS_pure h))
structure Gal (rk:Keyed->Int) (S:Keyed->Prop) (lf:Bool) (ky:Keyed) (ar:Array Keyed) (bs n:Nat) (g:Nat->Bool):Prop where
 at_:∀ i,i < n->∃ x,ar[bs+i]?=some x/\S x/\Be rk lf ky x=g i
 mono:∀ i j,i<=j->j < n->g j=true->g i=true
theorem tm_gal (P:Pure prog w A s κ rk S) {st:SortSt} {lf:Bool} {ky:Keyed} {ar:Array Keyed} {bs n ht:Nat} {g:Nat->Bool} {Q:Option Nat->SortSt->Prop} (hk:kindOf st=κ) (sk:S ky) (G:Gal rk S lf ky ar bs n g) (hn:ht < n)
  (h:∀ k,k<=n->(∀ i,i < k->g i=true)->(∀ i,k<=i->i < n->g i=false)->Q (some k) st):wpS (model prog w) A E s (gal' lf ky ar bs n ht) Q st:=by
 have ask:∀ {i:Nat} {Q:Option Bool->SortSt->Prop},i < n->Q (some (g i)) st->wpS (model prog w) A E s (bey lf ky ar bs i) Q st:=fun {i Q} hi q=>by
  obtain ⟨x,h1,h2,h3⟩:=G.at_ i hi
  exact tm_bey P hk h1 h2 sk (h3 ▸ q)
 have off:∀ {i j:Nat},g i=false->i<=j->j < n->g j=false:=fun {i j} e hij hj=>by
  cases e2:g j with
  | false=>rfl
  | true=>rw [G.mono i j hij hj e2] at e;cases e
 rw [gal'_eq]
 dsimp only
 refine wpS_bind (ask hn ?_)
 dsimp only
 have fin : ∀ l0 h0, l0 <= h0 -> h0 <= n -> (∀ i, i < l0 -> g i = true) -> (∀ i, h0 <= i -> i < n -> g i = false) -> wpS (model prog w) A E s (forIn [0:n] ((none, l0, h0) : Option (Option Nat) × Nat × Nat) fun _ c =>
       if c.2.1 ≥ c.2.2 then pure (ForInStep.done (none,c.2.1,c.2.2)) else do
     let x <- bey lf ky ar bs (c.2.1+(c.2.2 - c.2.1) / 2)
     match x with
      | some mo=>if mo=true then pure (ForInStep.yield (none,c.2.1+(c.2.2 - c.2.1) / 2+1,c.2.2)) else pure (ForInStep.yield (none,c.2.1,c.2.1+(c.2.2 - c.2.1) / 2))
      | _=>pure (ForInStep.done (some none,c.2.1,c.2.2))) (fun c st'=>st'=st/\c.1=none/\c.2.2<=n/\(∀ i,i < c.2.2->g i=true)/\∀ i,c.2.2<=i->i < n->g i=false) st:=by
  intro l0 h0 hl hh h1 h2
  refine wpS_forRange (I:=fun x c st'=>st'=st/\c.1=none/\c.2.1<=c.2.2/\c.2.2<=n/\c.2.2 - c.2.1<=n - x/\(∀ i,i < c.2.1->g i=true)/\∀ i,c.2.2<=i->i < n->g i=false) ?_ ?_ ⟨rfl,rfl,hl,hh,by dsimp only;omega,h1,h2⟩
  ·rintro x ⟨c1,l,hi⟩ st' _ hx ⟨rfl,c2,c3,c4,c5,c6,c7⟩
   dsimp only at c2 c3 c4 c5 c6 c7 ⊢
   by_cases e:l ≥ hi
   ·rw [if_pos e]
    have:l=hi:=by omega
    subst this
    exact wpS_pure ⟨rfl,rfl,c4,c6,c7⟩
   ·rw [if_neg e]
    refine wpS_bind (ask (by omega) ?_)
    dsimp only
    cases e2:g (l+(hi - l) / 2) with
    | true =>
     refine wpS_pure ⟨rfl,rfl,by dsimp only;omega,c4,by dsimp only;omega,fun i hi'=>?_,c7⟩
     exact G.mono i _ (by dsimp only at hi';omega) (by omega) e2
    | false =>
     refine wpS_pure ⟨rfl,rfl,by dsimp only;omega,by dsimp only;omega,by dsimp only;omega,c6,fun i hi' hin=>?_⟩
     exact off e2 hi' hin
  ·rintro ⟨c1,l,hi⟩ st' ⟨rfl,c2,c3,c4,c5,c6,c7⟩
   dsimp only at c2 c3 c4 c5 c6 c7 ⊢
   have:l=hi:=by omega
   subst this
   exact ⟨rfl,c2,c4,c6,c7⟩
 cases e0:g ht with
 | true =>
  rw [if_pos rfl]
  refine wpS_bind (wpS_mono (wpS_forRange (I:=fun x c st'=>st'=st/\c.1=none/\c.2.1 < c.2.2/\x+1<=c.2.2/\ht+c.2.1 < n/\g (ht+c.2.1)=true) (Q:=fun c st'=>st'=st/\c.1=none/\c.2.1 < c.2.2/\ht+c.2.1 < n/\g (ht+c.2.1)=true/\(c.2.2 ≥ n - ht\/g (ht+c.2.2)=false)) ?_ ?_ ⟨rfl,rfl,by decide,by decide,by simpa using hn,by simpa using e0⟩) ?_)
  ·rintro x ⟨c1,la,o⟩ st' _ hx ⟨rfl,c2,c3,c4,c5,c6⟩
   dsimp only at c2 c3 c4 c5 c6 ⊢
   by_cases e:o ≥ n - ht
   ·rw [if_pos e]
    exact wpS_pure ⟨rfl,rfl,c3,c5,c6,.inl e⟩
   ·rw [if_neg e]
    refine wpS_bind (ask (by omega) ?_)
    dsimp only
    cases e2:g (ht+o) with
    | true=>exact wpS_pure ⟨rfl,rfl,by dsimp only;omega,by dsimp only;omega,by dsimp only;omega,e2⟩
    | false=>exact wpS_pure ⟨rfl,rfl,c3,c5,c6,.inr e2⟩
  ·rintro ⟨c1,la,o⟩ st' ⟨rfl,c2,c3,c4,c5,c6⟩
   dsimp only at c2 c3 c4 c5 c6 ⊢
   exact ⟨rfl,c2,c3,c5,c6,.inl (by omega)⟩
  ·rintro ⟨c1,la,o⟩ st' ⟨rfl,c2,c3,c5,c6,c7⟩
   dsimp only at c2 c3 c5 c6 c7 ⊢
   subst c2
   dsimp only
   refine wpS_bind (wpS_mono (fin _ _ (by omega) (by omega) (fun i hi=>G.mono i _ (by omega) c5 c6) fun i hi hin=>?_) ?_)
   ·rcases c7 with c7|c7
    ·omega
    ·by_cases hm:o<=n - ht
     ·exact off c7 (by omega) hin
     ·omega
   ·rintro ⟨c1,l,hi⟩ st' ⟨rfl,d2,d3,d4,d5⟩
    dsimp only at d2 d3 d4 d5 ⊢
    subst d2
    exact wpS_pure (h _ d3 d4 d5)
 | false =>
  rw [if_neg (by simp)]
  refine wpS_bind (wpS_mono (wpS_forRange (I:=fun x c st'=>st'=st/\c.1=none/\c.2.1 < c.2.2/\x+1<=c.2.2/\c.2.1<=ht/\g (ht - c.2.1)=false) (Q:=fun c st'=>st'=st/\c.1=none/\c.2.1 < c.2.2/\c.2.1<=ht/\g (ht - c.2.1)=false/\(c.2.2 ≥ ht+1\/g (ht - c.2.2)=true)) ?_ ?_ ⟨rfl,rfl,by decide,by decide,Nat.zero_le _,by simpa using e0⟩) ?_)
  ·rintro x ⟨c1,la,o⟩ st' _ hx ⟨rfl,c2,c3,c4,c5,c6⟩
   dsimp only at c2 c3 c4 c5 c6 ⊢
   by_cases e:o ≥ ht+1
   ·rw [if_pos e]
    exact wpS_pure ⟨rfl,rfl,c3,c5,c6,.inl e⟩
   ·rw [if_neg e]
    refine wpS_bind (ask (by omega) ?_)
    dsimp only
    cases e2:g (ht - o) with
    | false=>exact wpS_pure ⟨rfl,rfl,by dsimp only;omega,by dsimp only;omega,by dsimp only;omega,e2⟩
    | true=>exact wpS_pure ⟨rfl,rfl,c3,c5,c6,.inr e2⟩
  ·rintro ⟨c1,la,o⟩ st' ⟨rfl,c2,c3,c4,c5,c6⟩
   dsimp only at c2 c3 c4 c5 c6 ⊢
   exact ⟨rfl,c2,c3,c5,c6,.inl (by omega)⟩
  ·rintro ⟨c1,la,o⟩ st' ⟨rfl,c2,c3,c5,c6,c7⟩
   dsimp only at c2 c3 c5 c6 c7 ⊢
   subst c2
   dsimp only
   refine wpS_bind (wpS_mono (fin _ _ (by omega) (by omega) (fun i hi=>?_) fun i hi hin=>off c6 (by omega) hin) ?_)
   ·rcases c7 with c7|c7
    ·omega
    ·by_cases hm:o<=ht+1
     ·exact G.mono i _ (by omega) (by omega) c7
     ·omega
   ·rintro ⟨c1,l,hi⟩ st' ⟨rfl,d2,d3,d4,d5⟩
    dsimp only at d2 d3 d4 d5 ⊢
    subst d2
    exact wpS_pure (h _ d3 d4 d5)
end
def Sr (rk:Keyed->Int) (l:List Keyed):Prop:=l.Pairwise fun x y=>rk x<=rk y
def Lq (rk:Keyed->Int) (u v:List Keyed):Prop:=∀ x∈u,∀ y∈v,rk x<=rk y
section
variable {rk:Keyed->Int} {u x y t:List Keyed} {k:Nat}
theorem Sr.app (h1:Sr rk u) (h2:Sr rk x) (h:Lq rk u x):Sr rk (u++x):=List.pairwise_append.mpr ⟨h1,h2,h⟩
theorem Lq.app (h1:Lq rk u y) (h2:Lq rk x y):Lq rk (u++x) y:=fun a ha b hb=>by
 rcases mem_append.mp ha with ha|ha
 ·exact h1 a ha b hb
 ·exact h2 a ha b hb
theorem Lq.appr (h1:Lq rk u y) (h2:Lq rk u x):Lq rk u (y++x):=fun a ha b hb=>by
 rcases mem_append.mp hb with hb|hb
 ·exact h1 a ha b hb
 ·exact h2 a ha b hb
theorem Sr.cut (h:Sr rk x) (k:Nat):Sr rk (x.take k)/\Sr rk (x.drop k)/\Lq rk (x.take k) (x.drop k):=by
 unfold Sr at h
 rw [<-take_append_drop k x] at h
 exact List.pairwise_append.mp h
structure Mg (rk:Keyed->Int) (u x y t:List Keyed):Prop where
 pm:(u++(x++y)).Perm t
 so:Sr rk u
 ux:Lq rk u x
 uy:Lq rk u y
 sx:Sr rk x
 sy:Sr rk y
theorem Mg.symm (m:Mg rk u x y t):Mg rk u y x t:=⟨(List.Perm.append_left u List.perm_append_comm).trans m.pm,m.so,m.uy,m.ux,m.sy,m.sx⟩
theorem Mg.fst (m:Mg rk u x y t) (h:Lq rk (x.take k) y):Mg rk (u++x.take k) (x.drop k) y t:=by
 obtain ⟨c1,c2,c3⟩:=m.sx.cut k
 refine ⟨?_,m.so.app c1 fun a ha b hb=>m.ux a ha b (mem_of_mem_take hb),Lq.app (fun a ha b hb=>m.ux a ha b (mem_of_mem_drop hb)) c3,Lq.app m.uy h,c2,m.sy⟩
 have e:(u++x.take k)++(x.drop k++y)=u++(x++y):=by
  rw [append_assoc,<-append_assoc (x.take k),take_append_drop]
 rw [e];exact m.pm
theorem Mg.done (m:Mg rk u x y t) (h:Lq rk x y):(u++x++y).Perm t/\Sr rk (u++x++y):=by
 rw [append_assoc]
 exact ⟨m.pm,m.so.app (m.sx.app m.sy h) (m.ux.appr m.uy)⟩
end
structure ML (rk:Keyed->Int) (a b u:Array Keyed) (i j:Nat):Prop where
 ia:i+1 < a.size
 jb:j < b.size
 mg:Mg rk u.toList (a.toList.drop i) (b.toList.drop j) (a.toList++b.toList)
def Rs (rk:Keyed->Int) (a b r:Array Keyed):Prop:=r.toList.Perm (a.toList++b.toList)/\Sr rk r.toList
section
variable {rk:Keyed->Int} {a b u:Array Keyed} {i j k:Nat}
theorem ext_end (a:Array Keyed) (i:Nat):(a.extract i a.size).toList=a.toList.drop i:=by
 rw [Array.toList_extract,List.extract_eq_drop_take]
 exact List.take_of_length_le (by rw [length_drop,Array.length_toList];exact Nat.le_refl _)
theorem ext_mid (a:Array Keyed) (i k:Nat):(a.extract i (i+k)).toList=(a.toList.drop i).take k:=by
 rw [Array.toList_extract,List.extract_eq_drop_take,Nat.add_sub_cancel_left]
theorem dn_list:(u++a.extract i a.size++b.extract j b.size).toList=u.toList++a.toList.drop i++b.toList.drop j:=by
 rw [Array.toList_append,Array.toList_append,ext_end,ext_end]
theorem drop_one {l:List Keyed} {x:Keyed} (h:l[i]?=some x):(l.drop i).take 1=[x]:=by
 have:l.drop i=x::l.drop (i+1):=by
  obtain ⟨h1,h2⟩:=List.getElem?_eq_some_iff.mp h
  rw [List.drop_eq_getElem_cons h1,h2]
 rw [this];rfl
def LastA (rk:Keyed->Int) (a b:Array Keyed):Prop:=Lq rk b.toList (a.toList.drop (a.size - 1))
theorem ML.stepA (m:ML rk a b u i j) (hl:LastA rk a b) {u':Array Keyed} (hu:u'.toList=u.toList++(a.toList.drop i).take k) (hk:i+k < a.size) (h:Lq rk ((a.toList.drop i).take k) (b.toList.drop j)) :
  (i+k+1=a.size->Rs rk a b (u'++b.extract j b.size++a.extract (i+k) a.size))/\(i+k+1 < a.size->ML rk a b u' (i+k) j):=by
 have g:=m.mg.fst (k:=k) h
 rw [<-hu,drop_drop] at g
 refine ⟨fun e=>?_,fun e=>⟨e,m.jb,g⟩⟩
 unfold Rs
 rw [dn_list]
 refine g.symm.done fun x hx y hy=>hl x (mem_of_mem_drop hx) y ?_
 rw [show a.size - 1=i+k by omega];exact hy
theorem ML.stepB (m:ML rk a b u i j) {u':Array Keyed} (hu:u'.toList=u.toList++(b.toList.drop j).take k) (hk:j+k<=b.size) (h:Lq rk ((b.toList.drop j).take k) (a.toList.drop i)) :
  (j+k=b.size->Rs rk a b (u'++a.extract i a.size++b.extract (j+k) b.size))/\(j+k < b.size->ML rk a b u' i (j+k)):=by
 have g:=m.mg.symm.fst (k:=k) h
 rw [<-hu,drop_drop] at g
 refine ⟨fun e=>?_,fun e=>⟨m.ia,e,g.symm⟩⟩
 unfold Rs
 rw [dn_list]
 refine g.symm.done fun x hx y hy=>?_
 rw [List.drop_eq_nil_of_le (by rw [Array.length_toList];omega)] at hy
 cases hy
theorem get_l (h:i < a.size):∃ x,a[i]?=some x/\a.toList[i]?=some x/\x∈a.toList:=⟨a[i],Array.getElem?_eq_getElem h,by rw [Array.getElem?_toList];exact Array.getElem?_eq_getElem h,by simp⟩
theorem Sr.head {l:List Keyed} {x:Keyed} (h:Sr rk l) (hx:l[i]?=some x):Lq rk [x] (l.drop i):=by
 obtain ⟨h1,h2⟩:=List.getElem?_eq_some_iff.mp hx
 intro y hy z hz
 rw [mem_singleton.mp hy]
 rw [List.drop_eq_getElem_cons h1,h2] at hz
 rcases mem_cons.mp hz with rfl|hz
 ·exact Int.le_refl _
 ·have:=List.pairwise_append.mp (by rw [take_append_drop];exact h:(l.take (i+1)++l.drop (i+1)).Pairwise fun x y=>rk x<=rk y)
  refine this.2.2 x ?_ z hz
  rw [List.take_succ,hx]
  simp
end
section
variable {rk:Keyed->Int} {S:Keyed->Prop} {a:Array Keyed} {i k:Nat}
theorem mem_dr {x:Keyed} (h:x∈a.toList.drop i):∃ t,i+t < a.size/\a[i+t]?=some x:=by
 obtain ⟨t,ht⟩:=List.getElem?_of_mem h
 rw [List.getElem?_drop,Array.getElem?_toList] at ht
 exact ⟨t,(Array.getElem?_eq_some_iff.mp ht).1,ht⟩
theorem mem_tk {x:Keyed} (h:x∈(a.toList.drop i).take k):∃ t,t < k/\i+t < a.size/\a[i+t]?=some x:=by
 obtain ⟨t,ht⟩:=List.getElem?_of_mem h
 have hk:t < k:=by
  have:=(List.getElem?_eq_some_iff.mp ht).1
  rw [length_take] at this
  omega
 rw [List.getElem?_take,if_pos hk,List.getElem?_drop,Array.getElem?_toList] at ht
 exact ⟨t,hk,(Array.getElem?_eq_some_iff.mp ht).1,ht⟩
def gF (rk:Keyed->Int) (lf:Bool) (ky:Keyed) (a:Array Keyed) (i t:Nat):Bool:=match a[i+t]? with
 | some x=>Be rk lf ky x
 | none=>false
theorem gF_at {lf:Bool} {ky x:Keyed} {t:Nat} (h:a[i+t]?=some x):gF rk lf ky a i t=Be rk lf ky x:=by unfold gF;rw [h]
theorem ord_at (h:Sr rk a.toList) {p q:Nat} {x y:Keyed} (hpq:p<=q) (hx:a[p]?=some x) (hy:a[q]?=some y):rk x<=rk y:=by
 rw [<-Array.getElem?_toList] at hx hy
 refine h.head hx x (by simp) y ?_
 rw [mem_iff_getElem?]
 exact ⟨q - p,by rw [List.getElem?_drop,show p+(q - p)=q by omega];exact hy⟩
theorem gal_of {lf:Bool} {ky:Keyed} {n:Nat} (h:Sr rk a.toList) (hS:∀ x∈a.toList,S x) (hn:i+n<=a.size):Gal rk S lf ky a i n (gF rk lf ky a i):=by
 refine ⟨fun t ht=>?_,fun p q hpq hq e=>?_⟩
 ·obtain ⟨x,h1,h2,h3⟩:=get_l (a:=a) (i:=i+t) (by omega)
  exact ⟨x,h1,hS x h3,(gF_at h1).symm⟩
 ·obtain ⟨x,h1,_,_⟩:=get_l (a:=a) (i:=i+p) (by omega)
  obtain ⟨y,h2,_,_⟩:=get_l (a:=a) (i:=i+q) (by omega)
  have:=ord_at h (by omega) h1 h2
  rw [gF_at h2] at e
  rw [gF_at h1]
  unfold Be at e ⊢
  cases lf with
  | true=>simp at e ⊢;omega
  | false=>simp at e ⊢;omega
end
section
variable {prog:Program} {w:World} {A:Around} {E:Value->Shared->Prop} {s:Shared} {κ:SortKind} {rk:Keyed->Int} {S:Keyed->Prop}
def SaM (st st':SortSt):Prop:=kindOf st'=kindOf st/\arrOf st'=arrOf st/\pendingOf st'=pendingOf st/\failedOf st'=failedOf st
theorem SaM.rfl {st:SortSt}:SaM st st:=⟨Eq.refl _,Eq.refl _,Eq.refl _,Eq.refl _⟩
theorem tm_smg {st st0:SortSt} {g:Nat} {Q:Unit->SortSt->Prop} (h0:SaM st0 st) (h:∀ st',SaM st0 st'->Q () st'):wpS (model prog w) A E s (smg' g) Q st:=by
 rw [smg'_eq]
 exact wpS_modify (h _ h0)
theorem tm_mlo (P:Pure prog w A s κ rk S) {st:SortSt} {a b:Array Keyed} {Q:Array Keyed->SortSt->Prop} (hk:kindOf st=κ) (ha:Sr rk a.toList) (hb:Sr rk b.toList) (sa:∀ x∈a.toList,S x) (sb:∀ x∈b.toList,S x) (na:1<=a.size) (nb:1<=b.size)
  (hf:∀ x y,b[0]?=some x->a[0]?=some y->rk x<=rk y) (hl:∀ x∈b.toList,∀ y,a[a.size - 1]?=some y->rk x < rk y)
  (h:∀ r st',SaM st st'->Rs rk a b r->Q r st'):wpS (model prog w) A E s (mlo' a b) Q st:=by
 have hla:LastA rk a b:=fun x hx y hy=>by
  obtain ⟨t,t1,t2⟩:=mem_dr hy
  have:t=0:=by omega
  subst this
  exact Int.le_of_lt (hl x hx y t2)
 rw [mlo'_eq]
 refine wpS_bind (wpS_lift (wpAny_rule ⟨rfl,?_⟩))
 dsimp only
 obtain ⟨b0,e1,e2,e3⟩:=get_l (a:=b) (i:=0) (by omega)
 refine wpS_bind (tm_el e1 ?_)
 have h0:Mg rk [] (a.toList.drop 0) (b.toList.drop 0) (a.toList++b.toList):=⟨by simp,.nil,(fun _ z=>by cases z),(fun _ z=>by cases z),ha,hb⟩
 have q0:Lq rk ((b.toList.drop 0).take 1) (a.toList.drop 0):=by
  rw [drop_one e2]
  intro x hx y hy
  rw [mem_singleton.mp hx]
  obtain ⟨t,t1,t2⟩:=mem_dr hy
  obtain ⟨a0,f1,f2,f3⟩:=get_l (a:=a) (i:=0) (by omega)
  have:=hf b0 a0 e1 f1
  have:=ord_at ha (Nat.zero_le _) f1 t2
  omega
 have g0:=h0.symm.fst (k:=1) q0
 rw [drop_one e2,drop_drop] at g0
 have g0:Mg rk (#[b0]:Array Keyed).toList (b.toList.drop 1) (a.toList.drop 0) (a.toList++b.toList):=by simpa using g0
 by_cases c1:(1==b.size)=true
 ·rw [if_pos c1]
  refine wpS_pure (h _ _ .rfl ?_)
  unfold Rs
  rw [dn_list]
  refine g0.symm.done fun x hx y hy=>?_
  rw [List.drop_eq_nil_of_le (by rw [Array.length_toList];simp at c1;omega)] at hy
  cases hy
 rw [if_neg c1]
 by_cases c2:(0+1==a.size)=true
 ·rw [if_pos c2]
  refine wpS_pure (h _ _ .rfl ?_)
  unfold Rs
  rw [dn_list]
  refine g0.done fun x hx y hy=>hla x (mem_of_mem_drop hx) y ?_
  rw [show a.size - 1=0 by simp at c2;omega];exact hy
 rw [if_neg c2]
 have m0:ML rk a b #[b0] 0 1:=⟨by simp at c2;omega,by simp at c1;omega,g0.symm⟩
 refine wpS_bind (wpS_get ?_)
 have push1:∀ {u:Array Keyed} {l:List Keyed} {i:Nat} {x:Keyed},l[i]?=some x->(u.push x).toList=u.toList++(l.drop i).take 1:=fun {u l i x} e=>by rw [drop_one e];simp
 refine wpS_bind (wpS_mono (wpS_forRange (I:=fun x c st'=>SaM st st'/\c.1=none/\ML rk a b c.2.1 c.2.2.1 c.2.2.2.1/\x+1<=c.2.2.1+c.2.2.2.1) (Q:=fun c st'=>SaM st st'/\∃ r,c.1=some r/\Rs rk a b r) ?_ ?_ ⟨.rfl,rfl,m0,by dsimp only;omega⟩) ?_)
 rotate_left
 ·rintro ⟨c1,u,i,j,mg⟩ st' ⟨q1,q2,q3,q4⟩
  dsimp only at q2 q3 q4
  have:=q3.ia
  have:=q3.jb
  omega
 ·rintro ⟨c1,u,i,j,mg⟩ st' ⟨q1,r,q2,q3⟩
  dsimp only at q2 ⊢
  subst q2
  exact wpS_pure (h _ _ q1 q3)
 rintro x ⟨c1,u,i,j,mg⟩ st1 _ hx ⟨q1,q2,q3,q4⟩
 dsimp only at q2 q3 q4 ⊢
 have hk1:kindOf st1=κ:=q1.1.trans hk
 refine wpS_bind (wpS_mono (wpS_forRange (I:=fun x c st'=>st'=st1/\c.1=none/\ML rk a b c.2.1 c.2.2.1 c.2.2.2.1/\i+j+x<=c.2.2.1+c.2.2.2.1) (Q:=fun c st'=>st'=st1/\((∃ r,c.1=some r/\Rs rk a b r)\/(c.1=none/\ML rk a b c.2.1 c.2.2.1 c.2.2.2.1/\i+j+1<=c.2.2.1+c.2.2.2.1))) ?_ ?_ ⟨rfl,rfl,q3,by dsimp only;omega⟩) ?_)
 ·rintro y ⟨c1,u,i',j',ac,bc⟩ st' _ hy ⟨rfl,q2,q3,q4⟩
  dsimp only at q2 q3 q4 ⊢
  obtain ⟨bj,e1,e2,e3⟩:=get_l (a:=b) (i:=j') q3.jb
  obtain ⟨ai,f1,f2,f3⟩:=get_l (a:=a) (i:=i') (by have:=q3.ia;omega)
  refine wpS_bind (tm_el e1 (wpS_bind (tm_el f1 (wpS_bind (tm_lt P hk1 (sb _ e3) (sa _ f3) ?_)))))
  dsimp only
  by_cases c:rk bj < rk ai
  ·simp only [c,decide_true,if_true]
   refine wpS_bind (tm_el e1 ?_)
   have st:=q3.stepB (k:=1) (push1 (u:=u) e2) (by have:=q3.jb;omega) (by
    rw [drop_one e2]
    intro x hx z hz
    rw [mem_singleton.mp hx]
    obtain ⟨t,t1,t2⟩:=mem_dr hz
    have:=ord_at ha (Nat.le_add_right i' t) f1 t2
    omega)
   by_cases c2:(j'+1==b.size)=true
   ·rw [if_pos c2]
    exact wpS_pure ⟨rfl,.inl ⟨_,rfl,st.1 (by simpa using c2)⟩⟩
   rw [if_neg c2]
   have st:=st.2 (by have:=q3.jb;simp at c2;omega)
   split
   ·exact wpS_pure ⟨rfl,.inr ⟨rfl,st,by dsimp only;omega⟩⟩
   ·exact wpS_pure ⟨rfl,rfl,st,by dsimp only;omega⟩
  ·simp only [c,decide_false,Bool.false_eq_true,if_false]
   refine wpS_bind (tm_el f1 ?_)
   have st:=q3.stepA hla (k:=1) (push1 (u:=u) f2) (by have:=q3.ia;omega) (by
    rw [drop_one f2]
    intro x hx z hz
    rw [mem_singleton.mp hx]
    obtain ⟨t,t1,t2⟩:=mem_dr hz
    have:=ord_at hb (Nat.le_add_right j' t) e1 t2
    omega)
   by_cases c2:(i'+1+1==a.size)=true
   ·rw [if_pos c2]
    exact wpS_pure ⟨rfl,.inl ⟨_,rfl,st.1 (by simpa using c2)⟩⟩
   rw [if_neg c2]
   have st:=st.2 (by have:=q3.ia;simp at c2;omega)
   split
   ·exact wpS_pure ⟨rfl,.inr ⟨rfl,st,by dsimp only;omega⟩⟩
   ·exact wpS_pure ⟨rfl,rfl,st,by dsimp only;omega⟩
 ·rintro ⟨c1,u,i',j',ac,bc⟩ st' ⟨rfl,q2,q3,q4⟩
  dsimp only at q2 q3 q4
  rw [Nat.zero_max] at q4
  exact ⟨rfl,.inr ⟨q2,q3,by dsimp only;omega⟩⟩
 rintro ⟨c1,u,i1,j1,ac,bc⟩ st' ⟨rfl,q⟩
 dsimp only at q ⊢
 rcases q with ⟨r,rfl,q⟩|⟨rfl,q3,q4'⟩
 ·exact wpS_pure ⟨q1,r,rfl,q⟩
 dsimp only
 refine wpS_bind (wpS_lift (wpAny_rule ⟨rfl,?_⟩))
 refine wpS_bind (wpS_mono (wpS_forRange (I:=fun x c st'=>SaM st st'/\c.1=none/\ML rk a b c.2.1 c.2.2.1 c.2.2.2.1/\i1+j1<=c.2.2.1+c.2.2.2.1) (Q:=fun c st'=>SaM st st'/\((∃ r,c.1=some r/\Rs rk a b r)\/(c.1=none/\ML rk a b c.2.1 c.2.2.1 c.2.2.2.1/\i1+j1<=c.2.2.1+c.2.2.2.1))) ?_ ?_ ⟨q1,rfl,q3,Nat.le_refl _⟩) ?_)
 rotate_left
 ·rintro ⟨c1,u,i',j',mg,ac,bc⟩ st' ⟨p1,p2,p3,p4⟩
  exact ⟨p1,.inr ⟨p2,p3,p4⟩⟩
 ·rintro ⟨c1,u,i',j',mg,ac,bc⟩ st' ⟨p1,p⟩
  dsimp only at p ⊢
  rcases p with ⟨r,rfl,p⟩|⟨rfl,p3,p4⟩
  ·exact wpS_pure ⟨p1,r,rfl,p⟩
  ·refine wpS_bind (tm_smg p1 fun st2 p1=>wpS_pure ⟨p1,rfl,p3,by dsimp only;omega⟩)
 rintro y ⟨c1,u,i',j',mg',ac',bc'⟩ st2 _ hy ⟨p1,p2,p3,p4⟩
 dsimp only at p2 p3 p4 ⊢
 have body:∀ mgx:Nat,wpS (model prog w) A E s (do
   smg' mgx
   let x <- elem' b j'
   let y <- gal' false x a i' (a.size - i') 0
   match y with
   | some k =>
    let jp:=fun (u:Array Keyed) (i:Nat)=>(do
     let x <- elem' b j'
     let u:=u.push x
     let j:=j'+1
     if (j==b.size)=true then pure (ForInStep.done (some (u++a.extract i a.size++b.extract j b.size),u,i,j,mgx,k,bc'))
     else do
      let x <- elem' a i
      let y <- gal' true x b j (b.size - j) 0
      match y with
      | some k2 =>
       let jq:=fun (u:Array Keyed) (j:Nat)=>(do
        let x <- elem' a i
        let u:=u.push x
        let i:=i+1
        if (i+1==a.size)=true then pure (ForInStep.done (some (u++b.extract j b.size++a.extract i a.size),u,i,j,mgx,k,k2))
        else if (decide (k < 7)&&decide (k2 < 7))=true then pure (ForInStep.done (none,u,i,j,mgx,k,k2))
        else pure (ForInStep.yield (none,u,i,j,mgx,k,k2)):StateT SortSt Sem (ForInStep (Option (Array Keyed) × Array Keyed × Nat × Nat × Nat × Nat × Nat)))
       if k2 > 0 then
        let u:=u++b.extract j (j+k2)
        let j:=j+k2
        if (j==b.size)=true then pure (ForInStep.done (some (u++a.extract i a.size++b.extract j b.size),u,i,j,mgx,k,k2)) else jq u j
       else jq u j
      | _=>pure (ForInStep.done (some (u++a.extract i a.size++b.extract j b.size),u,i,j,mgx,k,bc')):StateT SortSt Sem (ForInStep (Option (Array Keyed) × Array Keyed × Nat × Nat × Nat × Nat × Nat)))
    if k > 0 then
     let u:=u++a.extract i' (i'+k)
     let i:=i'+k
     if (i+1==a.size)=true then pure (ForInStep.done (some (u++b.extract j' b.size++a.extract i a.size),u,i,j',mgx,k,bc'))
     else if (i==a.size)=true then pure (ForInStep.done (some (u++a.extract i a.size++b.extract j' b.size),u,i,j',mgx,k,bc'))
     else jp u i
    else jp u i'
   | _=>pure (ForInStep.done (some (u++a.extract i' a.size++b.extract j' b.size),u,i',j',mgx,ac',bc'))) (fun r st'=>match r with
    | .done c=>SaM st st'/\((∃ r,c.1=some r/\Rs rk a b r)\/(c.1=none/\ML rk a b c.2.1 c.2.2.1 c.2.2.2.1/\i1+j1<=c.2.2.1+c.2.2.2.1))
    | .yield c=>SaM st st'/\c.1=none/\ML rk a b c.2.1 c.2.2.1 c.2.2.2.1/\i1+j1<=c.2.2.1+c.2.2.2.1) st2:=by
  intro mgx
  refine wpS_bind (tm_smg p1 fun st3 p1=>?_)
  have hk3:kindOf st3=κ:=p1.1.trans hk
  obtain ⟨bj,e1,e2,e3⟩:=get_l (a:=b) (i:=j') p3.jb
  refine wpS_bind (tm_el e1 ?_)
  have hia:=p3.ia
  have hjb:=p3.jb
  refine wpS_bind (tm_gal P hk3 (sb _ e3) (gal_of ha sa (n:=a.size - i') (by omega)) (by omega) fun k hk2 g1 g2=>?_)
  dsimp only
  have kl:i'+k < a.size:=by
   rcases Nat.lt_or_ge (i'+k) a.size with z|z
   ·exact z
   ·exfalso
    obtain ⟨al,f1,f2,f3⟩:=get_l (a:=a) (i:=a.size - 1) (by omega)
    have:=g1 (a.size - 1 - i') (by omega)
    rw [gF_at (x:=al) (by rw [show i'+(a.size - 1 - i')=a.size - 1 by omega];exact f1)] at this
    unfold Be at this
    simp at this
    have:=hl bj e3 al f1
    omega
  have le1:Lq rk ((a.toList.drop i').take k) (b.toList.drop j'):=fun x hx z hz=>by
   obtain ⟨t,t1,t2,t3⟩:=mem_tk hx
   obtain ⟨t',t4,t5⟩:=mem_dr hz
   have:=g1 t t1
   rw [gF_at t3] at this
   unfold Be at this
   simp at this
   have:=ord_at hb (Nat.le_add_right j' t') e1 t5
   omega
  have jp : ∀ (u : Array Keyed) (i : Nat), ML rk a b u i j' -> i' <= i -> (∀ t, i + t < a.size -> ∀ x, a[i + t]? = some x -> rk bj < rk x) -> wpS (model prog w) A E s (do
        let x <- elem' b j'
        if (j'+1==b.size)=true then pure (ForInStep.done (some (u.push x++a.extract i a.size++b.extract (j'+1) b.size),u.push x,i,j'+1,mgx,k,bc'))
        else do
      let z <- elem' a i
      let y <- gal' true z b (j'+1) (b.size - (j'+1)) 0
      match y with
      | some k2 =>
       if k2 > 0 then
        if (j'+1+k2==b.size)=true then pure (ForInStep.done (some (u.push x++b.extract (j'+1) (j'+1+k2)++a.extract i a.size++b.extract (j'+1+k2) b.size),u.push x++b.extract (j'+1) (j'+1+k2),i,j'+1+k2,mgx,k,k2)) else do
         let z <- elem' a i
         if (i+1+1==a.size)=true then pure (ForInStep.done (some ((u.push x++b.extract (j'+1) (j'+1+k2)).push z++b.extract (j'+1+k2) b.size++a.extract (i+1) a.size),(u.push x++b.extract (j'+1) (j'+1+k2)).push z,i+1,j'+1+k2,mgx,k,k2))
         else if (decide (k < 7)&&decide (k2 < 7))=true then pure (ForInStep.done (none,(u.push x++b.extract (j'+1) (j'+1+k2)).push z,i+1,j'+1+k2,mgx,k,k2))
         else pure (ForInStep.yield (none,(u.push x++b.extract (j'+1) (j'+1+k2)).push z,i+1,j'+1+k2,mgx,k,k2))
       else do
        let z <- elem' a i
        if (i+1+1==a.size)=true then pure (ForInStep.done (some ((u.push x).push z++b.extract (j'+1) b.size++a.extract (i+1) a.size),(u.push x).push z,i+1,j'+1,mgx,k,k2))
        else if (decide (k < 7)&&decide (k2 < 7))=true then pure (ForInStep.done (none,(u.push x).push z,i+1,j'+1,mgx,k,k2))
        else pure (ForInStep.yield (none,(u.push x).push z,i+1,j'+1,mgx,k,k2))
      | _=>pure (ForInStep.done (some (u.push x++a.extract i a.size++b.extract (j'+1) b.size),u.push x,i,j'+1,mgx,k,bc')):StateT SortSt Sem (ForInStep (Option (Array Keyed) × Array Keyed × Nat × Nat × Nat × Nat × Nat))) (fun r st'=>match r with
    | .done c=>SaM st st'/\((∃ r,c.1=some r/\Rs rk a b r)\/(c.1=none/\ML rk a b c.2.1 c.2.2.1 c.2.2.2.1/\i1+j1<=c.2.2.1+c.2.2.2.1))
    | .yield c=>SaM st st'/\c.1=none/\ML rk a b c.2.1 c.2.2.1 c.2.2.2.1/\i1+j1<=c.2.2.1+c.2.2.2.1) st3:=by
   intro u i m hi above
   have mia:=m.ia
   refine wpS_bind (tm_el e1 ?_)
   have sB:=m.stepB (k:=1) (push1 (u:=u) e2) (by omega) (by
    rw [drop_one e2]
    intro x hx z hz
    rw [mem_singleton.mp hx]
    obtain ⟨t,t1,t2⟩:=mem_dr hz
    exact Int.le_of_lt (above t t1 z t2))
   by_cases c2:(j'+1==b.size)=true
   ·rw [if_pos c2]
    exact wpS_pure ⟨p1,.inl ⟨_,rfl,sB.1 (by simpa using c2)⟩⟩
   rw [if_neg c2]
   have m2:=sB.2 (by simp at c2;omega)
   have mjb:=m2.jb
   obtain ⟨ai,f1,f2,f3⟩:=get_l (a:=a) (i:=i) (by omega)
   refine wpS_bind (tm_el f1 ?_)
   refine wpS_bind (tm_gal P hk3 (sa _ f3) (gal_of hb sb (n:=b.size - (j'+1)) (by omega)) (by omega) fun k2 hk2 g3 g4=>?_)
   dsimp only
   have last : ∀ (u : Array Keyed) (j : Nat), ML rk a b u i j -> (∀ t, j + t < b.size -> ∀ x, b[j + t]? = some x -> rk ai <= rk x) -> j' < j -> wpS (model prog w) A E s (do
             let z <- elem' a i
             if (i+1+1==a.size)=true then pure (ForInStep.done (some (u.push z++b.extract j b.size++a.extract (i+1) a.size),u.push z,i+1,j,mgx,k,k2))
             else if (decide (k < 7)&&decide (k2 < 7))=true then pure (ForInStep.done (none,u.push z,i+1,j,mgx,k,k2))
             else pure (ForInStep.yield (none,u.push z,i+1,j,mgx,k,k2)):StateT SortSt Sem (ForInStep (Option (Array Keyed) × Array Keyed × Nat × Nat × Nat × Nat × Nat))) (fun r st'=>match r with
    | .done c=>SaM st st'/\((∃ r,c.1=some r/\Rs rk a b r)\/(c.1=none/\ML rk a b c.2.1 c.2.2.1 c.2.2.2.1/\i1+j1<=c.2.2.1+c.2.2.2.1))
    | .yield c=>SaM st st'/\c.1=none/\ML rk a b c.2.1 c.2.2.1 c.2.2.2.1/\i1+j1<=c.2.2.1+c.2.2.2.1) st3:=by
    intro u j m below hj
    refine wpS_bind (tm_el f1 ?_)
    have sA:=m.stepA hla (k:=1) (push1 (u:=u) f2) (by omega) (by
     rw [drop_one f2]
     intro x hx z hz
     rw [mem_singleton.mp hx]
     obtain ⟨t,t1,t2⟩:=mem_dr hz
     exact below t t1 z t2)
    by_cases c3:(i+1+1==a.size)=true
    ·rw [if_pos c3]
     exact wpS_pure ⟨p1,.inl ⟨_,rfl,sA.1 (by simpa using c3)⟩⟩
    rw [if_neg c3]
    have m3:=sA.2 (by simp at c3;omega)
    split
    ·exact wpS_pure ⟨p1,.inr ⟨rfl,m3,by dsimp only;omega⟩⟩
    ·exact wpS_pure ⟨p1,rfl,m3,by dsimp only;omega⟩
   have abv:∀ t,k2<=t->j'+1+t < b.size->∀ x,b[j'+1+t]?=some x->rk ai<=rk x:=fun t ht hts x hx=>by
    have:=g4 t ht (by omega)
    rw [gF_at hx] at this
    unfold Be at this
    simp at this
    omega
   by_cases ck:k2 > 0
   ·rw [if_pos ck]
    have sB2:=m2.stepB (k:=k2) (u':=u.push bj++b.extract (j'+1) (j'+1+k2)) (by rw [Array.toList_append,ext_mid]) (by omega) (fun x hx z hz=>by
     obtain ⟨t,t1,t2,t3⟩:=mem_tk hx
     obtain ⟨t',t4,t5⟩:=mem_dr hz
     have:=g3 t t1
     rw [gF_at t3] at this
     unfold Be at this
     simp at this
     have:=ord_at ha (Nat.le_add_right i t') f1 t5
     omega)
    by_cases c3:(j'+1+k2==b.size)=true
    ·rw [if_pos c3]
     exact wpS_pure ⟨p1,.inl ⟨_,rfl,sB2.1 (by simpa using c3)⟩⟩
    rw [if_neg c3]
    refine last _ _ (sB2.2 (by simp at c3;omega)) (fun t ht x hx=>abv (k2+t) (by omega) (by omega) x (by rw [show j'+1+(k2+t)=j'+1+k2+t by omega];exact hx)) (by omega)
   ·rw [if_neg ck]
    exact last _ _ m2 (fun t ht x hx=>abv t (by omega) ht x hx) (by omega)
  have above:∀ t,k<=t->i'+t < a.size->∀ x,a[i'+t]?=some x->rk bj < rk x:=fun t ht hts x hx=>by
   have:=g2 t ht (by omega)
   rw [gF_at hx] at this
   unfold Be at this
   simp at this
   exact this
  by_cases ck:k > 0
  ·rw [if_pos ck]
   have sA:=p3.stepA hla (k:=k) (u':=u++a.extract i' (i'+k)) (by rw [Array.toList_append,ext_mid]) kl le1
   by_cases c2:(i'+k+1==a.size)=true
   ·rw [if_pos c2]
    exact wpS_pure ⟨p1,.inl ⟨_,rfl,sA.1 (by simpa using c2)⟩⟩
   rw [if_neg c2,if_neg (by simp;omega)]
   exact jp _ _ (sA.2 (by simp at c2;omega)) (by omega) fun t ht x hx=>above (k+t) (by omega) (by omega) x (by rw [<-Nat.add_assoc];exact hx)
  ·rw [if_neg ck]
   exact jp _ _ p3 (Nat.le_refl _) fun t ht x hx=>above t (by omega) ht x hx
 by_cases cg:mg' > 1
 ·rw [if_pos cg]
  refine wpS_mono (body (mg' - 1)) fun r st' hr=>?_
  cases r with
  | done c=>exact hr
  | yield c=>exact hr
 ·rw [if_neg cg]
  refine wpS_mono (body mg') fun r st' hr=>?_
  cases r with
  | done c=>exact hr
  | yield c=>exact hr
end
theorem mhi'_eq (a b:Array Keyed):mhi' a b=(do
 rule "list.sort.merge-hi"
 let tt:=a.size+b.size
 let dn (u:Array Keyed) (i j:Nat):=a.extract 0 i++b.extract 0 j++u.reverse
 let fB (u:Array Keyed) (i j:Nat):=b.extract 0 j++a.extract 0 i++u.reverse
 let mut i:=a.size - 1
 let mut j:=b.size
 let mut u:Array Keyed:=#[<-elem' a i]
 if i==0 then return dn u i j
 if j==1 then return fB u i j
 let mut mg:=gallopOf (<- get)
 for _ in [0:tt] do
  let mut ac:=0
  let mut bc:=0
  for _ in [0:tt] do
   let some aw <- lt' (<- elem' b (j - 1)) (<- elem' a (i - 1))|return dn u i j
   if aw then
    i:=i - 1;u:=u.push (<- elem' a i);ac:=ac+1;bc:=0
    if i==0 then return dn u i j
    if ac ≥ mg then break
   else
    j:=j - 1;u:=u.push (<- elem' b j);bc:=bc+1;ac:=0
    if j==1 then return fB u i j
    if bc ≥ mg then break
  rule "list.sort.gallop"
  mg:=mg+1
  for _ in [0:tt] do
   if mg > 1 then mg:=mg - 1
   smg' mg
   let some q <- gal' false (<- elem' b (j - 1)) a 0 i (i - 1)|return dn u i j
   let k:=i - q
   ac:=k
   if k > 0 then
    u:=u++(a.extract q i).reverse;i:=q
    if i==0 then return dn u i j
   j:=j - 1;u:=u.push (<- elem' b j)
   if j==1 then return fB u i j
   let some q <- gal' true (<- elem' a (i - 1)) b 0 j (j - 1)|return dn u i j
   let k:=j - q
   bc:=k
   if k > 0 then
    u:=u++(b.extract q j).reverse;j:=q
    if j==1 then return fB u i j
    if j==0 then return dn u i j
   i:=i - 1;u:=u.push (<- elem' a i)
   if i==0 then return dn u i j
   if ac < 7&&bc < 7 then break
  mg:=mg+1
  smg' mg
 unsupported "internal:list.sort.merge-bound"):=rfl
structure Mh (rk:Keyed->Int) (x y v t:List Keyed):Prop where
 pm:((x++y)++v).Perm t
 so:Sr rk v
 xv:Lq rk x v
 yv:Lq rk y v
 sx:Sr rk x
 sy:Sr rk y
section
variable {rk:Keyed->Int} {x y v t:List Keyed} {k:Nat}
theorem Mh.symm (m:Mh rk x y v t):Mh rk y x v t:=⟨(List.Perm.append_right v List.perm_append_comm).trans m.pm,m.so,m.yv,m.xv,m.sy,m.sx⟩
theorem Mh.snd (m:Mh rk x y v t) (h:Lq rk x (y.drop k)):Mh rk x (y.take k) (y.drop k++v) t:=by
 obtain ⟨c1,c2,c3⟩:=m.sy.cut k
 refine ⟨?_,c2.app m.so fun a ha b hb=>m.yv a (mem_of_mem_drop ha) b hb,h.appr m.xv,c3.appr fun a ha b hb=>m.yv a (mem_of_mem_take ha) b hb,m.sx,c1⟩
 have e:(x++y.take k)++(y.drop k++v)=(x++y)++v:=by
  rw [<-append_assoc,append_assoc x,take_append_drop]
 rw [e];exact m.pm
theorem Mh.done (m:Mh rk x y v t) (h:Lq rk x y):(x++y++v).Perm t/\Sr rk (x++y++v):=⟨m.pm,(m.sx.app m.sy h).app m.so (m.xv.app m.yv)⟩
end
structure MH (rk:Keyed->Int) (a b u:Array Keyed) (i j:Nat):Prop where
 ia:1<=i/\i<=a.size
 jb:2<=j/\j<=b.size
 mg:Mh rk (a.toList.take i) (b.toList.take j) u.toList.reverse (a.toList++b.toList)
section
variable {rk:Keyed->Int} {a b u:Array Keyed} {i j k:Nat}
theorem ext_0 (a:Array Keyed) (i:Nat):(a.extract 0 i).toList=a.toList.take i:=by
 rw [Array.toList_extract,List.extract_eq_drop_take,List.drop_zero,Nat.sub_zero]
theorem ext_q (a:Array Keyed) (q i:Nat):(a.extract q i).toList=(a.toList.take i).drop q:=by
 rw [Array.toList_extract,List.extract_eq_drop_take,List.drop_take]
theorem up_list:(a.extract 0 i++b.extract 0 j++u.reverse).toList=a.toList.take i++b.toList.take j++u.toList.reverse:=by
 rw [Array.toList_append,Array.toList_append,ext_0,ext_0,Array.toList_reverse]
theorem MH.stepA (m:MH rk a b u i j) {u':Array Keyed} (hu:u'.toList.reverse=(a.toList.take i).drop k++u.toList.reverse) (hk:k<=i) (h:Lq rk (b.toList.take j) ((a.toList.take i).drop k)) :
  (k=0->Rs rk a b (a.extract 0 k++b.extract 0 j++u'.reverse))/\(1<=k->MH rk a b u' k j):=by
 have g:=m.mg.symm.snd (k:=k) h
 rw [<-hu,List.take_take,Nat.min_eq_left hk] at g
 refine ⟨fun e=>?_,fun e=>⟨⟨e,by have:=m.ia.2;omega⟩,m.jb,g.symm⟩⟩
 unfold Rs
 rw [up_list]
 refine g.symm.done fun x hx y hy=>?_
 rw [e,List.take_zero] at hx
 cases hx
theorem MH.stepB (m:MH rk a b u i j) (hf:Lq rk (b.toList.take 1) a.toList) {u':Array Keyed} (hu:u'.toList.reverse=(b.toList.take j).drop k++u.toList.reverse) (hk:k<=j) (h:Lq rk (a.toList.take i) ((b.toList.take j).drop k)) :
  (k=1->Rs rk a b (b.extract 0 k++a.extract 0 i++u'.reverse))/\(2<=k->MH rk a b u' i k):=by
 have g:=m.mg.snd (k:=k) h
 rw [<-hu,List.take_take,Nat.min_eq_left hk] at g
 refine ⟨fun e=>?_,fun e=>⟨m.ia,⟨e,by have:=m.jb.2;omega⟩,g⟩⟩
 unfold Rs
 rw [up_list]
 refine g.symm.done fun x hx y hy=>hf x (by rw [e] at hx;exact hx) y (mem_of_mem_take hy)
theorem mem_ti {x:Keyed} (h:x∈a.toList.take i):∃ t,t < i/\t < a.size/\a[t]?=some x:=by
 obtain ⟨t,ht⟩:=List.getElem?_of_mem h
 have hk:t < i:=by
  have:=(List.getElem?_eq_some_iff.mp ht).1
  rw [length_take] at this
  omega
 rw [List.getElem?_take,if_pos hk,Array.getElem?_toList] at ht
 exact ⟨t,hk,(Array.getElem?_eq_some_iff.mp ht).1,ht⟩
theorem mem_td {x:Keyed} (h:x∈(a.toList.take i).drop k):∃ t,k<=t/\t < i/\t < a.size/\a[t]?=some x:=by
 obtain ⟨t,ht⟩:=List.getElem?_of_mem h
 rw [List.getElem?_drop] at ht
 have hk:k+t < i:=by
  have:=(List.getElem?_eq_some_iff.mp ht).1
  rw [length_take] at this
  omega
 rw [List.getElem?_take,if_pos hk,Array.getElem?_toList] at ht
 exact ⟨k+t,by omega,hk,(Array.getElem?_eq_some_iff.mp ht).1,ht⟩
theorem last_one {x:Keyed} (h0:1<=i) (h:a[i - 1]?=some x):(a.toList.take i).drop (i - 1)=[x]:=by
 rw [<-Array.getElem?_toList] at h
 obtain ⟨h1,h2⟩:=List.getElem?_eq_some_iff.mp h
 have e:i=(i - 1)+1:=by omega
 rw [show a.toList.take i=a.toList.take (i - 1)++[x] from by rw [e,List.take_succ,Nat.add_sub_cancel,h];rfl]
 rw [List.drop_append_of_le_length (by rw [length_take];omega),List.drop_eq_nil_of_le (by rw [length_take];omega)]
 rfl
end
section
variable {prog:Program} {w:World} {A:Around} {E:Value->Shared->Prop} {s:Shared} {κ:SortKind} {rk:Keyed->Int} {S:Keyed->Prop}
theorem tm_mhi (P:Pure prog w A s κ rk S) {st:SortSt} {a b:Array Keyed} {Q:Array Keyed->SortSt->Prop} (hk:kindOf st=κ) (ha:Sr rk a.toList) (hb:Sr rk b.toList) (sa:∀ x∈a.toList,S x) (sb:∀ x∈b.toList,S x) (na:1<=a.size) (nb:1<=b.size)
  (hf:∀ x y,b[0]?=some x->y∈a.toList->rk x < rk y) (hl:∀ x∈b.toList,∀ y,a[a.size - 1]?=some y->rk x<=rk y)
  (h:∀ r st',SaM st st'->Rs rk a b r->Q r st'):wpS (model prog w) A E s (mhi' a b) Q st:=by
 have hfa:Lq rk (b.toList.take 1) a.toList:=fun x hx y hy=>by
  obtain ⟨t,t1,t2,t3⟩:=mem_ti hx
  have:t=0:=by omega
  subst this
  exact Int.le_of_lt (hf x y t3 hy)
 rw [mhi'_eq]
 refine wpS_bind (wpS_lift (wpAny_rule ⟨rfl,?_⟩))
 dsimp only
 obtain ⟨al,e1,e2,e3⟩:=get_l (a:=a) (i:=a.size - 1) (by omega)
 refine wpS_bind (tm_el e1 ?_)
 have h0:Mh rk (a.toList.take a.size) (b.toList.take b.size) [] (a.toList++b.toList):=by
  rw [<-Array.length_toList,<-Array.length_toList,take_length,take_length]
  exact ⟨by simp,.nil,(fun _ _ _ z=>by cases z),(fun _ _ _ z=>by cases z),ha,hb⟩
 have g0:=h0.symm.snd (k:=a.size - 1) (by
  rw [last_one na e1]
  intro x hx y hy
  rw [mem_singleton.mp hy]
  exact hl x (mem_of_mem_take hx) al e1)
 rw [last_one na e1,List.take_take,Nat.min_eq_left (by omega)] at g0
 have g0:Mh rk (b.toList.take b.size) (a.toList.take (a.size - 1)) (#[al]:Array Keyed).toList.reverse (a.toList++b.toList):=by simpa using g0
 by_cases c1:(a.size - 1==0)=true
 ·rw [if_pos c1]
  refine wpS_pure (h _ _ .rfl ?_)
  unfold Rs
  rw [up_list]
  refine g0.symm.done fun x hx y hy=>?_
  rw [show a.size - 1=0 by simpa using c1,List.take_zero] at hx
  cases hx
 rw [if_neg c1]
 by_cases c2:(b.size==1)=true
 ·rw [if_pos c2]
  refine wpS_pure (h _ _ .rfl ?_)
  unfold Rs
  rw [up_list]
  refine g0.done fun x hx y hy=>hfa x ?_ y (mem_of_mem_take hy)
  rw [show b.size=1 by simpa using c2] at hx;exact hx
 rw [if_neg c2]
 have m0:MH rk a b #[al] (a.size - 1) b.size:=⟨⟨by simp at c1;omega,by omega⟩,⟨by simp at c2;omega,Nat.le_refl _⟩,g0.symm⟩
 refine wpS_bind (wpS_get ?_)
 have push1:∀ {u d:Array Keyed} {i:Nat} {x:Keyed},1<=i->d[i - 1]?=some x->(u.push x).toList.reverse=(d.toList.take i).drop (i - 1)++u.toList.reverse:=fun {u d i x} h0 e=>by rw [last_one h0 e];simp
 have chunk:∀ {u d:Array Keyed} {q i:Nat},(u++(d.extract q i).reverse).toList.reverse=(d.toList.take i).drop q++u.toList.reverse:=fun {u d q i}=>by
  rw [Array.toList_append,List.reverse_append,Array.toList_reverse,List.reverse_reverse,ext_q]
 refine wpS_bind (wpS_mono (wpS_forRange (I:=fun x c st'=>SaM st st'/\c.1=none/\MH rk a b c.2.2.2.1 c.2.1 c.2.2.1/\c.2.1+c.2.2.1+x+1<=a.size+b.size) (Q:=fun c st'=>SaM st st'/\∃ r,c.1=some r/\Rs rk a b r) ?_ ?_ ⟨.rfl,rfl,m0,by dsimp only;omega⟩) ?_)
 rotate_left
 ·rintro ⟨c1,i,j,u,mg⟩ st' ⟨q1,q2,q3,q4⟩
  dsimp only at q2 q3 q4
  rw [Nat.zero_max] at q4
  omega
 ·rintro ⟨c1,i,j,u,mg⟩ st' ⟨q1,r,q2,q3⟩
  dsimp only at q2 ⊢
  subst q2
  exact wpS_pure (h _ _ q1 q3)
 rintro x ⟨c1,i,j,u,mg⟩ st1 _ hx ⟨q1,q2,q3,q4⟩
 dsimp only at q2 q3 q4 ⊢
 have hk1:kindOf st1=κ:=q1.1.trans hk
 refine wpS_bind (wpS_mono (wpS_forRange (I:=fun x c st'=>st'=st1/\c.1=none/\MH rk a b c.2.2.2.1 c.2.1 c.2.2.1/\c.2.1+c.2.2.1+x<=i+j) (Q:=fun c st'=>st'=st1/\((∃ r,c.1=some r/\Rs rk a b r)\/(c.1=none/\MH rk a b c.2.2.2.1 c.2.1 c.2.2.1/\c.2.1+c.2.2.1+1<=i+j))) ?_ ?_ ⟨rfl,rfl,q3,by dsimp only;omega⟩) ?_)
 ·rintro y ⟨c1,i',j',u,ac,bc⟩ st' _ hy ⟨rfl,q2,q3,q4⟩
  dsimp only at q2 q3 q4 ⊢
  have hia:=q3.ia
  have hjb:=q3.jb
  obtain ⟨bj,e1,e2,e3⟩:=get_l (a:=b) (i:=j' - 1) (by omega)
  obtain ⟨ai,f1,f2,f3⟩:=get_l (a:=a) (i:=i' - 1) (by omega)
  refine wpS_bind (tm_el e1 (wpS_bind (tm_el f1 (wpS_bind (tm_lt P hk1 (sb _ e3) (sa _ f3) ?_)))))
  dsimp only
  by_cases c:rk bj < rk ai
  ·simp only [c,decide_true,if_true]
   refine wpS_bind (tm_el f1 ?_)
   have st:=q3.stepA (k:=i' - 1) (push1 (u:=u) hia.1 f1) (by omega) (by
    rw [last_one hia.1 f1]
    intro x hx z hz
    rw [mem_singleton.mp hz]
    obtain ⟨t,t1,t2,t3⟩:=mem_ti hx
    have:=ord_at hb (show t<=j' - 1 by omega) t3 e1
    omega)
   by_cases c2:(i' - 1==0)=true
   ·rw [if_pos c2]
    exact wpS_pure ⟨rfl,.inl ⟨_,rfl,st.1 (by simpa using c2)⟩⟩
   rw [if_neg c2]
   have st:=st.2 (by simp at c2;omega)
   split
   ·exact wpS_pure ⟨rfl,.inr ⟨rfl,st,by dsimp only;omega⟩⟩
   ·exact wpS_pure ⟨rfl,rfl,st,by dsimp only;omega⟩
  ·simp only [c,decide_false,Bool.false_eq_true,if_false]
   refine wpS_bind (tm_el e1 ?_)
   have st:=q3.stepB hfa (k:=j' - 1) (push1 (u:=u) (by omega) e1) (by omega) (by
    rw [last_one (by omega) e1]
    intro x hx z hz
    rw [mem_singleton.mp hz]
    obtain ⟨t,t1,t2,t3⟩:=mem_ti hx
    have:=ord_at ha (show t<=i' - 1 by omega) t3 f1
    omega)
   by_cases c2:(j' - 1==1)=true
   ·rw [if_pos c2]
    exact wpS_pure ⟨rfl,.inl ⟨_,rfl,st.1 (by simpa using c2)⟩⟩
   rw [if_neg c2]
   have st:=st.2 (by simp at c2;omega)
   split
   ·exact wpS_pure ⟨rfl,.inr ⟨rfl,st,by dsimp only;omega⟩⟩
   ·exact wpS_pure ⟨rfl,rfl,st,by dsimp only;omega⟩
 ·rintro ⟨c1,i',j',u,ac,bc⟩ st' ⟨rfl,q2,q3,q4⟩
  dsimp only at q2 q3 q4
  rw [Nat.zero_max] at q4
  exact ⟨rfl,.inr ⟨q2,q3,by dsimp only;omega⟩⟩
 rintro ⟨c1,i1,j1,u,ac,bc⟩ st' ⟨rfl,q⟩
 dsimp only at q ⊢
 rcases q with ⟨r,rfl,q⟩|⟨rfl,q3,q4'⟩
 ·exact wpS_pure ⟨q1,r,rfl,q⟩
 dsimp only
 refine wpS_bind (wpS_lift (wpAny_rule ⟨rfl,?_⟩))
 refine wpS_bind (wpS_mono (wpS_forRange (I:=fun x c st'=>SaM st st'/\c.1=none/\MH rk a b c.2.2.2.1 c.2.1 c.2.2.1/\c.2.1+c.2.2.1<=i1+j1) (Q:=fun c st'=>SaM st st'/\((∃ r,c.1=some r/\Rs rk a b r)\/(c.1=none/\MH rk a b c.2.2.2.1 c.2.1 c.2.2.1/\c.2.1+c.2.2.1<=i1+j1))) ?_ ?_ ⟨q1,rfl,q3,Nat.le_refl _⟩) ?_)
 rotate_left
 ·rintro ⟨c1,i',j',u,mg,ac,bc⟩ st' ⟨p1,p2,p3,p4⟩
  exact ⟨p1,.inr ⟨p2,p3,p4⟩⟩
 ·rintro ⟨c1,i',j',u,mg,ac,bc⟩ st' ⟨p1,p⟩
  dsimp only at p ⊢
  rcases p with ⟨r,rfl,p⟩|⟨rfl,p3,p4⟩
  ·exact wpS_pure ⟨p1,r,rfl,p⟩
  ·refine wpS_bind (tm_smg p1 fun st2 p1=>wpS_pure ⟨p1,rfl,p3,by dsimp only;omega⟩)
 rintro y ⟨c1,i',j',u,mg',ac',bc'⟩ st2 _ hy ⟨p1,p2,p3,p4⟩
 dsimp only at p2 p3 p4 ⊢
 have body:∀ mgx:Nat,wpS (model prog w) A E s (do
   smg' mgx
   let x <- elem' b (j' - 1)
   let y <- gal' false x a 0 i' (i' - 1)
   match y with
   | some q =>
    let jp:=fun (i:Nat) (u:Array Keyed)=>(do
     let x <- elem' b (j' - 1)
     if (j' - 1==1)=true then pure (ForInStep.done (some (b.extract 0 (j' - 1)++a.extract 0 i++(u.push x).reverse),i,j' - 1,u.push x,mgx,i' - q,bc'))
     else do
      let z <- elem' a (i - 1)
      let y <- gal' true z b 0 (j' - 1) (j' - 1 - 1)
      match y with
      | some q2 =>
       let jq:=fun (j:Nat) (u:Array Keyed)=>(do
        let z <- elem' a (i - 1)
        if (i - 1==0)=true then pure (ForInStep.done (some (a.extract 0 (i - 1)++b.extract 0 j++(u.push z).reverse),i - 1,j,u.push z,mgx,i' - q,j' - 1 - q2))
        else if (decide (i' - q < 7)&&decide (j' - 1 - q2 < 7))=true then pure (ForInStep.done (none,i - 1,j,u.push z,mgx,i' - q,j' - 1 - q2))
        else pure (ForInStep.yield (none,i - 1,j,u.push z,mgx,i' - q,j' - 1 - q2)):StateT SortSt Sem (ForInStep (Option (Array Keyed) × Nat × Nat × Array Keyed × Nat × Nat × Nat)))
       if j' - 1 - q2 > 0 then
        if (q2==1)=true then pure (ForInStep.done (some (b.extract 0 q2++a.extract 0 i++(u.push x++(b.extract q2 (j' - 1)).reverse).reverse),i,q2,u.push x++(b.extract q2 (j' - 1)).reverse,mgx,i' - q,j' - 1 - q2))
        else if (q2==0)=true then pure (ForInStep.done (some (a.extract 0 i++b.extract 0 q2++(u.push x++(b.extract q2 (j' - 1)).reverse).reverse),i,q2,u.push x++(b.extract q2 (j' - 1)).reverse,mgx,i' - q,j' - 1 - q2))
        else jq q2 (u.push x++(b.extract q2 (j' - 1)).reverse)
       else jq (j' - 1) (u.push x)
      | _=>pure (ForInStep.done (some (a.extract 0 i++b.extract 0 (j' - 1)++(u.push x).reverse),i,j' - 1,u.push x,mgx,i' - q,bc')):StateT SortSt Sem (ForInStep (Option (Array Keyed) × Nat × Nat × Array Keyed × Nat × Nat × Nat)))
    if i' - q > 0 then
     if (q==0)=true then pure (ForInStep.done (some (a.extract 0 q++b.extract 0 j'++(u++(a.extract q i').reverse).reverse),q,j',u++(a.extract q i').reverse,mgx,i' - q,bc'))
     else jp q (u++(a.extract q i').reverse)
    else jp i' u
   | _=>pure (ForInStep.done (some (a.extract 0 i'++b.extract 0 j'++u.reverse),i',j',u,mgx,ac',bc'))) (fun r st'=>match r with
    | .done c=>SaM st st'/\((∃ r,c.1=some r/\Rs rk a b r)\/(c.1=none/\MH rk a b c.2.2.2.1 c.2.1 c.2.2.1/\c.2.1+c.2.2.1<=i1+j1))
    | .yield c=>SaM st st'/\c.1=none/\MH rk a b c.2.2.2.1 c.2.1 c.2.2.1/\c.2.1+c.2.2.1<=i1+j1) st2:=by
  intro mgx
  refine wpS_bind (tm_smg p1 fun st3 p1=>?_)
  have hk3:kindOf st3=κ:=p1.1.trans hk
  have hia:=p3.ia
  have hjb:=p3.jb
  obtain ⟨bj,e1,e2,e3⟩:=get_l (a:=b) (i:=j' - 1) (by omega)
  refine wpS_bind (tm_el e1 ?_)
  refine wpS_bind (tm_gal P hk3 (sb _ e3) (gal_of ha sa (i:=0) (n:=i') (by omega)) (by omega) fun q hq g1 g2=>?_)
  dsimp only
  have le1:Lq rk (b.toList.take j') ((a.toList.take i').drop q):=fun x hx z hz=>by
   obtain ⟨t,t1,t2,t3⟩:=mem_ti hx
   obtain ⟨t',t4,t5,t6,t7⟩:=mem_td hz
   have:=g2 t' t4 t5
   rw [gF_at (x:=z) (by rw [Nat.zero_add];exact t7)] at this
   unfold Be at this
   simp at this
   have:=ord_at hb (show t<=j' - 1 by omega) t3 e1
   omega
  have jp : ∀ (i : Nat) (u : Array Keyed), MH rk a b u i j' -> i <= i' -> (∀ t, t < i -> ∀ x, a[t]? = some x -> rk x <= rk bj) -> wpS (model prog w) A E s (do
        let x <- elem' b (j' - 1)
        if (j' - 1==1)=true then pure (ForInStep.done (some (b.extract 0 (j' - 1)++a.extract 0 i++(u.push x).reverse),i,j' - 1,u.push x,mgx,i' - q,bc'))
        else do
      let z <- elem' a (i - 1)
      let y <- gal' true z b 0 (j' - 1) (j' - 1 - 1)
      match y with
      | some q2 =>
       if j' - 1 - q2 > 0 then
        if (q2==1)=true then pure (ForInStep.done (some (b.extract 0 q2++a.extract 0 i++(u.push x++(b.extract q2 (j' - 1)).reverse).reverse),i,q2,u.push x++(b.extract q2 (j' - 1)).reverse,mgx,i' - q,j' - 1 - q2))
        else if (q2==0)=true then pure (ForInStep.done (some (a.extract 0 i++b.extract 0 q2++(u.push x++(b.extract q2 (j' - 1)).reverse).reverse),i,q2,u.push x++(b.extract q2 (j' - 1)).reverse,mgx,i' - q,j' - 1 - q2))
        else do
         let z <- elem' a (i - 1)
         if (i - 1==0)=true then pure (ForInStep.done (some (a.extract 0 (i - 1)++b.extract 0 q2++((u.push x++(b.extract q2 (j' - 1)).reverse).push z).reverse),i - 1,q2,(u.push x++(b.extract q2 (j' - 1)).reverse).push z,mgx,i' - q,j' - 1 - q2))
         else if (decide (i' - q < 7)&&decide (j' - 1 - q2 < 7))=true then pure (ForInStep.done (none,i - 1,q2,(u.push x++(b.extract q2 (j' - 1)).reverse).push z,mgx,i' - q,j' - 1 - q2))
         else pure (ForInStep.yield (none,i - 1,q2,(u.push x++(b.extract q2 (j' - 1)).reverse).push z,mgx,i' - q,j' - 1 - q2))
       else do
        let z <- elem' a (i - 1)
        if (i - 1==0)=true then pure (ForInStep.done (some (a.extract 0 (i - 1)++b.extract 0 (j' - 1)++((u.push x).push z).reverse),i - 1,j' - 1,(u.push x).push z,mgx,i' - q,j' - 1 - q2))
        else if (decide (i' - q < 7)&&decide (j' - 1 - q2 < 7))=true then pure (ForInStep.done (none,i - 1,j' - 1,(u.push x).push z,mgx,i' - q,j' - 1 - q2))
        else pure (ForInStep.yield (none,i - 1,j' - 1,(u.push x).push z,mgx,i' - q,j' - 1 - q2))
      | _=>pure (ForInStep.done (some (a.extract 0 i++b.extract 0 (j' - 1)++(u.push x).reverse),i,j' - 1,u.push x,mgx,i' - q,bc')):StateT SortSt Sem (ForInStep (Option (Array Keyed) × Nat × Nat × Array Keyed × Nat × Nat × Nat))) (fun r st'=>match r with
    | .done c=>SaM st st'/\((∃ r,c.1=some r/\Rs rk a b r)\/(c.1=none/\MH rk a b c.2.2.2.1 c.2.1 c.2.2.1/\c.2.1+c.2.2.1<=i1+j1))
    | .yield c=>SaM st st'/\c.1=none/\MH rk a b c.2.2.2.1 c.2.1 c.2.2.1/\c.2.1+c.2.2.1<=i1+j1) st3:=by
   intro i u m hi below
   have mia:=m.ia
   refine wpS_bind (tm_el e1 ?_)
   have sB:=m.stepB hfa (k:=j' - 1) (push1 (u:=u) (by omega) e1) (by omega) (by
    rw [last_one (by omega) e1]
    intro x hx z hz
    rw [mem_singleton.mp hz]
    obtain ⟨t,t1,t2,t3⟩:=mem_ti hx
    exact below t t1 x t3)
   by_cases c2:(j' - 1==1)=true
   ·rw [if_pos c2]
    exact wpS_pure ⟨p1,.inl ⟨_,rfl,sB.1 (by simpa using c2)⟩⟩
   rw [if_neg c2]
   have m2:=sB.2 (by simp at c2;omega)
   have mjb:=m2.jb
   obtain ⟨ai,f1,f2,f3⟩:=get_l (a:=a) (i:=i - 1) (by omega)
   refine wpS_bind (tm_el f1 ?_)
   refine wpS_bind (tm_gal P hk3 (sa _ f3) (gal_of hb sb (i:=0) (n:=j' - 1) (by omega)) (by omega) fun q2 hq2 g3 g4=>?_)
   dsimp only
   have q2pos:1<=q2:=by
    rcases Nat.lt_or_ge 0 q2 with z|z
    ·exact z
    ·exfalso
     obtain ⟨b0,d1,d2,d3⟩:=get_l (a:=b) (i:=0) (by omega)
     have:=g4 0 z (by omega)
     rw [gF_at (x:=b0) (by exact d1)] at this
     unfold Be at this
     simp at this
     have:=hf b0 ai d1 f3
     omega
   have last : ∀ (j : Nat) (u : Array Keyed), MH rk a b u i j -> (∀ t, t < j -> ∀ x, b[t]? = some x -> rk x <= rk ai) -> j < j' -> wpS (model prog w) A E s (do
             let z <- elem' a (i - 1)
             if (i - 1==0)=true then pure (ForInStep.done (some (a.extract 0 (i - 1)++b.extract 0 j++(u.push z).reverse),i - 1,j,u.push z,mgx,i' - q,j' - 1 - q2))
             else if (decide (i' - q < 7)&&decide (j' - 1 - q2 < 7))=true then pure (ForInStep.done (none,i - 1,j,u.push z,mgx,i' - q,j' - 1 - q2))
             else pure (ForInStep.yield (none,i - 1,j,u.push z,mgx,i' - q,j' - 1 - q2)):StateT SortSt Sem (ForInStep (Option (Array Keyed) × Nat × Nat × Array Keyed × Nat × Nat × Nat))) (fun r st'=>match r with
    | .done c=>SaM st st'/\((∃ r,c.1=some r/\Rs rk a b r)\/(c.1=none/\MH rk a b c.2.2.2.1 c.2.1 c.2.2.1/\c.2.1+c.2.2.1<=i1+j1))
    | .yield c=>SaM st st'/\c.1=none/\MH rk a b c.2.2.2.1 c.2.1 c.2.2.1/\c.2.1+c.2.2.1<=i1+j1) st3:=by
    intro j u m above hj
    refine wpS_bind (tm_el f1 ?_)
    have sA:=m.stepA (k:=i - 1) (push1 (u:=u) mia.1 f1) (by omega) (by
     rw [last_one mia.1 f1]
     intro x hx z hz
     rw [mem_singleton.mp hz]
     obtain ⟨t,t1,t2,t3⟩:=mem_ti hx
     exact above t t1 x t3)
    by_cases c3:(i - 1==0)=true
    ·rw [if_pos c3]
     exact wpS_pure ⟨p1,.inl ⟨_,rfl,sA.1 (by simpa using c3)⟩⟩
    rw [if_neg c3]
    have m3:=sA.2 (by simp at c3;omega)
    split
    ·exact wpS_pure ⟨p1,.inr ⟨rfl,m3,by dsimp only;omega⟩⟩
    ·exact wpS_pure ⟨p1,rfl,m3,by dsimp only;omega⟩
   have blw:∀ t,t < q2->∀ x,b[t]?=some x->rk x<=rk ai:=fun t ht x hx=>by
    have:=g3 t ht
    rw [gF_at (x:=x) (by rw [Nat.zero_add];exact hx)] at this
    unfold Be at this
    simp at this
    omega
   by_cases ck:j' - 1 - q2 > 0
   ·rw [if_pos ck]
    have sB2:=m2.stepB hfa (k:=q2) (u':=u.push bj++(b.extract q2 (j' - 1)).reverse) chunk (by omega) (fun x hx z hz=>by
     obtain ⟨t,t1,t2,t3⟩:=mem_ti hx
     obtain ⟨t',t4,t5,t6,t7⟩:=mem_td hz
     have:=g4 t' t4 t5
     rw [gF_at (x:=z) (by rw [Nat.zero_add];exact t7)] at this
     unfold Be at this
     simp at this
     have:=ord_at ha (show t<=i - 1 by omega) t3 f1
     omega)
    by_cases c3:(q2==1)=true
    ·rw [if_pos c3]
     exact wpS_pure ⟨p1,.inl ⟨_,rfl,sB2.1 (by simpa using c3)⟩⟩
    rw [if_neg c3,if_neg (by simp;omega)]
    exact last _ _ (sB2.2 (by simp at c3;omega)) blw (by omega)
   ·rw [if_neg ck]
    exact last _ _ m2 (fun t ht x hx=>blw t (by omega) x hx) (by omega)
  have below:∀ t,t < q->∀ x,a[t]?=some x->rk x<=rk bj:=fun t ht x hx=>by
   have:=g1 t ht
   rw [gF_at (x:=x) (by rw [Nat.zero_add];exact hx)] at this
   unfold Be at this
   simp at this
   exact this
  by_cases ck:i' - q > 0
  ·rw [if_pos ck]
   have sA:=p3.stepA (k:=q) (u':=u++(a.extract q i').reverse) chunk hq le1
   by_cases c2:(q==0)=true
   ·rw [if_pos c2]
    exact wpS_pure ⟨p1,.inl ⟨_,rfl,sA.1 (by simpa using c2)⟩⟩
   rw [if_neg c2]
   exact jp _ _ (sA.2 (by simp at c2;omega)) (by omega) below
  ·rw [if_neg ck]
   exact jp _ _ p3 (Nat.le_refl _) fun t ht x hx=>below t (by omega) x hx
 by_cases cg:mg' > 1
 ·rw [if_pos cg]
  refine wpS_mono (body (mg' - 1)) fun r st' hr=>?_
  cases r with
  | done c=>exact hr
  | yield c=>exact hr
 ·rw [if_neg cg]
  refine wpS_mono (body mg') fun r st' hr=>?_
  cases r with
  | done c=>exact hr
  | yield c=>exact hr
end
def Kr (rk:Keyed->Int) (xs:Array Keyed) (i:Nat):Int:=match xs[i]? with
 | some p=>rk p
 | none=>0
structure Wk (xs ys:Array Keyed) (lo hi:Nat):Prop where
 perm:ys.Perm xs
 keep:∀ i,(i < lo\/hi<=i)->ys[i]?=xs[i]?
section
variable {rk:Keyed->Int} {xs ys zs:Array Keyed} {lo hi i j:Nat}
theorem Wk.refl (xs:Array Keyed) (lo hi:Nat):Wk xs xs lo hi:=⟨Array.Perm.refl _,fun _ _=>rfl⟩
theorem Wk.trans (h:Wk xs ys lo hi) (g:Wk ys zs lo hi):Wk xs zs lo hi:=⟨g.perm.trans h.perm,fun i q=>(g.keep i q).trans (h.keep i q)⟩
theorem Wk.mir (hl:lo<=i) (hj:j<=hi) (hs:j<=xs.size):Wk xs (mirror xs i j ((j - i) / 2)) lo hi:=⟨mirror_perm _ _ _ _,fun t q=>by
 rw [getElem?_mirror_all hs,if_neg (by omega)]⟩
theorem Wk.bub {src d:Nat} (hs:src < xs.size) (hd:d<=src) (hl:lo<=src - d) (hh:src < hi):Wk xs (bubble xs src d) lo hi:=⟨bubble_perm _ _ _,fun t q=>by
 rw [getElem?_bubble hs d hd,if_neg (by omega),if_neg (by omega)]⟩
theorem Kr_at {x:Keyed} (h:xs[i]?=some x):Kr rk xs i=rk x:=by unfold Kr;rw [h]
theorem Kr_eq (h:xs[i]?=ys[j]?):Kr rk xs i=Kr rk ys j:=by unfold Kr;rw [h]
theorem Kr_mir (hj:j<=xs.size) (k:Nat):Kr rk (mirror xs i j ((j - i) / 2)) k=if i<=k/\k < j then Kr rk xs (i+j - 1 - k) else Kr rk xs k:=by
 have e:=getElem?_mirror_all (i:=i) hj k
 split
 ·rw [if_pos ‹_›] at e;exact Kr_eq e
 ·rw [if_neg ‹_›] at e;exact Kr_eq e
theorem Kr_bub {src d:Nat} (hs:src < xs.size) (hd:d<=src) (k:Nat):Kr rk (bubble xs src d) k=if k=src - d then Kr rk xs src else if src - d < k/\k<=src then Kr rk xs (k - 1) else Kr rk xs k:=by
 have e:=getElem?_bubble hs d hd k
 split
 ·rw [if_pos ‹_›] at e;exact Kr_eq e
 ·rw [if_neg ‹_›] at e
  split
  ·rw [if_pos ‹_›] at e;exact Kr_eq e
  ·rw [if_neg ‹_›] at e;exact Kr_eq e
def SoI (rk:Keyed->Int) (xs:Array Keyed) (lo n:Nat):Prop:=∀ i j,lo<=i->i<=j->j < lo+n->Kr rk xs i<=Kr rk xs j
def DsI (rk:Keyed->Int) (xs:Array Keyed) (lo n:Nat):Prop:=∀ i j,lo<=i->i<=j->j < lo+n->Kr rk xs j<=Kr rk xs i
structure Its (rk:Keyed->Int) (S:Keyed->Prop) (xs:Array Keyed):Prop where
 ok:∀ x∈xs.toList,S x
 nd:(xs.toList.map rk).Nodup
theorem Its.perm {S:Keyed->Prop} (h:Its rk S xs) (p:ys.Perm xs):Its rk S ys:=by
 have p:=Array.perm_iff_toList_perm.mp p
 exact ⟨fun x hx=>h.ok x (p.mem_iff.mp hx),(p.map rk).nodup_iff.mpr h.nd⟩
theorem Its.ne {S:Keyed->Prop} (h:Its rk S xs) (hi:i < xs.size) (hj:j < xs.size) (e:i≠j):Kr rk xs i≠Kr rk xs j:=by
 obtain ⟨x,x1,x2,_⟩:=get_l hi
 obtain ⟨y,y1,y2,_⟩:=get_l hj
 rw [Kr_at x1,Kr_at y1]
 intro z
 have g1:(xs.toList.map rk)[i]?=some (rk x):=by rw [List.getElem?_map,x2];rfl
 have g2:(xs.toList.map rk)[j]?=some (rk y):=by rw [List.getElem?_map,y2];rfl
 exact e ((List.getElem?_inj (by rw [length_map,Array.length_toList];exact hi) h.nd).mp (by rw [g1,g2,z]))
end
section
variable {prog:Program} {w:World} {A:Around} {E:Value->Shared->Prop} {s:Shared} {κ:SortKind} {rk:Keyed->Int} {S:Keyed->Prop}
theorem tm_at (P:Pure prog w A s κ rk S) {st:SortSt} {i j:Nat} {Q:Option Bool->SortSt->Prop} (hk:kindOf st=κ) (I:Its rk S (arrOf st)) (hi:i < (arrOf st).size) (hj:j < (arrOf st).size) (h:Q (some (decide (Kr rk (arrOf st) i < Kr rk (arrOf st) j))) st):wpS (model prog w) A E s (ltAt' i j) Q st:=by
 obtain ⟨x,x1,x2,x3⟩:=get_l hi
 obtain ⟨y,y1,y2,y3⟩:=get_l hj
 rw [ltAt'_eq]
 refine wpS_bind (wpS_get ?_)
 refine wpS_bind (tm_el x1 (wpS_bind (tm_el y1 (tm_lt P hk (I.ok x x3) (I.ok y y3) ?_))))
 rw [<-Kr_at (rk:=rk) x1,<-Kr_at (rk:=rk) y1]
 exact h
theorem tm_bin (P:Pure prog w A s κ rk S) {st:SortSt} {lo n ok:Nat} {Q:Bool->SortSt->Prop} (hk:kindOf st=κ) (I:Its rk S (arrOf st)) (hn:lo+n<=(arrOf st).size) (hok:ok<=n) (hs:SoI rk (arrOf st) lo ok)
  (h:∀ ys,Wk (arrOf st) ys lo (lo+n)->SoI rk ys lo n->Q true (setArr st ys)):wpS (model prog w) A E s (binarySort' lo n ok) Q st:=by
 rw [binarySort'_eq]
 refine wpS_bind (wpS_mono (wpS_forRange (I:=fun k c st'=>c=(none,())/\∃ ys,st'=setArr st ys/\Wk (arrOf st) ys lo (lo+n)/\SoI rk ys lo (min k n)) (Q:=fun c st'=>c=(none,())/\∃ ys,st'=setArr st ys/\Wk (arrOf st) ys lo (lo+n)/\SoI rk ys lo n) ?st ?fi ⟨rfl,arrOf st,rfl,Wk.refl _ _ _,fun i j h1 h2 h3=>?ini⟩) ?po)
 case po =>
  rintro c st' ⟨rfl,ys,rfl,w1,w2⟩
  exact wpS_pure (h ys w1 w2)
 case fi =>
  rintro c st' ⟨hc,ys,e,w1,w2⟩
  rw [show min (max (max ok 1) n) n=n by omega] at w2
  exact ⟨hc,ys,e,w1,w2⟩
 case ini =>
  by_cases e:ok=0
  ·obtain rfl:i=j:=by omega
   exact Int.le_refl _
  ·exact hs i j h1 h2 (by omega)
 case st =>
  rintro k c st' hak hkn ⟨rfl,ys,rfl,w1,w2⟩
  rw [show min k n=k by omega] at w2
  have sz:ys.size=(arrOf st).size:=w1.perm.size_eq
  have Iy:=I.perm w1.perm
  refine wpS_bind (wpS_mono (wpS_forRange (I:=fun x c st2=>st2=setArr st ys/\∃ l r,c=(none,l,r)/\l<=r/\r<=k/\r - l<=k - x/\(∀ i,i < l->Kr rk ys (lo+i)<=Kr rk ys (lo+k))/\∀ i,r<=i->i < k->Kr rk ys (lo+k) < Kr rk ys (lo+i))
   (Q:=fun c st2=>st2=setArr st ys/\∃ l r,c=(none,l,r)/\l<=k/\(∀ i,i < l->Kr rk ys (lo+i)<=Kr rk ys (lo+k))/\∀ i,l<=i->i < k->Kr rk ys (lo+k) < Kr rk ys (lo+i)) ?s2 ?f2 ⟨rfl,0,k,rfl,by omega,by omega,by omega,(fun i hi=>by omega),fun i h1 h2=>by omega⟩) ?p2)
  case f2 =>
   rintro c st2 ⟨rfl,l,r,rfl,a1,a2,a3,a4,a5⟩
   obtain rfl:l=r:=by omega
   exact ⟨rfl,l,l,rfl,a2,a4,a5⟩
  case s2 =>
   rintro x c st2 _ hx ⟨rfl,l,r,rfl,a1,a2,a3,a4,a5⟩
   dsimp only
   by_cases e:l ≥ r
   ·rw [if_pos e]
    obtain rfl:l=r:=by omega
    exact wpS_pure ⟨rfl,l,l,rfl,a2,a4,a5⟩
   rw [if_neg e]
   refine wpS_bind (tm_at P hk Iy (show lo+k < ys.size by omega) (show lo+(l+r) / 2 < ys.size by omega) ?_)
   dsimp only
   by_cases c:Kr rk ys (lo+k) < Kr rk ys (lo+(l+r) / 2)
   ·simp only [show Kr rk (arrOf (setArr st ys)) (lo+k) < Kr rk (arrOf (setArr st ys)) (lo+(l+r) / 2) from c,decide_true,if_true]
    refine wpS_pure ⟨rfl,l,(l+r) / 2,rfl,by omega,by omega,by omega,a4,fun i h1 h2=>?_⟩
    have:=w2 (lo+(l+r) / 2) (lo+i) (by omega) (by omega) (by omega)
    omega
   ·simp only [show ¬ Kr rk (arrOf (setArr st ys)) (lo+k) < Kr rk (arrOf (setArr st ys)) (lo+(l+r) / 2) from c,decide_false,Bool.false_eq_true,if_false]
    refine wpS_pure ⟨rfl,(l+r) / 2+1,r,rfl,by omega,by omega,by omega,fun i h1=>?_,a5⟩
    have:=w2 (lo+i) (lo+(l+r) / 2) (by omega) (by omega) (by omega)
    omega
  case p2 =>
   rintro c st2 ⟨rfl,l,r,rfl,a1,a4,a5⟩
   show wpS _ _ _ _ (do moveDown' (lo+k) (lo+l);pure (ForInStep.yield (none,()))) _ _
   rw [moveDown'_eq]
   have d1:lo+k - (lo+l)<=lo+k:=by omega
   refine wpS_bind (wpS_modify (wpS_pure ⟨rfl,bubble ys (lo+k) (lo+k - (lo+l)),rfl,w1.trans (Wk.bub (by omega) d1 (by omega) (by omega)),?_⟩))
   rw [show min (k+1) n=k+1 by omega]
   intro i j h1 h2 h3
   rw [Kr_bub (by omega) d1,Kr_bub (by omega) d1,show lo+k - (lo+k - (lo+l))=lo+l by omega]
   have up:∀ t,lo+l<=t->t < lo+k->Kr rk ys (lo+k) < Kr rk ys t:=fun t t1 t2=>by
    have:=a5 (t - lo) (by omega) (by omega)
    rw [show lo+(t - lo)=t by omega] at this
    exact this
   have dn:∀ t,lo<=t->t < lo+l->Kr rk ys t<=Kr rk ys (lo+k):=fun t t1 t2=>by
    have:=a4 (t - lo) (by omega)
    rw [show lo+(t - lo)=t by omega] at this
    exact this
   repeat' split
   all_goals first
    | (exfalso;omega)
    | exact Int.le_refl _
    | exact dn _ (by omega) (by omega)
    | exact Int.le_of_lt (up _ (by omega) (by omega))
    | exact w2 _ _ (by omega) (by omega) (by omega)
theorem tm_asc (P:Pure prog w A s κ rk S) {st:SortSt} {lo a nrem:Nat} {Q:Option (Option Nat) × Nat->SortSt->Prop} (hk:kindOf st=κ) (I:Its rk S (arrOf st)) (hn:lo+nrem<=(arrOf st).size) (ha:1<=a) (han:a<=nrem) (hs:SoI rk (arrOf st) lo a)
  (h:∀ n,a<=n->n<=nrem->SoI rk (arrOf st) lo n->(n=nrem\/Kr rk (arrOf st) (lo+n) < Kr rk (arrOf st) (lo+n - 1))->Q (none,n) st) :
  wpS (model prog w) A E s (forIn [a:nrem] ((none,a):Option (Option Nat) × Nat) fun _ c=>do
   let x <- ltAt' (lo+c.2) (lo+c.2 - 1)
   match x with
   | some sm=>if sm=true then pure (ForInStep.done (none,c.2)) else pure (ForInStep.yield (none,c.2+1))
   | _=>pure (ForInStep.done (some none,c.2))) Q st:=by
 refine wpS_forRange (I:=fun x c st'=>st'=st/\c=(none,x)/\SoI rk (arrOf st) lo x) ?_ ?_ ⟨rfl,rfl,hs⟩
 ·rintro x c st' h1 h2 ⟨rfl,rfl,h3⟩
  dsimp only
  refine wpS_bind (tm_at P hk I (by omega) (by omega) ?_)
  dsimp only
  by_cases c:Kr rk (arrOf st') (lo+x) < Kr rk (arrOf st') (lo+x - 1)
  ·simp only [c,decide_true,if_true]
   exact wpS_pure (h x h1 (by omega) h3 (.inr c))
  ·simp only [c,decide_false,Bool.false_eq_true,if_false]
   refine wpS_pure ⟨rfl,rfl,fun i j i1 i2 i3=>?_⟩
   by_cases hj:j < lo+x
   ·exact h3 i j i1 i2 hj
   ·obtain rfl:j=lo+x:=by omega
    by_cases hi:i=lo+x
    ·rw [hi];exact Int.le_refl _
    ·have:=h3 i (lo+x - 1) i1 (by omega) (by omega)
     omega
 ·rintro c st' ⟨rfl,rfl,h3⟩
  rw [show max a nrem=nrem by omega] at h3 ⊢
  exact h nrem han (Nat.le_refl _) h3 (.inl rfl)
theorem tm_run (P:Pure prog w A s κ rk S) {st:SortSt} {lo nrem:Nat} {Q:Option Nat->SortSt->Prop} (hk:kindOf st=κ) (I:Its rk S (arrOf st)) (hn:lo+nrem<=(arrOf st).size) (h1:1<=nrem)
  (h:∀ n ys,1<=n->n<=nrem->Wk (arrOf st) ys lo (lo+nrem)->SoI rk ys lo n->Q (some n) (setArr st ys)):wpS (model prog w) A E s (countRun' lo nrem) Q st:=by
 rw [countRun'_eq]
 dsimp only
 have one:SoI rk (arrOf st) lo 1:=fun i j i1 i2 i3=>by
  obtain rfl:i=j:=by omega
  exact Int.le_refl _
 refine wpS_bind (tm_asc P hk I hn (Nat.le_refl _) h1 one fun n n1 n2 n3 n4=>?_)
 dsimp only
 by_cases c1:(n==nrem)=true
 ·rw [if_pos c1]
  exact wpS_pure (h n (arrOf st) n1 n2 (Wk.refl _ _ _) n3)
 rw [if_neg c1]
 have n4:Kr rk (arrOf st) (lo+n) < Kr rk (arrOf st) (lo+n - 1):=by
  rcases n4 with z|z
  ·simp [z] at c1
  ·exact z
 by_cases c2:n > 1
 ·rw [if_pos c2]
  refine wpS_bind (tm_at P hk I (by omega) (by omega) ?_)
  dsimp only
  have le:=n3 lo (lo+n - 1) (Nat.le_refl _) (by omega) (by omega)
  have ne:=I.ne (i:=lo) (j:=lo+n - 1) (by omega) (by omega) (by omega)
  rw [if_pos (by rw [decide_eq_true_eq];omega)]
  exact wpS_pure (h n (arrOf st) n1 n2 (Wk.refl _ _ _) n3)
 rw [if_neg c2]
 obtain rfl:n=1:=by omega
 have n5:1 < nrem:=by simp at c1;omega
 refine wpS_bind (wpS_lift (wpAny_rule ⟨rfl,?_⟩))
 have two:DsI rk (arrOf st) lo 2:=fun i j i1 i2 i3=>by
  by_cases e:i=j
  ·rw [e];exact Int.le_refl _
  ·obtain rfl:i=lo:=by omega
   obtain rfl:j=i+1:=by omega
   rw [show i+1 - 1=i by omega] at n4
   omega
 refine wpS_bind (wpS_mono (wpS_forRange (I:=fun x c st'=>st'=st/\c=(none,x,0)/\DsI rk (arrOf st) lo x) (Q:=fun c st'=>st'=st/\∃ m,c=(none,m,0)/\2<=m/\m<=nrem/\DsI rk (arrOf st) lo m) ?_ ?_ ⟨rfl,rfl,two⟩) ?_)
 ·rintro x c st' x1 x2 ⟨rfl,rfl,x3⟩
  dsimp only
  refine wpS_bind (tm_at P hk I (by omega) (by omega) ?_)
  dsimp only
  by_cases c:Kr rk (arrOf st') (lo+x) < Kr rk (arrOf st') (lo+x - 1)
  ·simp only [c,decide_true,if_true]
   rw [if_neg (by omega)]
   refine wpS_pure ⟨rfl,rfl,fun i j i1 i2 i3=>?_⟩
   by_cases hj:j < lo+x
   ·exact x3 i j i1 i2 hj
   ·obtain rfl:j=lo+x:=by omega
    by_cases hi:i=lo+x
    ·rw [hi];exact Int.le_refl _
    ·have:=x3 i (lo+x - 1) i1 (by omega) (by omega)
     omega
  ·simp only [c,decide_false,Bool.false_eq_true,if_false]
   refine wpS_bind (tm_at P hk I (by omega) (by omega) ?_)
   dsimp only
   have ne:=I.ne (i:=lo+x) (j:=lo+x - 1) (by omega) (by omega) (by omega)
   rw [if_pos (by rw [decide_eq_true_eq];omega)]
   exact wpS_pure ⟨rfl,x,rfl,x1,by omega,x3⟩
 ·rintro c st' ⟨rfl,rfl,x3⟩
  rw [show max (1+1) nrem=nrem by omega] at x3 ⊢
  exact ⟨rfl,nrem,rfl,by omega,Nat.le_refl _,x3⟩
 rintro c st' ⟨rfl,m,rfl,m1,m2,m3⟩
 dsimp only
 rw [if_neg (by omega),reverseSlice'_eq]
 refine wpS_bind (wpS_modify ?_)
 have wk:Wk (arrOf st') (mirror (arrOf st') lo (lo+m) ((lo+m - lo) / 2)) lo (lo+nrem):=Wk.mir (Nat.le_refl _) (by omega) (by omega)
 have up:SoI rk (mirror (arrOf st') lo (lo+m) ((lo+m - lo) / 2)) lo m:=fun i j i1 i2 i3=>by
  rw [Kr_mir (by omega),Kr_mir (by omega),if_pos (by omega),if_pos (by omega)]
  exact m3 _ _ (by omega) (by omega) (by omega)
 refine wpS_bind (tm_asc P (st:=setArr st' (mirror (arrOf st') lo (lo+m) ((lo+m - lo) / 2))) hk (I.perm wk.perm) (by show lo+nrem<=(mirror _ _ _ _).size;rw [mirror_size];exact hn) (by omega) m2 up fun n' a1 a2 a3 a4=>?_)
 exact wpS_pure (h n' _ (by omega) a2 wk a3)
end
theorem mat'_eq (i:Nat):mergeAt' i=(do
 let t <- get
 let (some (sa,na,pw),some (sb,nb,_)):=((pendingOf t)[i]?,(pendingOf t)[i+1]?)|unsupported "internal:list.sort.pending"
 set (SortSt.mk' (kindOf t) (arrOf t) (((pendingOf t).setIfInBounds i (sa,na+nb,pw)).eraseIdxIfInBounds (i+1)) (gallopOf t) (failedOf t))
 let some k <- gal' false (<- elem' (arrOf t) sb) (arrOf t) sa na 0|return false
 let (sa,na):=(sa+k,na - k)
 if na==0 then return true
 let some nb <- gal' true (<- elem' (arrOf t) (sa+na - 1)) (arrOf t) sb nb (nb - 1)|return false
 if nb==0 then return true
 let x:=(arrOf t).extract sa sb
 let y:=(arrOf t).extract sb (sb+nb)
 let r <- if na<=nb then mlo' x y else mhi' x y
 modify fun t=>setArr t (r.toList.zipIdx.foldl (fun c (p,j)=>c.setIfInBounds (sa+j) p) (arrOf t))
 return (failedOf (<- get)).isNone):=rfl
theorem put_all (sa:Nat):∀ (l:List Keyed) (n:Nat) (c:Array Keyed),sa+n+l.length<=c.size->((l.zipIdx n).foldl (fun c (q:Keyed × Nat)=>c.setIfInBounds (sa+q.2) q.1) c).toList=c.toList.take (sa+n)++l++c.toList.drop (sa+n+l.length)
 | [],n,c,_=>by simp
 | x::l,n,c,h=>by
  rw [length_cons] at h
  rw [List.zipIdx_cons,List.foldl_cons,put_all sa l (n+1) _ (by rw [Array.size_setIfInBounds];omega)]
  have e:(c.setIfInBounds (sa+n) x).toList=c.toList.set (sa+n) x:=Array.toList_setIfInBounds ..
  rw [e,length_cons]
  have h1:(c.toList.set (sa+n) x).take (sa+(n+1))=c.toList.take (sa+n)++[x]:=by
   rw [show sa+(n+1)=sa+n+1 by omega,List.take_succ,List.take_set_of_le (Nat.le_refl _),List.getElem?_set_self (by rw [Array.length_toList];omega)]
   rfl
  rw [h1,List.drop_set_of_lt (by omega),show sa+(n+1)+l.length=sa+n+(l.length+1) by omega]
  simp
section
variable {prog:Program} {w:World} {A:Around} {E:Value->Shared->Prop} {s:Shared} {κ:SortKind} {rk:Keyed->Int} {S:Keyed->Prop}
theorem tm_set {st st2:SortSt} {Q:PUnit->SortSt->Prop} (h:Q ⟨⟩ st2):wpS (model prog w) A E s (set st2:StateT SortSt Sem PUnit) Q st:=by
 unfold wpS;rw [StateT.run_set];exact wpAny_pure ⟨rfl,h⟩
theorem soi_sr {xs:Array Keyed} {lo n:Nat} (hn:lo+n<=xs.size):SoI rk xs lo n->Sr rk ((xs.toList.drop lo).take n):=fun h=>by
 unfold Sr
 rw [List.pairwise_iff_getElem]
 intro i j hi hj hij
 rw [length_take,length_drop,Array.length_toList] at hj
 have e:∀ t (ht:t < ((xs.toList.drop lo).take n).length),xs[lo+t]?=some ((xs.toList.drop lo).take n)[t]:=fun t ht=>by
  have ht':=ht
  rw [length_take] at ht'
  have q:=List.getElem?_eq_getElem ht
  rw [List.getElem?_take,if_pos (by omega),List.getElem?_drop,Array.getElem?_toList] at q
  exact q
 have:=h (lo+i) (lo+j) (by omega) (by omega) (by omega)
 rw [Kr_at (e i hi),Kr_at (e j (by rw [length_take,length_drop,Array.length_toList];exact hj))] at this
 exact this
theorem tm_mat (P:Pure prog w A s κ rk S) {st:SortSt} {n1 n2 pw pw2:Nat} {Q:Bool->SortSt->Prop} (hk:kindOf st=κ) (hf0:failedOf st=none) (I:Its rk S (arrOf st)) (hp:pendingOf st=#[(0,n1,pw),(n1,n2,pw2)]) (hn:n1+n2=(arrOf st).size) (h1:1<=n1) (h2:1<=n2) (s1:SoI rk (arrOf st) 0 n1) (s2:SoI rk (arrOf st) n1 n2)
  (h:∀ st',kindOf st'=κ->failedOf st'=none->(pendingOf st').size<=1->(arrOf st').Perm (arrOf st)->Sr rk (arrOf st').toList->Q true st'):wpS (model prog w) A E s (mergeAt' 0) Q st:=by
 rw [mat'_eq]
 refine wpS_bind (wpS_get ?_)
 rw [hp]
 dsimp only
 rw [show (#[(0,n1,pw),(n1,n2,pw2)]:Array (Nat × Nat × Nat))[0]?=some (0,n1,pw) from rfl,show (#[(0,n1,pw),(n1,n2,pw2)]:Array (Nat × Nat × Nat))[0+1]?=some (n1,n2,pw2) from rfl]
 dsimp only
 rw [show ((#[(0,n1,pw),(n1,n2,pw2)]:Array (Nat × Nat × Nat)).setIfInBounds 0 (0,n1+n2,pw)).eraseIdxIfInBounds (0+1)=#[(0,n1+n2,pw)] from by
  rw [Array.eraseIdxIfInBounds_eq,dif_pos (by simp)]
  apply Array.toList_inj.mp
  simp]
 refine wpS_bind (tm_set ?_)
 generalize hst:SortSt.mk' (kindOf st) (arrOf st) #[(0,n1+n2,pw)] (gallopOf st) (failedOf st)=sta
 have ka:kindOf sta=κ:=by rw [<-hst];exact hk
 have fa:failedOf sta=none:=by rw [<-hst];exact hf0
 have aa:arrOf sta=arrOf st:=by rw [<-hst]
 have pa:(pendingOf sta).size<=1:=by rw [<-hst];exact Nat.le_refl 1
 clear hst
 revert hn s1 s2 I h aa
 generalize arrOf st=c
 intro I hn s1 s2 h aa
 obtain ⟨b0,b1,b2,b3⟩:=get_l (a:=c) (i:=n1) (by omega)
 refine wpS_bind (tm_el b1 ?_)
 have S1:Sr rk (c.toList.take n1):=by have:=soi_sr (lo:=0) (n:=n1) (by omega) s1;rwa [List.drop_zero] at this
 have S2:Sr rk (c.toList.drop n1):=by
  have:=soi_sr (lo:=n1) (n:=n2) (by omega) s2
  rwa [List.take_of_length_le (by rw [length_drop,Array.length_toList];omega)] at this
 have kr:∀ {i:Nat} {x:Keyed},c[i]?=some x->Kr rk c i=rk x:=fun e=>Kr_at e
 have G1:Gal rk S false b0 c 0 n1 (gF rk false b0 c 0):=by
  refine ⟨fun t ht=>?_,fun p q hpq hq e=>?_⟩
  ·obtain ⟨x,x1,x2,x3⟩:=get_l (a:=c) (i:=0+t) (by omega)
   exact ⟨x,x1,I.ok x x3,(gF_at x1).symm⟩
  ·obtain ⟨x,x1,_,_⟩:=get_l (a:=c) (i:=0+p) (by omega)
   obtain ⟨y,y1,_,_⟩:=get_l (a:=c) (i:=0+q) (by omega)
   have:=s1 (0+p) (0+q) (by omega) (by omega) (by omega)
   rw [kr x1,kr y1] at this
   rw [gF_at y1] at e
   rw [gF_at x1]
   unfold Be at e ⊢
   simp at e ⊢
   omega
 refine wpS_bind (tm_gal P ka (I.ok _ b3) G1 (by omega) fun k hk1 g1 g2=>?_)
 dsimp only
 rw [Nat.zero_add]
 have lo1:∀ t x,t < k->c[t]?=some x->rk x<=rk b0:=fun t x ht hx=>by
  have:=g1 t ht
  rw [gF_at (x:=x) (by rw [Nat.zero_add];exact hx)] at this
  unfold Be at this
  simp at this
  exact this
 have hi1:∀ t x,k<=t->t < n1->c[t]?=some x->rk b0 < rk x:=fun t x ht htn hx=>by
  have:=g2 t ht htn
  rw [gF_at (x:=x) (by rw [Nat.zero_add];exact hx)] at this
  unfold Be at this
  simp at this
  exact this
 have bs:∀ t x,n1<=t->t < c.size->c[t]?=some x->rk b0<=rk x:=fun t x ht htn hx=>by
  have:=s2 n1 t (Nat.le_refl _) ht (by omega)
  rw [kr b1,kr hx] at this
  exact this
 by_cases c1:(n1 - k==0)=true
 ·rw [if_pos c1]
  refine wpS_pure (h _ ka fa pa (by rw [aa]) ?_)
  rw [aa,<-take_append_drop n1 c.toList]
  refine S1.app S2 fun x hx y hy=>?_
  obtain ⟨t,t1,t2,t3⟩:=mem_ti hx
  obtain ⟨t',t4,t5⟩:=mem_dr hy
  have:=lo1 t x (by simp at c1;omega) t3
  have:=bs _ y (by omega) t4 t5
  omega
 rw [if_neg c1]
 have hkn:k < n1:=by simp at c1;omega
 have e0:k+(n1 - k) - 1=n1 - 1:=by omega
 rw [e0]
 obtain ⟨al,l1,l2,l3⟩:=get_l (a:=c) (i:=n1 - 1) (by omega)
 refine wpS_bind (tm_el l1 ?_)
 have G2:Gal rk S true al c n1 n2 (gF rk true al c n1):=by
  refine ⟨fun t ht=>?_,fun p q hpq hq e=>?_⟩
  ·obtain ⟨x,x1,x2,x3⟩:=get_l (a:=c) (i:=n1+t) (by omega)
   exact ⟨x,x1,I.ok x x3,(gF_at x1).symm⟩
  ·obtain ⟨x,x1,_,_⟩:=get_l (a:=c) (i:=n1+p) (by omega)
   obtain ⟨y,y1,_,_⟩:=get_l (a:=c) (i:=n1+q) (by omega)
   have:=s2 (n1+p) (n1+q) (by omega) (by omega) (by omega)
   rw [kr x1,kr y1] at this
   rw [gF_at y1] at e
   rw [gF_at x1]
   unfold Be at e ⊢
   simp at e ⊢
   omega
 refine wpS_bind (tm_gal P ka (I.ok _ l3) G2 (by omega) fun m hm g3 g4=>?_)
 dsimp only
 have lo2:∀ t x,t < m->c[n1+t]?=some x->rk x < rk al:=fun t x ht hx=>by
  have:=g3 t ht
  rw [gF_at hx] at this
  unfold Be at this
  simpa using this
 have hi2:∀ t x,m<=t->t < n2->c[n1+t]?=some x->rk al<=rk x:=fun t x ht htn hx=>by
  have:=g4 t ht htn
  rw [gF_at hx] at this
  unfold Be at this
  simp at this
  exact this
 have hal:∀ t x,t < n1->c[t]?=some x->rk x<=rk al:=fun t x ht hx=>by
  have:=s1 t (n1 - 1) (by omega) (by omega) (by omega)
  rw [kr hx,kr l1] at this
  exact this
 have hm1:1<=m:=by
  rcases Nat.lt_or_ge 0 m with z|z
  ·exact z
  ·exfalso
   have:=hi2 0 b0 z (by omega) (by rw [Nat.add_zero];exact b1)
   have:=hi1 (n1 - 1) al (by omega) (by omega) l1
   omega
 rw [if_neg (by simp;omega)]
 have ex:(c.extract k n1).toList=(c.toList.take n1).drop k:=ext_q c k n1
 have ey:(c.extract n1 (n1+m)).toList=(c.toList.drop n1).take m:=ext_mid c n1 m
 have hx:∀ x∈(c.extract k n1).toList,∃ t,k<=t/\t < n1/\c[t]?=some x:=fun x hx=>by
  rw [ex] at hx
  obtain ⟨t,t1,t2,t3,t4⟩:=mem_td hx
  exact ⟨t,t1,t2,t4⟩
 have hy:∀ y∈(c.extract n1 (n1+m)).toList,∃ t,t < m/\n1+t < c.size/\c[n1+t]?=some y:=fun y hy=>by
  rw [ey] at hy
  exact mem_tk hy
 have zx:(c.extract k n1).size=n1 - k:=by rw [Array.size_extract];omega
 have zy:(c.extract n1 (n1+m)).size=m:=by rw [Array.size_extract];omega
 have y0:(c.extract n1 (n1+m))[0]?=some b0:=by rw [Array.getElem?_extract,if_pos (by omega),Nat.add_zero];exact b1
 have xl:(c.extract k n1)[(c.extract k n1).size - 1]?=some al:=by rw [zx,Array.getElem?_extract,if_pos (by omega),show k+(n1 - k - 1)=n1 - 1 by omega];exact l1
 have sx:Sr rk (c.extract k n1).toList:=by rw [ex];exact (S1.cut k).2.1
 have sy:Sr rk (c.extract n1 (n1+m)).toList:=by rw [ey];exact (S2.cut m).1
 have okx:∀ x∈(c.extract k n1).toList,S x:=fun x q=>by
  obtain ⟨t,_,_,t3⟩:=hx x q
  exact I.ok x (by rw [<-Array.getElem?_toList] at t3;exact mem_iff_getElem?.mpr ⟨_,t3⟩)
 have oky:∀ y∈(c.extract n1 (n1+m)).toList,S y:=fun y q=>by
  obtain ⟨t,_,_,t3⟩:=hy y q
  exact I.ok y (by rw [<-Array.getElem?_toList] at t3;exact mem_iff_getElem?.mpr ⟨_,t3⟩)
 have fin:∀ r st',SaM sta st'->Rs rk (c.extract k n1) (c.extract n1 (n1+m)) r->wpS (model prog w) A E s (do
   modify fun t=>setArr t (r.toList.zipIdx.foldl (fun c (q:Keyed × Nat)=>c.setIfInBounds (k+q.2) q.1) (arrOf t))
   let t <- get
   pure (failedOf t).isNone) Q st':=by
  intro r st' sm R
  refine wpS_bind (wpS_modify (wpS_bind (wpS_get (wpS_pure ?_))))
  have rl:r.toList.length=n1 - k+m:=by
   rw [R.1.length_eq,length_append,Array.length_toList,Array.length_toList,zx,zy]
  have e2:arrOf st'=c:=sm.2.1.trans aa
  have e3:(r.toList.zipIdx.foldl (fun c (q:Keyed × Nat)=>c.setIfInBounds (k+q.2) q.1) c).toList=c.toList.take k++r.toList++c.toList.drop (n1+m):=by
   have:=put_all k r.toList 0 c (by rw [rl];omega)
   rw [Nat.add_zero,rl,show k+(n1 - k+m)=n1+m by omega] at this
   exact this
  have e4:c.toList=c.toList.take k++((c.extract k n1).toList++(c.extract n1 (n1+m)).toList)++c.toList.drop (n1+m):=by
   rw [ex,ey,append_assoc,append_assoc,<-drop_drop,take_append_drop,<-append_assoc]
   have:c.toList.take k++(c.toList.take n1).drop k=c.toList.take n1:=by
    have q:=take_append_drop k (c.toList.take n1)
    rwa [List.take_take,Nat.min_eq_left (by omega)] at q
   rw [this,take_append_drop]
  have ft:failedOf st'=none:=sm.2.2.2.trans fa
  show Q (failedOf st').isNone _
  rw [ft]
  refine h _ (sm.1.trans ka) ft (by show (pendingOf st').size<=1;rw [sm.2.2.1];exact pa) ?_ ?_
  ·rw [Array.perm_iff_toList_perm]
   show ((r.toList.zipIdx.foldl (fun c (q:Keyed × Nat)=>c.setIfInBounds (k+q.2) q.1) (arrOf st')).toList).Perm c.toList
   rw [e2,e3]
   refine List.Perm.trans ?_ (by rw [<-e4]:(c.toList.take k++((c.extract k n1).toList++(c.extract n1 (n1+m)).toList)++c.toList.drop (n1+m)).Perm c.toList)
   exact List.Perm.append_right _ (List.Perm.append_left _ R.1)
  ·show Sr rk (r.toList.zipIdx.foldl (fun c (q:Keyed × Nat)=>c.setIfInBounds (k+q.2) q.1) (arrOf st')).toList
   rw [e2,e3]
   have rm:∀ z∈r.toList,(∃ t,k<=t/\t < n1/\c[t]?=some z)\/∃ t,t < m/\n1+t < c.size/\c[n1+t]?=some z:=fun z hz=>by
    rcases mem_append.mp (R.1.mem_iff.mp hz) with q|q
    ·exact .inl (hx z q)
    ·exact .inr (hy z q)
   have tp:∀ z∈c.toList.drop (n1+m),rk al<=rk z/\rk b0<=rk z:=fun z hz=>by
    obtain ⟨t,t1,t2⟩:=mem_dr hz
    exact ⟨hi2 (m+t) z (by omega) (by omega) (by rw [<-Nat.add_assoc];exact t2),bs _ z (by omega) t1 t2⟩
   have bt:∀ z∈c.toList.take k,rk z<=rk b0:=fun z hz=>by
    obtain ⟨t,t1,t2,t3⟩:=mem_ti hz
    exact lo1 t z t1 t3
   refine Sr.app (Sr.app ?_ R.2 ?_) ?_ (Lq.app ?_ ?_)
   ·have q:=(S1.cut k).1
    rwa [List.take_take,Nat.min_eq_left (by omega)] at q
   ·intro x qx y qy
    have:=bt x qx
    rcases rm y qy with ⟨t,t1,t2,t3⟩|⟨t,t1,t2,t3⟩
    ·have:=hi1 t y t1 t2 t3
     omega
    ·have:=bs _ y (by omega) t2 t3
     omega
   ·have q:=(S2.cut m).2.1
    rwa [drop_drop] at q
   ·intro x qx y qy
    have:=bt x qx
    have:=(tp y qy).2
    omega
   ·intro x qx y qy
    have:=(tp y qy).1
    rcases rm x qx with ⟨t,t1,t2,t3⟩|⟨t,t1,t2,t3⟩
    ·have:=hal t x t2 t3
     omega
    ·have:=lo2 t x t1 t3
     omega
 by_cases cc:n1 - k<=m
 ·rw [if_pos cc]
  refine wpS_bind (tm_mlo P ka sx sy okx oky (by omega) (by omega) (fun x y q1 q2=>?_) (fun x qx y qy=>?_) fin)
  ·rw [y0] at q1
   cases q1
   obtain ⟨t,t1,t2,t3⟩:=hx y (by rw [<-Array.getElem?_toList] at q2;exact mem_iff_getElem?.mpr ⟨_,q2⟩)
   exact Int.le_of_lt (hi1 t y t1 t2 t3)
  ·rw [xl] at qy
   cases qy
   obtain ⟨t,t1,t2,t3⟩:=hy x qx
   exact lo2 t x t1 t3
 ·rw [if_neg cc]
  refine wpS_bind (tm_mhi P ka sx sy okx oky (by omega) (by omega) (fun x y q1 q2=>?_) (fun x qx y qy=>?_) fin)
  ·rw [y0] at q1
   cases q1
   obtain ⟨t,t1,t2,t3⟩:=hx y q2
   exact hi1 t y t1 t2 t3
  ·rw [xl] at qy
   cases qy
   obtain ⟨t,t1,t2,t3⟩:=hy x qx
   exact Int.le_of_lt (lo2 t x t1 t3)
end
theorem mr_ok {n:Nat} (h:1<=n) (h':n < 128):minRun' n n 0<=n/\n<=2*minRun' n n 0/\1<=minRun' n n 0:=by
 obtain ⟨f,rfl⟩:∃ f,n=f+1:=⟨n - 1,by omega⟩
 rw [minRun'_succ]
 by_cases c:f+1 < 64
 ·rw [if_pos c];omega
 ·rw [if_neg c]
  obtain ⟨g,rfl⟩:∃ g,f=g+1:=⟨f - 1,by omega⟩
  rw [minRun'_succ,if_pos (by omega)]
  omega
section
variable {prog:Program} {w:World} {A:Around} {E:Value->Shared->Prop} {s:Shared} {κ:SortKind} {rk:Keyed->Int} {S:Keyed->Prop}
inductive Rn (rk:Keyed->Int) (κ:SortKind) (c:Array Keyed) (mr:Nat):Nat->SortSt->Prop
 | none {st:SortSt}:kindOf st=κ->failedOf st=none->pendingOf st=#[]->arrOf st=c->Rn rk κ c mr 0 st
 | one {st:SortSt} {n1:Nat}:kindOf st=κ->failedOf st=none->pendingOf st=#[(0,n1,0)]->(arrOf st).Perm c->SoI rk (arrOf st) 0 n1->mr<=n1->1<=n1->n1<=c.size->Rn rk κ c mr n1 st
 | two {st:SortSt} {n1 pw:Nat}:kindOf st=κ->failedOf st=none->pendingOf st=#[(0,n1,pw),(n1,c.size - n1,0)]->(arrOf st).Perm c->SoI rk (arrOf st) 0 n1->SoI rk (arrOf st) n1 (c.size - n1)->1<=n1->n1 < c.size->Rn rk κ c mr c.size st
theorem tm_sort (P:Pure prog w A s κ rk S) {st:SortSt} {Q:Unit->SortSt->Prop} (hk:kindOf st=κ) (hf:failedOf st=none) (hp:pendingOf st=#[]) (I:Its rk S (arrOf st)) (h1:1<=(arrOf st).size) (h128:(arrOf st).size < 128)
  (h:∀ st',failedOf st'=none->(arrOf st').Perm (arrOf st)->Sr rk (arrOf st').toList->Q () st'):wpS (model prog w) A E s sortRuns' Q st:=by
 rw [sortRuns'_eq]
 refine wpS_bind (wpS_get ?_)
 dsimp only
 generalize hc:arrOf st=c at I h1 h128 h
 obtain ⟨m1,m2,m3⟩:=mr_ok h1 h128
 revert m1 m2 m3
 generalize minRun' c.size c.size 0=mr
 intro m1 m2 m3
 refine wpS_bind (wpS_mono (wpS_forRange (I:=fun x z st'=>z.1=none/\Rn rk κ c mr z.2 st'/\(x=0/\z.2=0\/1<=x/\1<=z.2)/\(2<=x->z.2=c.size)) (Q:=fun z st'=>z.1=none/\∃ lo,lo=c.size/\Rn rk κ c mr lo st') ?_ ?_ ⟨rfl,.none hk hf hp hc,.inl ⟨rfl,rfl⟩,fun z=>by omega⟩) ?_)
 ·rintro x ⟨z1,lo⟩ st' _ hx ⟨rfl,R,x1,x2⟩
  dsimp only at R x1 x2 ⊢
  by_cases cl:lo ≥ c.size
  ·rw [if_pos cl]
   have:lo=c.size:=by
    cases R with
    | none=>omega
    | one _ _ _ _ _ _ _ e=>omega
    | two=>rfl
   exact wpS_pure ⟨rfl,lo,this,R⟩
  rw [if_neg cl]
  cases R with
  | two=>exact absurd (Nat.le_refl _) cl
  | none a1 a2 a3 a4 =>
   have Ia:Its rk S (arrOf st'):=by rw [a4];exact I
   have hx0:x=0:=by rcases x1 with z|z<;>omega
   refine wpS_bind (tm_run P a1 Ia (by rw [a4];omega) (by omega) fun n ys n1 n2 w1 w2=>?_)
   dsimp only
   rw [Nat.sub_zero] at n2
   have put:∀ (N:Nat) (zs:Array Keyed),mr<=N->1<=N->N<=c.size->zs.Perm c->SoI rk zs 0 N->Rn rk κ c mr (0+N) (setPending (setArr st' zs) ((pendingOf (setArr st' zs)).push (0,N,0))):=fun N zs b1 b2 b3 b4 b5=>by
    rw [Nat.zero_add]
    refine .one a1 a2 ?_ b4 b5 b1 b2 b3
    show (pendingOf st').push (0,N,0)=_
    rw [a3];rfl
   have bk:∀ zs:Array Keyed,(pendingOf (setArr st' zs)).back?=none:=fun zs=>by
    show (pendingOf st').back?=none
    rw [a3];rfl
   by_cases cm:n < mr
   ·rw [if_pos cm]
    refine wpS_bind (wpS_lift (wpAny_rule ⟨rfl,?_⟩))
    have mn:min (c.size - 0) mr=mr:=by omega
    rw [mn]
    have zy:ys.size=c.size:=by rw [w1.perm.size_eq,a4]
    refine wpS_bind (tm_bin P (st:=setArr st' ys) a1 (Ia.perm w1.perm) (show 0+mr<=ys.size by omega) (by omega) w2 fun zs w3 w4=>?_)
    rw [if_neg (by simp)]
    refine wpS_bind (wpS_get ?_)
    rw [show (pendingOf (setArr (setArr st' ys) zs)).back?=none from bk zs]
    dsimp only
    have p1:zs.Perm c:=(w3.perm.trans w1.perm).trans (by rw [a4])
    exact wpS_bind (wpS_modify (wpS_pure ⟨rfl,put mr zs (Nat.le_refl _) m3 m1 p1 w4,.inr ⟨by omega,by dsimp only;omega⟩,fun z=>by omega⟩))
   ·rw [if_neg cm]
    refine wpS_bind (wpS_get ?_)
    rw [bk ys]
    dsimp only
    have p1:ys.Perm c:=w1.perm.trans (by rw [a4])
    exact wpS_bind (wpS_modify (wpS_pure ⟨rfl,put n ys (by omega) n1 n2 p1 w2,.inr ⟨by omega,by dsimp only;omega⟩,fun z=>by omega⟩))
  | one a1 a2 a3 a4 a5 a6 a7 a8 =>
   rename_i n1
   have Ia:Its rk S (arrOf st'):=I.perm a4
   have za:(arrOf st').size=c.size:=a4.size_eq
   refine wpS_bind (tm_run P a1 Ia (by omega) (by omega) fun n ys b1 b2 w1 w2=>?_)
   dsimp only
   have keep1:∀ zs:Array Keyed,Wk (arrOf st') zs lo (lo+(c.size - lo))->SoI rk zs 0 lo:=fun zs wk i j i1 i2 i3=>by
    rw [Kr_eq (ys:=arrOf st') (j:=i) (wk.keep i (.inl (by omega))),Kr_eq (xs:=zs) (ys:=arrOf st') (j:=j) (wk.keep j (.inl (by omega)))]
    exact a5 i j i1 i2 i3
   have put:∀ (zs:Array Keyed) (pw:Nat),Wk (arrOf st') zs lo (lo+(c.size - lo))->SoI rk zs lo (c.size - lo)->Rn rk κ c mr (lo+(c.size - lo)) (setPending (setPending (setArr st' zs) #[(0,lo,pw)]) (#[(0,lo,pw)].push (lo,c.size - lo,0))):=fun zs pw wk so=>by
    rw [show lo+(c.size - lo)=c.size by omega]
    exact .two a1 a2 rfl (wk.perm.trans a4) (keep1 zs wk) so a7 (by omega)
   by_cases cm:n < mr
   ·rw [if_pos cm]
    refine wpS_bind (wpS_lift (wpAny_rule ⟨rfl,?_⟩))
    have mn:min (c.size - lo) mr=c.size - lo:=by omega
    have zy:ys.size=c.size:=by rw [w1.perm.size_eq,za]
    rw [mn]
    refine wpS_bind (tm_bin P (st:=setArr st' ys) a1 (Ia.perm w1.perm) (show lo+(c.size - lo)<=ys.size by omega) b2 w2 fun zs w3 w4=>?_)
    rw [if_neg (by simp)]
    refine wpS_bind (wpS_get ?_)
    rw [show pendingOf (setArr (setArr st' ys) zs)=#[(0,lo,0)] from a3,show (#[(0,lo,0)]:Array (Nat × Nat × Nat)).back?=some (0,lo,0) from rfl]
    dsimp only
    refine wpS_bind (wpS_mono (wpS_forRange (I:=fun _ z st2=>st2=(setArr (setArr st' ys) zs)/\z=(none,())) (Q:=fun z st2=>st2=(setArr (setArr st' ys) zs)/\z=(none,())) ?_ (fun _ _ q=>q) ⟨rfl,rfl⟩) ?_)
    ·rintro y z st2 _ _ ⟨rfl,rfl⟩
     refine wpS_bind (wpS_get ?_)
     rw [show pendingOf (setArr (setArr st' ys) zs)=#[(0,lo,0)] from a3,if_neg (by show ¬ 1 > 1;omega)]
     exact wpS_pure ⟨rfl,rfl⟩
    ·rintro z st2 ⟨rfl,rfl⟩
     dsimp only
     refine wpS_bind (wpS_modify (wpS_bind (wpS_modify (wpS_pure ?_))))
     have em:∀ f:Nat × Nat × Nat->Nat × Nat × Nat,(pendingOf (setArr (setArr st' ys) zs)).modify ((pendingOf (setArr (setArr st' ys) zs)).size - 1) f=#[f (0,lo,0)]:=fun f=>by
      rw [show pendingOf (setArr (setArr st' ys) zs)=#[(0,lo,0)] from a3];rfl
     rw [em]
     exact ⟨rfl,put zs _ (w1.trans w3) w4,.inr ⟨by omega,by dsimp only;omega⟩,fun z=>by dsimp only;omega⟩
   ·rw [if_neg cm]
    obtain rfl:n=c.size - lo:=by omega
    refine wpS_bind (wpS_get ?_)
    rw [show pendingOf (setArr st' ys)=#[(0,lo,0)] from a3,show (#[(0,lo,0)]:Array (Nat × Nat × Nat)).back?=some (0,lo,0) from rfl]
    dsimp only
    refine wpS_bind (wpS_mono (wpS_forRange (I:=fun _ z st2=>st2=(setArr st' ys)/\z=(none,())) (Q:=fun z st2=>st2=(setArr st' ys)/\z=(none,())) ?_ (fun _ _ q=>q) ⟨rfl,rfl⟩) ?_)
    ·rintro y z st2 _ _ ⟨rfl,rfl⟩
     refine wpS_bind (wpS_get ?_)
     rw [show pendingOf (setArr st' ys)=#[(0,lo,0)] from a3,if_neg (by show ¬ 1 > 1;omega)]
     exact wpS_pure ⟨rfl,rfl⟩
    ·rintro z st2 ⟨rfl,rfl⟩
     dsimp only
     refine wpS_bind (wpS_modify (wpS_bind (wpS_modify (wpS_pure ?_))))
     have em:∀ f:Nat × Nat × Nat->Nat × Nat × Nat,(pendingOf (setArr st' ys)).modify ((pendingOf (setArr st' ys)).size - 1) f=#[f (0,lo,0)]:=fun f=>by
      rw [show pendingOf (setArr st' ys)=#[(0,lo,0)] from a3];rfl
     rw [em]
     exact ⟨rfl,put ys _ w1 w2,.inr ⟨by omega,by dsimp only;omega⟩,fun z=>by dsimp only;omega⟩
 ·rintro ⟨z1,lo⟩ st' ⟨rfl,R,x1,x2⟩
  dsimp only at R x1 x2 ⊢
  rw [Nat.zero_max] at x1 x2
  have:lo=c.size:=by
   cases R with
   | none=>omega
   | one _ _ _ _ _ _ _ e =>
    rcases Nat.lt_or_ge c.size 2 with z|z
    ·omega
    ·exact x2 z
   | two=>rfl
  exact ⟨rfl,lo,this,R⟩
 rintro ⟨z1,lo'⟩ st' ⟨q1,lo,el,R⟩
 dsimp only at q1 ⊢
 subst q1
 dsimp only
 refine wpS_bind (wpS_mono (wpS_forRange (I:=fun x z st2=>z=(none,())/\((st2=st'/\x=0)\/(failedOf st2=none/\(pendingOf st2).size<=1/\(arrOf st2).Perm c/\Sr rk (arrOf st2).toList))) (Q:=fun z st2=>z=(none,())/\failedOf st2=none/\(arrOf st2).Perm c/\Sr rk (arrOf st2).toList) ?_ ?_ ⟨rfl,.inl ⟨rfl,rfl⟩⟩) ?_)
 ·rintro x z st2 _ hx ⟨rfl,q⟩
  refine wpS_bind (wpS_get ?_)
  rcases q with ⟨rfl,rfl⟩|⟨q1,q2,q3,q4⟩
  ·cases R with
   | none=>omega
   | one a1 a2 a3 a4 a5 a6 a7 a8 =>
    rw [a3,if_pos (by show 1<=1;omega)]
    have za:=a4.size_eq
    refine wpS_pure ⟨rfl,a2,a4,?_⟩
    rw [el] at a5
    have:=soi_sr (lo:=0) (n:=c.size) (by omega) a5
    rwa [List.drop_zero,<-za,<-Array.length_toList,take_length] at this
   | two a1 a2 a3 a4 a5 a6 a7 a8 =>
    rename_i n1 pw
    rw [a3,if_neg (by show ¬ 2<=1;omega)]
    have za:=a4.size_eq
    show wpS (model prog w) A E s (do let q <- mergeAt' 0;if (!q)=true then pure (ForInStep.done (some (),())) else pure (ForInStep.yield (none,()))) _ _
    refine wpS_bind (tm_mat P a1 a2 (I.perm a4) a3 (by omega) a7 (by omega) a5 a6 fun st3 c1 c2 c3 c4 c5=>?_)
    rw [if_neg (by simp)]
    exact wpS_pure ⟨rfl,.inr ⟨c2,c3,c4.trans a4,c5⟩⟩
  ·rw [if_pos q2]
   exact wpS_pure ⟨rfl,q1,q3,q4⟩
 ·rintro z st2 ⟨rfl,q⟩
  rcases q with ⟨_,q⟩|⟨q1,q2,q3,q4⟩
  ·rw [Nat.zero_max] at q;omega
  ·exact ⟨rfl,q1,q3,q4⟩
 ·rintro z st2 ⟨rfl,q1,q3,q4⟩
  exact wpS_pure (h _ q1 q3 q4)
end
open PySem.Spec PySem.W PySem.Calls
section
variable {prog:Program} {w:World} {A:Around} {E:Value->Shared->Prop} {s:Shared} {vs:List Value} {rk:Keyed->Int} {S:Keyed->Prop}
structure AskP (prog:Program) (w:World) (A:Around) (vs:List Value) (rk:Keyed->Int) (S:Keyed->Prop) (s:Shared):Prop where
 kind:2<=vs.length->∀ Q:SortKind->Shared->Prop,Q oneType' s->wpAny (model prog w) A (keyKind' vs.toArray) Q (fun _ _=>False) s
 pure:Pure prog w A s oneType' rk S
theorem prs_list (vs:List Value):(vs.toArray.zip vs.toArray).toList=vs.map fun v=>(v,v):=by
 rw [Array.toList_zip]
 show vs.zip vs=_
 induction vs with
 | nil=>rfl
 | cons v r ih=>rw [List.zip_cons_cons,ih];rfl
def UpV (rk:Keyed->Int) (out:List Value):Prop:=out.Pairwise fun x y=>rk (x,x)<=rk (y,y)
theorem tim_list {a:Addr} {n:Nat} {P:PySem.Fin->Shared->Prop} (ho:s.heap.get? a=some (seqObj "list" vs.toArray n)) (h128:vs.length < 128) (I:Its rk S (vs.toArray.zip vs.toArray))
  (hA:∀ h',(∀ b o,b≠a->s.heap.get? b=some o->h'.get? b=some o)->AskP prog w A vs rk S { s with heap:=h' })
  (h:∀ out:List Value,out.Perm vs->UpV rk out->P (.done (.ret .none)) { s with heap:=sortedHeap s.heap a vs out.toArray }):wpAny (model prog w) A (Builtin.«list.sort» ⟨[.ref a],[]⟩) P E s:=by
 have ha:a < s.heap.objs.size:=Heap.lt_size ho
 obtain ⟨c1,oc⟩:∃ c,(s.heap.update a (Obj.mapSeq fun _=>(#[]:Array Value))).get? a=some (seqObj "list" #[] c):=⟨_,get?_update_seq ho fun _=>#[]⟩
 have keep:∀ b o,b≠a->s.heap.get? b=some o->(((s.heap.update a (Obj.mapSeq fun _=>(#[]:Array Value))).push (seqObj "tuple" vs.toArray 0)).push (seqObj "list" #[] 0)).get? b=some o:=fun b o hb q=>by
  have hlt:b < s.heap.objs.size:=Heap.lt_size q
  refine Heap.get?_push_of_some _ (Heap.get?_push_of_some _ ?_)
  rw [Heap.get?_update_ne _ _ _ _ hb];exact q
 have o6:=Heap.get?_push_of_some (seqObj "list" #[] 0) (Heap.get?_push_of_some (seqObj "tuple" vs.toArray 0) oc)
 have ask:=hA _ keep
 rw [list_sort_plain]
 refine wpAny_bind (listItems_at ho rfl ?_)
 refine wpAny_bind (listUpdate_at ho rfl ?_ (by rw [size_toArray,sizeLine_eq];omega) (Nat.zero_le _))
 refine wpAny_bind (seqEpoch_at oc rfl ?_)
 refine wpAny_bind (wpAny_newTuple ?_ (by show vs.length<=_;rw [sizeLine_eq];omega))
 refine wpAny_bind (wpAny_newList ?_ (Nat.zero_le _))
 refine wpAny_holding ?_
 show wpAny (model prog w) A _ P E { s with heap:=((s.heap.update a (Obj.mapSeq fun _=>(#[]:Array Value))).push (seqObj "tuple" vs.toArray 0)).push (seqObj "list" #[] 0) }
 dsimp only
 have hsz:vs.toArray.size=vs.length:=by simp
 by_cases h2:vs.length < 2
 ·have e2:vs.toArray.size < 2:=by rw [hsz];exact h2
  have eo:((vs.toArray.zip vs.toArray).map (·.2))=vs.toArray:=by
   apply Array.toList_inj.mp
   rw [Array.toList_map,prs_list,map_map]
   exact List.map_id _
  rw [if_pos e2,if_pos e2]
  refine wpAny_bind (wpAny_pure ?_)
  rw [StateT.run_pure]
  refine wpAny_bind (wpAny_pure ?_)
  dsimp only
  show wpAny (model prog w) A _ P E _
  refine wpAny_bind (seqEpoch_at o6 rfl ?_)
  have ea:(arrOf (SortSt.mk' general' (vs.toArray.zip vs.toArray) #[] 7 none)).map (·.2)=vs.toArray:=eo
  rw [ea]
  refine wpAny_bind (listUpdate_at o6 rfl ?_ (Nat.zero_le _) (by rw [hsz,sizeLine_eq];omega))
  simp only [bne_self_eq_false,Bool.false_eq_true,if_false]
  refine wpAny_pure (h vs (.refl _) ?_)
  match vs,h2 with
  | [],_=>exact .nil
  | [x],_=>exact List.pairwise_singleton _ _
 ·have e2:¬ vs.toArray.size < 2:=by rw [hsz];exact h2
  rw [if_neg e2,if_neg e2]
  refine wpAny_bind (wpAny_mono (ask.kind (by omega) (fun κ' s'=>κ'=oneType'/\s'=_) ⟨rfl,rfl⟩) (fun κ' s' hk=>?_) fun _ _ x=>x.elim)
  obtain ⟨rfl,rfl⟩:=hk
  have zs:(vs.toArray.zip vs.toArray).size=vs.length:=by rw [<-Array.length_toList,prs_list,length_map]
  have run:=tm_sort (E:=E) (Q:=fun _ st'=>failedOf st'=none/\((arrOf st').map (·.2)).toList.Perm vs/\UpV rk ((arrOf st').map (·.2)).toList) ask.pure (st:=SortSt.mk' oneType' (vs.toArray.zip vs.toArray) #[] 7 none) rfl rfl rfl I (show 1<=(vs.toArray.zip vs.toArray).size by omega) (show (vs.toArray.zip vs.toArray).size < 128 by omega) fun st' f1 f2 f3=>by
   have p:=Array.perm_iff_toList_perm.mp f2
   have p:(arrOf st').toList.Perm (vs.map fun v=>(v,v)):=by rw [<-prs_list];exact p
   have dup:∀ q∈(arrOf st').toList,q=(q.2,q.2):=fun q hq=>by
    obtain ⟨v,_,rfl⟩:=mem_map.mp (p.mem_iff.mp hq)
    rfl
   refine ⟨f1,?_,?_⟩
   ·rw [Array.toList_map]
    have:=p.map (·.2)
    rwa [map_map,show ((fun q:Keyed=>q.2) ∘ fun v:Value=>(v,v))=id from rfl,List.map_id] at this
   ·rw [Array.toList_map]
    unfold UpV
    rw [List.pairwise_map]
    refine List.Pairwise.imp_of_mem (fun {x y} hx hy hxy=>?_) f3
    rw [<-dup x hx,<-dup y hy]
    exact hxy
  refine wpAny_bind (wpAny_mono run ?_ fun _ _ e=>e)
  rintro ⟨⟨⟩,st'⟩ s' ⟨rfl,b1,b2,b3⟩
  dsimp only at b1 b2 b3 ⊢
  refine wpAny_bind (seqEpoch_at o6 rfl ?_)
  refine wpAny_bind (listUpdate_at o6 rfl ?_ (Nat.zero_le _) (by rw [<-Array.length_toList,b2.length_eq,sizeLine_eq];omega))
  rw [b1]
  simp only [bne_self_eq_false,Bool.false_eq_true,if_false]
  have:=h ((arrOf st').map (·.2)).toList b2 b3
  rw [Array.toArray_toList] at this
  exact wpAny_pure this
theorem tim_src {l d:Addr} {T:String} {n:Nat} {P:Nat->Value->Prop} {OK:Heap->Prop} {Q:Value->Shared->Prop} (K:KdlSrc prog w T l d n P OK) (hh:A.handled=none) (hok:OK s.heap) (hn:n < 128) (hv:∀ ws:List Value,ItemsOf P ws.toArray n->ws=vs) (h128:vs.length < 128) (I:Its rk S (vs.toArray.zip vs.toArray))
  (hA:∀ h' tk,AskP prog w A.in1.in1 vs rk S { s with heap:=h',toks:=tk })
  (h:∀ (out:List Value) h' tk L e,out.Perm vs->UpV rk out->(∀ b o,s.heap.get? b=some o->h'.get? b=some o)->s.heap.objs.size<=L->h'.get? L=some (seqObj "list" out.toArray e)->Q (.ref L) { s with heap:=h',toks:=tk }):wpAny (model prog w) A (call (.builtin "sorted") [.ref l]) Q E s:=by
 refine Calls.call_function_entry kind_sorted plain_sorted entry_sorted (args_sorted1 _) ?_
 unfold Builtin.«sorted»
 refine wpAny_bind (m:=checkCount "sorted" 1 1 _) (wpAny_pure ?_)
 refine wpAny_bind (collect_src (A:=A.in1) K hh hok (by rw [sizeLine_eq];omega) fun h1 tk ws k1 sz hi=>?_)
 have e:=hv ws hi
 subst e
 refine wpAny_bind (wpAny_newList ?_ (by rw [sizeLine_eq];omega))
 have hoL:(h1.push (seqObj "list" ws.toArray 0)).get? h1.objs.size=some (seqObj "list" ws.toArray 0):=Heap.get?_push_size _ rfl
 have keep:∀ b o,s.heap.get? b=some o->(h1.push (seqObj "list" ws.toArray 0)).get? b=some o:=fun b o q=>Heap.get?_push_of_some _ (k1 b o q)
 have lt1:∀ b o,s.heap.get? b=some o->b≠h1.objs.size:=fun b o q=>Nat.ne_of_lt (Heap.lt_size (k1 b o q))
 refine wpAny_bind (wpAny_holding (wpAny_call_entry slot_list_sort ⟨_,hoL,rfl⟩ entry_list_sort ?body (args_list_sort _)))
 case body =>
  refine tim_list (rk:=rk) (S:=S) (s:={ s with heap:=h1.push (seqObj "list" ws.toArray 0),toks:=tk }) hoL h128 I (fun h' k=>hA h' tk) fun out p1 p2=>?_
  refine ⟨_,rfl,wpAny_pure ⟨_,rfl,?_⟩⟩
  obtain ⟨e,he⟩:=sortedHeap_at (vs:=ws) (out:=out.toArray) hoL
  exact h out _ tk h1.objs.size e p1 p2 (fun b o q=>sortedHeap_old (lt1 b o q) (keep b o q)) sz he
theorem tim_call {l:Addr} {Q:Value->Shared->Prop} (hl:s.heap.IsList l vs.toArray) (h128:vs.length < 128) (I:Its rk S (vs.toArray.zip vs.toArray))
  (hA:∀ h',AskP prog w A.in1.in1 vs rk S { s with heap:=h' })
  (h:∀ (out:List Value) h' L e,out.Perm vs->UpV rk out->(∀ b o,s.heap.get? b=some o->h'.get? b=some o)->s.heap.objs.size<=L->h'.get? L=some (seqObj "list" out.toArray e)->Q (.ref L) { s with heap:=h' }):wpAny (model prog w) A (call (.builtin "sorted") [.ref l]) Q E s:=by
 refine Calls.call_function_entry kind_sorted plain_sorted entry_sorted (args_sorted1 _) ?_
 unfold Builtin.«sorted»
 refine wpAny_bind (m:=checkCount "sorted" 1 1 _) (wpAny_pure ?_)
 refine wpAny_bind (collect_list hl ?_ (by rw [sizeLine_eq];omega))
 refine wpAny_bind (wpAny_newList ?_ (by rw [sizeLine_eq];omega))
 have hsz:((s.heap.push (seqObj "list" #[] 0)).update s.heap.objs.size (Obj.mapSeq (·++vs.toArray))).objs.size=s.heap.objs.size+1:=by
  rw [Heap.size_update,size_push']
 have hoL:(((s.heap.push (seqObj "list" #[] 0)).update s.heap.objs.size (Obj.mapSeq (·++vs.toArray))).push (seqObj "list" vs.toArray 0)).get? (s.heap.objs.size+1)=some (seqObj "list" vs.toArray 0):=by
  rw [<-hsz];exact Heap.get?_push_size _ rfl
 have keep:∀ b o,s.heap.get? b=some o->(((s.heap.push (seqObj "list" #[] 0)).update s.heap.objs.size (Obj.mapSeq (·++vs.toArray))).push (seqObj "list" vs.toArray 0)).get? b=some o:=fun b o q=>by
  have hlt:b < s.heap.objs.size:=Heap.lt_size q
  refine Heap.get?_push_of_some _ ?_
  rw [Heap.get?_update_ne _ _ _ _ (Nat.ne_of_lt hlt)]
  exact Heap.get?_push_of_some _ q
 show wpAny _ _ _ _ _ { s with heap:=((s.heap.push (seqObj "list" #[] 0)).update s.heap.objs.size (Obj.mapSeq (·++vs.toArray))).push (seqObj "list" vs.toArray 0) }
 rw [hsz]
 refine wpAny_bind (wpAny_holding (wpAny_call_entry slot_list_sort ⟨_,hoL,rfl⟩ entry_list_sort ?body (args_list_sort _)))
 case body =>
  refine tim_list (rk:=rk) (S:=S) (s:={ s with heap:=((s.heap.push (seqObj "list" #[] 0)).update s.heap.objs.size (Obj.mapSeq (·++vs.toArray))).push (seqObj "list" vs.toArray 0) }) hoL h128 I (fun h' k=>hA h') fun out p1 p2=>?_
  refine ⟨_,rfl,wpAny_pure ⟨_,rfl,?_⟩⟩
  obtain ⟨e,he⟩:=sortedHeap_at (vs:=vs) (out:=out.toArray) hoL
  exact h out _ _ e p1 p2 (fun b o q=>sortedHeap_old (Nat.ne_of_lt (Nat.lt_succ_of_lt (Heap.lt_size q))) (keep b o q)) (Nat.le_succ _) he
end
def ltS (a b:Str):Prop:=a.cps.toList < b.cps.toList
instance (a b:Str):Decidable (ltS a b):=inferInstanceAs (Decidable (a.cps.toList < b.cps.toList))
theorem ltS.trans {a b c:Str} (h:ltS a b) (g:ltS b c):ltS a c:=List.lt_trans h g
theorem ltS.irr (a:Str):¬ ltS a a:=List.lt_irrefl _
theorem ltS.tri {a b:Str} (h:¬ ltS a b) (ne:a≠b):ltS b a:=by
 rcases List.le_iff_lt_or_eq.mp (List.not_lt.mp h) with z|z
 ·exact z
 ·exact absurd (Str.ext' (Array.toList_inj.mp z)).symm ne
def txt:Value->Str
 | .str x _=>x
 | _=>⟨#[]⟩
def rkS (ts:List Str) (p:Keyed):Int:=(ts.countP fun y=>decide (ltS y (txt p.1)):Nat)
def SS (ts:List Str) (p:Keyed):Prop:=∃ x t,p.1=.str x t/\x∈ts
theorem cnt_lt {ts:List Str} {x y:Str} (hx:x∈ts) (h:ltS x y):(ts.countP fun z=>decide (ltS z x)) < ts.countP fun z=>decide (ltS z y):=by
 induction ts with
 | nil=>cases hx
 | cons t ts ih =>
  have le:(ts.countP fun z=>decide (ltS z x))<=ts.countP fun z=>decide (ltS z y):=List.countP_mono_left fun z _ q=>by
   simp only [decide_eq_true_eq] at q ⊢
   exact q.trans h
  rw [List.countP_cons,List.countP_cons]
  rcases mem_cons.mp hx with rfl|hx
  ·rw [if_neg (by simp [ltS.irr]),if_pos (by simpa using h)]
   omega
  ·have:=ih hx
   split
   ·rename_i q
    rw [if_pos (by simp only [decide_eq_true_eq] at q ⊢;exact q.trans h)]
    omega
   ·split<;>omega
theorem rk_dec {ts:List Str} {p q:Keyed} (hp:SS ts p) (hq:SS ts q):decide (rkS ts p < rkS ts q)=decide (ltS (txt p.1) (txt q.1)):=by
 obtain ⟨x,t,e1,m1⟩:=hp
 obtain ⟨y,u,e2,m2⟩:=hq
 unfold rkS
 rw [e1,e2]
 show decide (((ts.countP fun z=>decide (ltS z x):Nat):Int) < (ts.countP fun z=>decide (ltS z y):Nat))=decide (ltS x y)
 by_cases c:ltS x y
 ·have:=cnt_lt m1 c
  simp only [c,decide_true,decide_eq_true_eq]
  omega
 ·have:(ts.countP fun z=>decide (ltS z y))<=ts.countP fun z=>decide (ltS z x):=by
   by_cases e:x=y
   ·rw [e];exact Nat.le_refl _
   ·exact Nat.le_of_lt (cnt_lt m2 (ltS.tri c e))
  simp only [c,decide_false,decide_eq_false_iff_not]
  omega
section
variable {prog:Program} {w:World} {A:Around} {s:Shared} {ts:List Str} {vs:List Value}
theorem strs_at (r:Vals (ts.map V.str) vs):∀ v∈vs,∃ x t,v=.str x t/\x∈ts:=by
 induction ts generalizing vs with
 | nil=>cases r;intro v hv;cases hv
 | cons x ts ih =>
  cases r with
  | cons h r =>
   obtain ⟨t,rfl⟩:=h
   intro v hv
   rcases mem_cons.mp hv with rfl|hv
   ·exact ⟨x,t,rfl,mem_cons_self⟩
   ·obtain ⟨y,u,e,m⟩:=ih r v hv
    exact ⟨y,u,e,mem_cons_of_mem _ m⟩
theorem strs_txt (r:Vals (ts.map V.str) vs):vs.map txt=ts:=by
 induction ts generalizing vs with
 | nil=>cases r;rfl
 | cons x ts ih =>
  cases r with
  | cons h r =>
   obtain ⟨t,rfl⟩:=h
   rw [map_cons,ih r];rfl
theorem strs_back:∀ {vs:List Value},(∀ v∈vs,∃ x t,v=.str x t)->Vals ((vs.map txt).map V.str) vs
 | [],_=>.nil
 | v::vs,h=>by
  obtain ⟨x,t,rfl⟩:=h v mem_cons_self
  exact .cons ⟨t,rfl⟩ (strs_back fun v hv=>h v (mem_cons_of_mem _ hv))
theorem askS (r:Vals (ts.map V.str) vs):AskP prog w A vs (rkS ts) (SS ts) s:=by
 refine ⟨fun h2 Q hq=>?_,⟨fun x y hx hy Q E hq=>?_⟩⟩
 ·refine kas_kind (T:=.type "str") h2 (fun v hv=>?_) rfl rfl hq
  obtain ⟨x,t,rfl,_⟩:=strs_at r v hv
  exact Looks.of_pure rfl
 ·rw [rk_dec hx hy] at hq
  obtain ⟨a,t,e1,_⟩:=hx
  obtain ⟨b,u,e2,_⟩:=hy
  rw [e1,e2] at hq ⊢
  exact kas_lt_str hq
theorem itsS (r:Vals (ts.map V.str) vs) (nd:ts.Nodup):Its (rkS ts) (SS ts) (vs.toArray.zip vs.toArray):=by
 refine ⟨fun p hp=>?_,?_⟩
 ·rw [prs_list] at hp
  obtain ⟨v,hv,rfl⟩:=mem_map.mp hp
  obtain ⟨x,t,e,m⟩:=strs_at r v hv
  exact ⟨x,t,e,m⟩
 ·rw [prs_list,map_map]
  have e:(vs.map (rkS ts ∘ fun v=>(v,v)))=ts.map fun x=>((ts.countP fun z=>decide (ltS z x):Nat):Int):=by
   rw [<-List.map_congr_left (f:=fun x=>((ts.countP fun z=>decide (ltS z x):Nat):Int)) (l:=ts) (fun _ _=>rfl)]
   conv=>rhs;rw [<-strs_txt r]
   rw [map_map]
   rw [strs_txt r]
   rfl
  rw [e]
  unfold List.Nodup
  rw [List.pairwise_map]
  refine List.Pairwise.imp_of_mem (fun {x y} hx hy ne=>?_) nd
  intro z
  by_cases c:ltS x y
  ·have:=cnt_lt hx c;omega
  ·have:=cnt_lt hy (ltS.tri c ne);omega
theorem outS (r:Vals (ts.map V.str) vs) (nd:ts.Nodup) {out:List Value} (p:out.Perm vs) (up:UpV (rkS ts) out):∃ us:List Str,us.Perm ts/\us.Pairwise ltS/\Vals (us.map V.str) out:=by
 have all:∀ v∈out,∃ x t,v=.str x t/\x∈ts:=fun v hv=>strs_at r v (p.mem_iff.mp hv)
 have pu:(out.map txt).Perm ts:=by have:=p.map txt;rwa [strs_txt r] at this
 refine ⟨out.map txt,pu,?_,strs_back fun v hv=>by obtain ⟨x,t,e,_⟩:=all v hv;exact ⟨x,t,e⟩⟩
 have nd':(out.map txt).Nodup:=pu.nodup_iff.mpr nd
 unfold List.Nodup at nd'
 rw [List.pairwise_map] at nd' ⊢
 refine List.Pairwise.imp_of_mem (fun {x y} hx hy h=>?_) (nd'.and up)
 obtain ⟨a,t,rfl,ma⟩:=all x hx
 obtain ⟨b,u,rfl,mb⟩:=all y hy
 obtain ⟨ne,le⟩:=h
 have ne:a≠b:=ne
 show ltS a b
 by_cases c:ltS a b
 ·exact c
 ·exfalso
  have:=cnt_lt mb (ltS.tri c ne)
  unfold rkS at le
  have le:((ts.countP fun z=>decide (ltS z a):Nat):Int)<=(ts.countP fun z=>decide (ltS z b):Nat):=le
  omega
end
def rSortS (K:W.Frag):List V->Hp->VK->Prop:=fun xs H Q=>∃ (p:Addr) (ts:List Str),xs=[.ref p]/\SqL K H p (ts.map V.str)/\ts.Nodup/\ts.length < 128/\∀ us:List Str,us.Perm ts->us.Pairwise ltS->∀ l,H l=none->Q (.ref l) (upd H l (.lst (us.map V.str)))
theorem call_sortS {X:Cx} (K:W.Frag) (hK:X.K=K):CallR X (.builtin "sorted") (rSortS K):=by
 subst hK
 intro pins s σ H xs us' Q I r h
 obtain ⟨p,ts,rfl,hL,nd,h128,q⟩:=h
 obtain ⟨u,rfl,rx⟩:=vals1 r
 cases rx
 obtain ⟨its,rv,pl,hz⟩:=I.list hL
 have len:its.length=ts.length:=by have:=rv.length;rw [length_map] at this;omega
 refine tim_call (rk:=rkS ts) (S:=SS ts) pl.isList (by omega) (itsS rv nd) (fun h'=>askS rv) fun out h' L e p1 p2 kp hL' he=>?_
 obtain ⟨us,u1,u2,u3⟩:=outS rv nd p1 p2
 have hfr:H L=none:=I.hok.fresh hL'
 exact ⟨.ref L,_,I.laid (t':=s.toks) kp hL' (show ObjOk X.prog X.w _ _ _ (.lst (us.map V.str)) from ⟨by rw [length_map,u1.length_eq,sizeLine_eq];omega,_,e,u3,he⟩),rfl,q us u1 u2 _ hfr⟩
def rSortDS:List V->Hp->VK->Prop:=fun xs H Q=>∃ (a:Addr) (kvs:List (Key × V)) (ts:List Str),xs=[.ref a]/\H a=some (.dK kvs)/\kvs.map (·.1)=ts.map Sum.inr/\ts.Nodup/\kvs.length < 128/\∀ us:List Str,us.Perm ts->us.Pairwise ltS->∀ l,H l=none->Q (.ref l) (upd H l (.lst (us.map V.str)))
theorem call_sortDS {X:Cx} (hc:X.calm=true):CallR X (.builtin "sorted") rSortDS:=by
 intro pins s σ H xs us Q I r h
 obtain ⟨a,kvs,ts,rfl,e,hk,nd,h128,q⟩:=h
 obtain ⟨u,rfl,rx⟩:=vals1 r
 cases rx
 obtain ⟨lo,es,ep,h1,h2,h3⟩:=dK_raw I e
 have hn:(kvs.map fun p=>kV p.1)=ts.map V.str:=by
  have:(kvs.map fun p=>kV p.1)=(kvs.map (·.1)).map kV:=by rw [map_map];rfl
  rw [this,hk,map_map];rfl
 rw [hn] at h3
 have ln:ts.length=kvs.length:=by have:=congrArg List.length hk;simpa using this.symm
 refine tim_src (rk:=rkS ts) (S:=SS ts) (vs:=es.toList.map (·.key)) (raw_src (prog:=X.prog) (w:=X.w) (es:=es) (ep:=ep) lo) (I.ok.hd hc) h1 (by omega) (fun ws hi=>items_are_list hi) (by rw [length_map,Array.length_toList];omega) (itsS h3 nd) (fun h' tk=>askS h3) fun out h' tk L e' p1 p2 k hL he=>?_
 obtain ⟨us,u1,u2,u3⟩:=outS h3 nd p1 p2
 exact ⟨.ref L,_,I.laid (t':=tk) k hL (show ObjOk X.prog X.w _ _ _ (.lst (us.map V.str)) from ⟨by rw [length_map,u1.length_eq,sizeLine_eq];omega,_,e',u3,he⟩),rfl,q us u1 u2 _ (I.hok.fresh hL)⟩
section
variable {X:Cx} {pins:List (Addr × Obj)} {σ:St} {H:Hp} {s:Shared} {d:Addr} {kvs:List (Key × V)}
theorem Inv.thaw3 {o:Obj} (I:Inv X pins σ H s) (hd:H d=some (.frz o (.dK kvs))) (h0:∀ o u,X.H₀ d≠some (.frz o u)):Inv X pins σ (upd H d (.dK kvs)) s:=by
 have ne:∀ b,H b=none->b≠d:=fun b hb z=>by rw [z,hd] at hb;cases hb
 refine ⟨I.ok,I.os,I.bare,⟨I.base.keep,I.base.slot,fun b u q n hx=>?_,I.base.there,fun b xs q=>?_,fun b u v q=>?_,fun b ps q=>?_⟩,I.loc,I.cell,?_,fun x c e=>?_,fun p hp=>?_,fun b u e=>?_,I.len⟩
 ·have:=I.base.free b u q n hx
  rw [upd_ne (ne b this)];exact this
 ·have:=I.base.tups b xs q
  rw [upd_ne (ne_of this hd (by intro z;cases z))];exact this
 ·have:=I.base.frzs b u v q
  rw [upd_ne (fun z=>by rw [z] at q;exact h0 _ _ q)];exact this
 ·obtain ⟨m,this⟩:=I.base.tbls b ps q
  exact ⟨m,by rw [upd_ne (ne_of this hd (by intro z;cases z))];exact this⟩
 ·rw [upd_ne (ne _ I.free)];exact I.free
 ·rw [upd_ne (ne _ (I.freeC x c e))];exact I.freeC x c e
 ·obtain ⟨a1,a2,a3,a4,a5⟩:=I.pin p hp
  exact ⟨a1,by rw [upd_ne (ne _ a2)];exact a2,a3,a4,a5⟩
 ·by_cases hb:b=d
  ·subst hb
   rw [upd_same] at e;cases e
   exact (I.hok b _ hd).2
  ·rw [upd_ne hb] at e
   refine (I.hok b u e).stay (fun c v hc q=>q) (fun c q=>?_) fun c xs q=>?_
   ·rw [upd_ne (ne_of q hd (by intro z;cases z))];exact q
   ·rw [upd_ne (ne_of q hd (by intro z;cases z))];exact q
def iDictH (H0:Hp) (tl:TE):TI:=fun σ H R=>tl σ H fun x H1=>∃ d kvs,x=.ref d/\H1 d=some (.dK kvs)/\∀ o,(∀ o u,H0 d≠some (.frz o u))->R (Itk d o kvs) (upd H1 d (.frz o (.dK kvs)))
theorem qpi_dictH {tg l:Expr} {tl:TE} (hl:QE X l tl):QI X tg l (iDictH X.H₀ tl):=⟨by
 intro pins s σ H R I h
 refine thn (hl.h pins s σ H _ I h) fun u s1 ⟨x,H1,I1,r1,d,kvs,e,hd,q⟩=>?_
 subst e
 cases r1
 have n0:∀ o u,X.H₀ d≠some (.frz o u):=fun o u z=>by
  have:=I1.base.frzs _ _ _ z
  rw [hd] at this;cases this
 obtain ⟨o,ho,I2⟩:=I1.freeze hd
 obtain ⟨hs,_,_⟩:(d==sysModules)=false/\True/\True:=⟨(I1.hok d _ hd).2.1,trivial,trivial⟩
 obtain ⟨_,_,vs,kv,o2,es,ep,e1,e2,e3,r⟩:=(show ObjOk X.prog X.w H1 s1.heap d (.dK kvs) from I1.hok d _ hd)
 rw [ho] at e1;cases e1
 have da:s1.heap.DictAt (mixKind X.prog X.w) d vs ep:=⟨o,es,ho,e2,e3,r⟩
 refine wpAny_pyIter_dict hs da ?_
 have hlen:kvs.length=vs.length:=Paired.length kv
 have I3:Inv X pins σ (upd H1 d (.frz o (.dK kvs))) { s1 with heap:=s1.heap.push { cls:=.type "dict_keyiterator",data:=.fields #[.ref d,.int 0 0,.int vs.length 0,.int ep 0] } }:=I2.kept (t':=s1.toks) fun b u e=>Heap.get?_push_of_some _ e
 refine ⟨s1.heap.objs.size,[s1.heap.objs.size],_,_,_,rfl,I3,turn_dict d _ o kvs e3,⟨_,Heap.get?_push_size _ rfl,rfl,by rw [hlen];rfl⟩,fun b hb=>?_,q o n0⟩
 have e':b=s1.heap.objs.size:=by simpa using hb
 subst e'
 exact I2.fpOk (Nat.le_refl _) (I2.hok.fresh (Nat.le_refl _))⟩
def tThaw3 (H0:Hp) (te:TE):TE:=fun σ H Q=>te σ H fun v H1=>∃ d o kvs,H1 d=some (.frz o (.dK kvs))/\(∀ o u,H0 d≠some (.frz o u))/\Q v (upd H1 d (.dK kvs))
theorem qpe_thaw3 {e:Expr} {te:TE} (he:QE X e te):QE X e (tThaw3 X.H₀ te):=⟨by
 intro pins s σ H Q I h
 refine thn (he.h pins s σ H _ I h) fun u s1 ⟨x,H1,I1,r1,d,o,kvs,hd,h0,q⟩=>⟨x,_,I1.thaw3 hd h0,r1,q⟩⟩
end
end L2
namespace DL
open PySem PySem.Spec PyProof.Rows L2
def dFD (es:List (Key × D)):D:=.dict ((.int 0,.none)::es.map fun p=>(keyV p.1,p.2))
mutual
def ndc:D->Bool
 | .none=>true
 | .bool _=>true
 | .int _=>true
 | .str _=>true
 | .list ds=>ndcs ds
 | .tuple ds=>ndcs ds
 | .dict _=>false
def ndcs:List D->Bool
 | []=>true
 | d::ds=>ndc d&&ndcs ds
end
section
variable {K:W.Frag} {H H':Hp} {v:V} {d d':D}
def Fz (H H':Hp):Prop:=∀ a o,H a=some o->H' a=some o\/∃ ob kvs,o=.dK kvs/\H' a=some (.frz ob (.dK kvs))
theorem Fz.lst (f:Fz H H') {a:Addr} {us:List V} (h:H a=some (.lst us)):H' a=some (.lst us):=by
 rcases f _ _ h with h|⟨_,_,e,_⟩
 ·exact h
 ·cases e
theorem Fz.tup (f:Fz H H') {a:Addr} {us:List V} (h:SqT K H a us):SqT K H' a us:=by
 rcases h with (h|⟨o,h⟩)|h
 ·rcases f _ _ h with h|⟨_,_,e,_⟩
  ·exact .inl (.inl h)
  ·cases e
 ·rcases f _ _ h with h|⟨_,_,e,_⟩
  ·exact .inl (.inr ⟨o,h⟩)
  ·cases e
 ·exact .inr h
theorem Fz.dn2 (f:Fz H H'):(∀ {v d},Dn K H v d->ndc d=true->Dn K H' v d)/\∀ {v d},Dns K H v d->ndcs d=true->Dns K H' v d :=
 Dn.both (fun _=>.non) (fun b _=>.bl b) (fun b _=>.int b) (fun b _=>.str b) (fun h r q=>.lst (f.lst h) (r q)) (fun h r q=>.tup (f.tup h) (r q)) (fun _ _ h=>nomatch h) (fun _ h=>nomatch h) (fun _ _ h=>nomatch h) (fun _ _ h=>nomatch h) (fun _=>.nil) fun p r q=>by
  rw [ndcs,Bool.and_eq_true] at q
  exact .cons (p q.1) (r q.2)
theorem Fz.dn (f:Fz H H') (h:Dn K H v d) (q:ndc d=true):Dn K H' v d:=f.dn2.1 h q
theorem dKps_of {kvs:List (Key × V)} {es:List (Key × D)} (p:VPs kvs es):DKps kvs (es.map fun p=>(keyV p.1,p.2)):=dK_of p
theorem Fz.dct (f:Fz H H') {es:List (Key × D)} (h:Dn K H v (dKD es)):Dn K H' v (dFD es):=by
 obtain ⟨a,kvs,rfl,e,p⟩:=dn_dK h
 rcases f _ _ e with h|⟨ob,_,e,h⟩
 ·exact .dcf (.inl h) (dKps_of p)
 ·cases e;exact .dcf (.inr ⟨ob,h⟩) (dKps_of p)
inductive FrO:D->D->Prop
 | same (x:D):ndc x=true->FrO x x
 | dct (es):FrO (dKD es) (dFD es)
 | two (a b):FrO (.tuple [dKD a,dKD b]) (.tuple [dFD a,dFD b])
theorem FrO.dn (r:FrO d d') (f:Fz H H') (h:Dn K H v d):Dn K H' v d':=by
 cases r with
 | same _ q=>exact f.dn h q
 | dct es=>exact f.dct h
 | two a b =>
  cases h with
  | tup h r =>
   cases r with
   | cons h1 r =>
    cases r with
    | cons h2 r =>
     cases r
     exact .tup (f.tup h) (.cons (f.dct h1) (.cons (f.dct h2) .nil))
theorem dn_dF {es:List (Key × D)} (h:Dn K H v (dFD es)):∃ a kvs,v=.ref a/\Rd H a (.dK kvs)/\VPs kvs es:=by
 unfold dFD at h
 cases h with
 | dcf e r=>exact ⟨_,_,rfl,e,dK_vps r⟩
theorem Fz.upd {a:Addr} {kvs:List (Key × V)} {o:Obj} (h:H a=some (.dK kvs)):Fz H (L2.upd H a (.frz o (.dK kvs))):=fun b u e=>by
 by_cases z:b=a
 ·subst z;rw [h] at e;cases e;exact .inr ⟨o,kvs,rfl,upd_same⟩
 ·exact .inl (by rw [upd_ne z];exact e)
theorem same_fz (e:Same H H'):Fz H H':=fun a o h=>.inl (e _ _ h)
end
section
variable {X:Cx} {K:W.Frag} {E:XK} {H H' Hf:Hp}
structure CapF (K:W.Frag) (Hf:Hp) (cap:List (Str × Nat)) (σ:L2.St) (ρ':Ren):Prop where
 len:ρ'.length=cap.length
 get:∀ (j:Nat) (x:Bool × D),ρ'[j]?=some (some x)->x.1=false/\∃ p v,cap[j]?=some p/\σ[p.2]?=some (some v)/\Dn K Hf v x.2
def capT (cap:List (Str × Nat)) (σ:L2.St):L2.St:=cap.map fun p=>(σ[p.2]?).join
theorem CapF.st {cap:List (Str × Nat)} {σ:L2.St} {ρ':Ren} (C:CapF K Hf cap σ ρ') (k:Key) (e:Same Hf H'):StOk K Z0 Hf (fun _=>[]) (some (false,keyV k)::ρ') (some (kV k)::capT cap σ) H' where
 sm:=e
 len:=by unfold capT;simp [C.len]
 sl:=fun i b d h=>by
  cases i with
  | zero =>
   cases h
   refine ⟨_,rfl,?_⟩
   cases k with
   | inl i=>exact .int i
   | inr x=>exact .str x
  | succ i =>
   rw [List.getElem?_cons_succ] at h
   obtain ⟨hb,p,v,h1,h2,h3⟩:=C.get i _ h
   cases hb
   refine ⟨v,?_,?_⟩
   ·rw [List.getElem?_cons_succ]
    unfold capT
    rw [List.getElem?_map,h1]
    simp [h2]
   ·exact Dn.same (e.trans hid_z0) h3
 nd:=fun _=>nodup_nil
 dj:=fun i j a h=>by cases h
 fr:=fun i a h=>by cases h
 zf:=fun a h=>h.elim
theorem cp_core {J:It} {ks:List Key} {cap:List (Str × Nat)} {σ:L2.St} {ρ':Ren} {tif:TDT} {g:Key->Bool} {emit:TS} {Acc:List Key->Hp->Prop} {En:Ends} {H1:Hp} {x0:Option V}
  (hJ:∀ H2,Same Hf H2->J.stop ks.length H2/\∀ i (h:i < ks.length),J.go i H2/\∀ x H',J.yld i H2 x H'->Same H2 H'/\x=kV ks[i])
  (C:CapF K Hf cap σ ρ') (ht:∀ k∈ks,∀ Q':Bool->Prop,Q' (g k)->tif (some (false,keyV k)::ρ') Q' Xf)
  (hA0:Acc [] H1) (hs0:Same Hf H1) (hAs:∀ ls H2 H3,Acc ls H2->Same H2 H3->Acc ls H3)
  (hem:∀ D ls k H2,ls.length < ks.length->Acc ls H2->Same Hf H2->(∀ H3,Acc (ls++[k]) H3->Same Hf H3->D.nx (some (kV k)::capT cap σ) H3)->emit D (some (kV k)::capT cap σ) H2)
  (q:∀ σ' H2,Acc (ks.filter g) H2->Same Hf H2->En.nx σ' H2) :
  loopT J (gName 0) (tIfB (LT K E0 tif) emit) En (x0::capT cap σ) H1:=by
 refine ⟨fun i m σ' H'=>m=ks.length - i/\i<=ks.length/\(∃ x,σ'=x::capT cap σ)/\Same Hf H'/\Acc ((ks.take i).filter g) H',⟨_,rfl,Nat.zero_le _,⟨_,rfl⟩,hs0,hA0⟩,?_⟩
 rintro i m σ2 H2 ⟨rfl,hi,⟨x,rfl⟩,sm,ac⟩
 obtain ⟨j1,j2⟩:=hJ H2 sm
 by_cases hlt:i < ks.length
 ·obtain ⟨k1,k2⟩:=j2 i hlt
  refine .inr ⟨k1,_,fun σ' H' hN=>⟨_,(by omega:ks.length - (i+1) < ks.length - i),rfl,hlt,hN⟩,fun v H' hy=>?_⟩
  obtain ⟨e1,rfl⟩:=k2 v H' hy
  have et:ks.take (i+1)=ks.take i++[ks[i]]:=by rw [List.take_add_one,List.getElem?_eq_getElem hlt];rfl
  show tIfB (LT K E0 tif) emit _ (some (kV ks[i])::capT cap σ) H'
  refine ⟨Hf,_,_,fun b=>b=g ks[i],Xf,C.st ks[i] (sm.trans e1),ht _ (List.getElem_mem hlt) _ rfl,fun b H3 hb e3=>?_,fun _ _ z=>z.elim⟩
  subst hb
  have sm3:=(sm.trans e1).trans e3
  have ac3:=hAs _ _ _ ac (e1.trans e3)
  by_cases hg:g ks[i]=true
  ·rw [if_pos hg]
   refine hem _ _ _ _ ?_ ac3 sm3 fun H4 a4 s4=>⟨⟨_,rfl⟩,s4,?_⟩
   ·have:=length_filter_le g (ks.take i)
    rw [length_take] at this;omega
   ·rw [et,List.filter_append]
    simp only [List.filter_cons,hg,if_true,List.filter_nil]
    exact a4
  ·rw [if_neg hg]
   refine ⟨⟨_,rfl⟩,sm3,?_⟩
   rw [et,List.filter_append]
   simp only [List.filter_cons,hg,List.filter_nil]
   simpa using ac3
 ·have e:i=ks.length:=by omega
  subst e
  rw [take_length] at ac
  exact .inl ⟨j1,q _ _ ac sm⟩
theorem trueD_snoc (es:List (Key × D)) (ls:List Key) (k:Key):trueD es (ls++[k])=putD (trueD es ls) k (.bool true):=by
 induction ls generalizing es with
 | nil=>rfl
 | cons a r ih=>exact ih _
theorem hem_dict {cap:List (Str × Nat)} {σ:L2.St} {acc:Addr} {n:Nat} (ha:Hf acc=none) (hn:n < 1000000):∀ D ls k H2,ls.length < n->(fun ls H2=>∃ kvs,H2 acc=some (.dK kvs)/\VPs kvs (trueD [] ls)) ls H2->Same Hf H2->(∀ H3,(fun ls H2=>∃ kvs,H2 acc=some (.dK kvs)/\VPs kvs (trueD [] ls)) (ls++[k]) H3->Same Hf H3->D.nx (some (kV k)::capT cap σ) H3)->tEmitD acc (tVar 0) (tC (.bl true)) D (some (kV k)::capT cap σ) H2:=fun D ls k H2 hl ⟨kvs,e,p⟩ sm q=>by
 refine ⟨kV k,rfl,kvs,k,rfl,e,?_,q _ ⟨_,upd_same,?_⟩ (sm.put ha)⟩
 ·have:=trueD_len ls []
  rw [List.length_nil] at this
  rw [p.length]
  exact Nat.lt_of_lt_of_le (by omega) million
 ·rw [trueD_snoc];exact p.put rfl
theorem hem_list {cap:List (Str × Nat)} {σ:L2.St} {acc:Addr} {n:Nat} (ha:Hf acc=none) (hn:n < 1000000):∀ D ls k H2,ls.length < n->(fun ls H2=>H2 acc=some (.lst (ls.map kV))) ls H2->Same Hf H2->(∀ H3,(fun ls H2=>H2 acc=some (.lst (ls.map kV))) (ls++[k]) H3->Same Hf H3->D.nx (some (kV k)::capT cap σ) H3)->tEmit acc (tVar 0) D (some (kV k)::capT cap σ) H2:=fun D ls k H2 hl e sm q=>by
 refine ⟨kV k,rfl,_,e,?_,q _ (by show L2.upd _ _ _ _=_;rw [upd_same,map_append];rfl) (sm.put ha)⟩
 rw [length_map]
 exact Nat.lt_of_lt_of_le (by omega) million
def CapR (cap:List (Str × Nat)) (ρ ρ':Ren):Prop:=ρ'.length=cap.length/\∀ (j:Nat) (x:Bool × D),ρ'[j]?=some (some x)->x.1=false/\∃ p c d,cap[j]?=some p/\ρ[p.2]?=some (some (c,d))/\FrO d x.2
theorem CapR.f {H0:Hp} {ν:Nat->List Addr} {cap:List (Str × Nat)} {ρ ρ':Ren} {σ:L2.St} (C:CapR cap ρ ρ') (S:StOk K Z0 H0 ν ρ σ H) (f:Fz H Hf):CapF K Hf cap σ ρ':=⟨C.1,fun j x h=>by
 obtain ⟨h1,p,c,d,h2,h3,h4⟩:=C.2 j x h
 obtain ⟨v,g1,g2⟩:=S.get h3
 exact ⟨h1,p,v,h2,g1,h4.dn f g2⟩⟩
def dDCI (ti:TDI) (tif:TDT) (cap:List (Str × Nat)):TD:=fun ρ Q Xd=>ti ρ (fun ds b=>∃ (ks:List Key) (g:Key->Bool) (ρ':Ren),ds=ks.map keyV/\ks.length < 1000000/\CapR cap ρ ρ'/\(∀ k∈ks,∀ Q':Bool->Prop,Q' (g k)->tif (some (false,keyV k)::ρ') Q' Xf)/\Q (dKD (trueD [] (ks.filter g))) (.own [])) Xd
def dDCK (ti:TD) (tif:TDT) (cap:List (Str × Nat)):TD:=fun ρ Q Xd=>ti ρ (fun d _=>∃ (es:List (Key × D)) (g:Key->Bool) (ρ':Ren),d=dKD es/\es.length < 1000000/\CapR cap ρ ρ'/\(∀ k∈es.map (·.1),∀ Q':Bool->Prop,Q' (g k)->tif (some (false,keyV k)::ρ') Q' Xf)/\Q (dKD (trueD [] ((es.map (·.1)).filter g))) (.own [])) Xd
def dLCK (ti:TD) (tif:TDT) (cap:List (Str × Nat)):TD:=fun ρ Q Xd=>ti ρ (fun d _=>∃ (es:List (Key × D)) (g:Key->Bool) (ρ':Ren),d=dKD es/\es.length < 1000000/\CapR cap ρ ρ'/\(∀ k∈es.map (·.1),∀ Q':Bool->Prop,Q' (g k)->tif (some (false,keyV k)::ρ') Q' Xf)/\Q (.list (((es.map (·.1)).filter g).map keyV)) (.own [])) Xd
theorem itk_ok {d:Addr} {o:Obj} {kvs:List (Key × V)} {ks:List Key} (hk:kvs.map (·.1)=ks) (hd:Hf d=some (.frz o (.dK kvs))):∀ H2,Same Hf H2->(Itk d o kvs).stop ks.length H2/\∀ i (h:i < ks.length),(Itk d o kvs).go i H2/\∀ x H',(Itk d o kvs).yld i H2 x H'->Same H2 H'/\x=kV ks[i]:=fun H2 sm=>by
 subst hk
 refine ⟨⟨sm _ _ hd,by rw [length_map];exact Nat.le_refl _⟩,fun i h=>⟨⟨sm _ _ hd,by rw [length_map] at h;exact h⟩,fun x H' hy=>?_⟩⟩
 obtain ⟨⟨k,v,e1,rfl⟩,rfl⟩:=hy
 refine ⟨Same.refl _,?_⟩
 rw [List.getElem_map]
 rw [length_map] at h
 rw [List.getElem?_eq_getElem h] at e1
 rw [Option.some.inj e1]
theorem thaw_same {d:Addr} {o:Obj} {kvs:List (Key × V)} {H1 H2:Hp} (hd:H1 d=some (.dK kvs)) (e:Same (L2.upd H1 d (.frz o (.dK kvs))) H2):Same H1 (L2.upd H2 d (.dK kvs)):=fun a u h=>by
 by_cases z:a=d
 ·subst z;rw [hd] at h;cases h;exact upd_same
 ·rw [upd_ne z];exact e _ _ (by rw [upd_ne z];exact h)
theorem ows_keys {H:Hp}:∀ ks:List Key,Ows K H (ks.map kV) (ks.map keyV) []
 | []=>.nil
 | .inl i::r=>.cons (ns:=[]) (.int i) (ows_keys r)
 | .inr x::r=>.cons (ns:=[]) (.str x) (ows_keys r)
variable {pos p0 p1 p2:Pos} {iter:Expr} {scope:Scope} {ti:TDI} {td:TD} {tif:TDT} {y:Str} {test:Expr}
theorem le_dcK {own:List Str} {cap:List (Str × Nat)} (H00:Hp) (ho:own.length=1):∀ σ H Q,LE K E (dDCK td tif cap) σ H Q->tThaw3 H00 (tDCI (iDictH H00 (LE K E td)) (gName 0) (LT K E0 tif) (tVar 0) (tC (.bl true)) own cap) σ H Q:=fun σ H Q h=>by
 obtain ⟨H0,ν,ρ,Qd,Xd,S,h1,q,x⟩:=h
 refine ⟨H0,ν,ρ,_,Xd,S,h1,fun d k v H1 g1 e1 r1=>?_,x⟩
 obtain ⟨es,g,ρ',rfl,hl,cr,ht,g1⟩:=g1
 obtain ⟨a,kvs,rfl,e,p⟩:=dn_dK r1.den
 refine ⟨a,kvs,rfl,e,fun o n0 acc hacc=>?_⟩
 have hf:=Fz.upd (o:=o) e
 have hk:kvs.map (·.1)=es.map (·.1):=vps_keys p
 have hne:acc≠a:=fun z=>by rw [z,upd_same] at hacc;cases hacc
 have hacc1:H1 acc=none:=by rw [upd_ne hne] at hacc;exact hacc
 match own,ho with
 | [y],_ =>
 refine cp_core (Hf:=L2.upd H1 a (.frz o (.dK kvs))) (Acc:=fun ls H2=>∃ kvs,H2 acc=some (.dK kvs)/\VPs kvs (trueD [] ls)) (itk_ok hk upd_same) (cr.f (S.same e1) hf) ht ⟨_,upd_same,.nil⟩ (Same.new hacc) (fun ls H2 H3 ⟨kv,b1,b2⟩ e=>⟨kv,e _ _ b1,b2⟩) (hem_dict hacc (by rw [length_map];exact hl)) fun σ' H2 ⟨kv,a1,a2⟩ sm=>?_
 refine ⟨a,o,kvs,sm _ _ upd_same,n0,q _ _ _ _ g1 (e1.trans (thaw_same e sm)) ⟨[acc],ow_dK (by rw [upd_ne hne];exact a1) a2,by simp,fun b hb=>?_⟩⟩
 rw [mem_singleton] at hb;subst hb
 exact .inl (e1.gone hacc1)
theorem le_lcK {own:List Str} {cap:List (Str × Nat)} (H00:Hp) (ho:own.length=1):∀ σ H Q,LE K E (dLCK td tif cap) σ H Q->tThaw3 H00 (tLC (iDictH H00 (LE K E td)) (gName 0) (LT K E0 tif) (fun acc=>tEmit acc (tVar 0)) own cap) σ H Q:=fun σ H Q h=>by
 obtain ⟨H0,ν,ρ,Qd,Xd,S,h1,q,x⟩:=h
 refine ⟨H0,ν,ρ,_,Xd,S,h1,fun d k v H1 g1 e1 r1=>?_,x⟩
 obtain ⟨es,g,ρ',rfl,hl,cr,ht,g1⟩:=g1
 obtain ⟨a,kvs,rfl,e,p⟩:=dn_dK r1.den
 refine ⟨a,kvs,rfl,e,fun o n0 acc hacc=>?_⟩
 have hf:=Fz.upd (o:=o) e
 have hk:kvs.map (·.1)=es.map (·.1):=vps_keys p
 have hne:acc≠a:=fun z=>by rw [z,upd_same] at hacc;cases hacc
 have hacc1:H1 acc=none:=by rw [upd_ne hne] at hacc;exact hacc
 match own,ho with
 | [y],_ =>
 refine cp_core (Hf:=L2.upd H1 a (.frz o (.dK kvs))) (Acc:=fun ls H2=>H2 acc=some (.lst (ls.map kV))) (itk_ok hk upd_same) (cr.f (S.same e1) hf) ht upd_same (Same.new hacc) (fun ls H2 H3 b e=>e _ _ b) (hem_list hacc (by rw [length_map];exact hl)) fun σ' H2 a1 sm=>?_
 refine ⟨a,o,kvs,sm _ _ upd_same,n0,q _ _ _ _ g1 (e1.trans (thaw_same e sm)) ⟨[acc],.lst (by rw [upd_ne hne];exact a1) (ows_keys _),by simp,fun b hb=>?_⟩⟩
 rw [mem_singleton] at hb;subst hb
 exact .inl (e1.gone hacc1)
theorem dpe_lcK (own:List Str) (cap:List (Str × Nat)) (ho:own.length=1) (hc:X.calm=true) (L:LcScope X scope own cap) (hi:DE X K E iter td)
  (hin:∀ (s₃:Shared) (H₃:Hp) (fp:List Addr),QG (X.inn scope (L2.capN own cap) s₃ H₃ fp) (.Name y p0) (gName 0)/\DTs (X.inn scope (L2.capN own cap) s₃ H₃ fp) K [test] tif/\QE (X.inn scope (L2.capN own cap) s₃ H₃ fp) (.Name y p1) (tVar 0))
  (hs:∀ x,foldedSetIterable iter X.env x=pure x:=by intro _;rfl):DE X K E (.ListComp (.Name y p1) [⟨.Name y p0,iter,[test],0⟩] scope pos) (dLCK td tif cap) :=
 ⟨qe_imp (qpe_thaw3 (qpe_lc own cap hc L (qpi_dictH hi.q) (fun a b c acc=>⟨(hin a b c).1,(hin a b c).2.1.q,qpb_emit rfl rfl (hin a b c).2.2⟩) hs)) (le_lcK X.H₀ ho)⟩
theorem le_dcI {own:List Str} {cap:List (Str × Nat)} (ho:own.length=1):∀ σ H Q,LE K E (dDCI ti tif cap) σ H Q->tDCI (LI K E ti) (gName 0) (LT K E0 tif) (tVar 0) (tC (.bl true)) own cap σ H Q:=fun σ H Q h=>by
 obtain ⟨H0,ν,ρ,Qd,Xd,S,h1,q,x⟩:=h
 refine ⟨H0,ν,ρ,_,Xd,S,h1,fun ds b J H1 g1 e1 it=>?_,x⟩
 obtain ⟨ks,g,ρ',rfl,hl,cr,ht,g1⟩:=g1
 intro acc hacc
 have S1:=S.same e1
 match own,ho with
 | [y],_ =>
 refine cp_core (Hf:=H1) (Acc:=fun ls H2=>∃ kvs,H2 acc=some (.dK kvs)/\VPs kvs (trueD [] ls)) (ks:=ks) (fun H2 sm=>?_) (cr.f S1 (same_fz (Same.refl _))) ht ⟨_,upd_same,.nil⟩ (Same.new hacc) (fun ls H2 H3 ⟨kv,b1,b2⟩ e=>⟨kv,e _ _ b1,b2⟩) (hem_dict hacc hl) fun σ' H2 ⟨kv,a1,a2⟩ sm=>?_
 ·have it2:=it (fun a=>b=true/\Hd Z0 ν a) H2 (fun a z=>by obtain ⟨o,e⟩:=S1.hl a z.2;exact ⟨o,sm _ _ e⟩) (fun a o e=>by
   unfold fz at e
   cases b with
   | true=>rw [if_pos rfl] at e;obtain ⟨e1,e2⟩:=of_hid e;exact hid_of (sm _ _ e1) fun z=>e2 z.2
   | false=>rw [if_neg Bool.false_ne_true] at e;exact hid_of (sm _ _ e) fun z=>by cases z.1)
  obtain ⟨i1,i2⟩:=it2
  rw [length_map] at i1
  refine ⟨i1,fun i hlt=>?_⟩
  obtain ⟨j1,j2⟩:=i2 i (keyV ks[i]) (by rw [List.getElem?_map,List.getElem?_eq_getElem hlt];rfl)
  refine ⟨j1,fun v H' hy=>?_⟩
  obtain ⟨k1,k2⟩:=j2 v H' hy
  exact ⟨k1,dn_keyV k2⟩
 ·refine q _ _ _ _ g1 (e1.trans sm) ⟨[acc],ow_dK a1 a2,by simp,fun b hb=>?_⟩
  rw [mem_singleton] at hb;subst hb
  exact .inl (e1.gone hacc)
theorem dpe_dcI (own:List Str) (cap:List (Str × Nat)) (ho:own.length=1) (hc:X.calm=true) (L:LcScope X scope own cap) (hi:DI X K E (.Name y p0) iter ti)
  (hin:∀ (s₃:Shared) (H₃:Hp) (fp:List Addr),QG (X.inn scope (L2.capN own cap) s₃ H₃ fp) (.Name y p0) (gName 0)/\DTs (X.inn scope (L2.capN own cap) s₃ H₃ fp) K [test] tif/\QE (X.inn scope (L2.capN own cap) s₃ H₃ fp) (.Name y p1) (tVar 0)) {j:Nat}
  (hs:∀ x,foldedSetIterable iter X.env x=pure x:=by intro _;rfl):DE X K E (.DictComp (.Name y p1) (.Constant (.bool true) j p2) [⟨.Name y p0,iter,[test],0⟩] scope pos) (dDCI ti tif cap) :=
 ⟨qe_imp (qpe_dci own cap hc L hi.q (fun a b c=>⟨(hin a b c).1,(hin a b c).2.1.q,(hin a b c).2.2,⟨pe_bl⟩⟩) hs) (le_dcI ho)⟩
theorem w_dcI {cap:List (Str × Nat)} {ρ:Ren} {Q:QD} {Xd:XD} (h:ti ρ (fun ds b=>∃ (ks:List Key) (g:Key->Bool) (ρ':Ren),ds=ks.map keyV/\ks.length < 1000000/\CapR cap ρ ρ'/\(∀ k∈ks,∀ Q':Bool->Prop,Q' (g k)->tif (some (false,keyV k)::ρ') Q' Xf)/\Q (dKD (trueD [] (ks.filter g))) (.own [])) Xd):dDCI ti tif cap ρ Q Xd:=h
theorem w_dcK {cap:List (Str × Nat)} {ρ:Ren} {Q:QD} {Xd:XD} (h:td ρ (fun d _=>∃ (es:List (Key × D)) (g:Key->Bool) (ρ':Ren),d=dKD es/\es.length < 1000000/\CapR cap ρ ρ'/\(∀ k∈es.map (·.1),∀ Q':Bool->Prop,Q' (g k)->tif (some (false,keyV k)::ρ') Q' Xf)/\Q (dKD (trueD [] ((es.map (·.1)).filter g))) (.own [])) Xd):dDCK td tif cap ρ Q Xd:=h
theorem w_lcK {cap:List (Str × Nat)} {ρ:Ren} {Q:QD} {Xd:XD} (h:td ρ (fun d _=>∃ (es:List (Key × D)) (g:Key->Bool) (ρ':Ren),d=dKD es/\es.length < 1000000/\CapR cap ρ ρ'/\(∀ k∈es.map (·.1),∀ Q':Bool->Prop,Q' (g k)->tif (some (false,keyV k)::ρ') Q' Xf)/\Q (.list (((es.map (·.1)).filter g).map keyV)) (.own [])) Xd):dLCK td tif cap ρ Q Xd:=h
def dDInF (tk:TKy) (td:TD):TD:=fun ρ Q Xd=>tk ρ (fun k=>td ρ (fun d _=>∃ es k',d=dFD es/\k=.inl k'/\Q (.bool (look es k').isSome) .old) Xd) Xd
theorem dpe_dinF {tk:TKy} {i o:Expr} (hu:X.A.units+1 < cLine) (hi:DKy X K E i tk) (ho:DE X K E o td) (hm:behindInMarks .In o=false):DE X K E (.Compare i [.In] [o] pos) (dDInF tk td) :=
 ⟨qe_imp (qpe_din hu hi.q ho.q hm) fun σ H Q h=>by
 obtain ⟨H0,ν,ρ,Qd,Xd,S,h1,q,x⟩:=h
 refine ⟨H0,ν,ρ,_,Xd,S,h1,fun k v H1 g1 e1 r1=>?_,x⟩
 refine ⟨H0,ν,ρ,_,Xd,S.same e1,g1,fun d kk u H2 g2 e2 r2=>?_,x⟩
 obtain ⟨es,k',rfl,rfl,g2⟩:=g2
 obtain ⟨a,kvs,rfl,e,p⟩:=dn_dF r2.den
 have r3:=r1.same e2
 cases r3
 refine ⟨a,_,rfl,.inl ⟨kvs,k',e,rfl,rfl⟩,?_⟩
 have:(valV kvs k').isSome=(look es k').isSome:=by
  rcases p.look k' with ⟨d,v,e1,e2,_⟩|⟨e1,e2⟩
  ·rw [e1,e2];rfl
  ·rw [e1,e2];rfl
 rw [this]
 exact q _ _ _ _ g2 (e1.trans e2) (.bl _)⟩
theorem w_dinF {tk:TKy} {ρ:Ren} {Q:QD} {Xd:XD} (h:tk ρ (fun k=>td ρ (fun d _=>∃ es k',d=dFD es/\k=.inl k'/\Q (.bool (look es k').isSome) .old) Xd) Xd):dDInF tk td ρ Q Xd:=h
def fInS:F2:=fun d _ e _ Q=>match d,e with
 | .str i,.str j=>Q (.bool (!(Builtin.Str.occurrences j i 0 j.length 1).isEmpty)) .old
 | _,_=>False
theorem dop_inS:DOp X K (compareOp .In) fInS:=⟨_,op_in_str,fun Z ν Hs H x y d k e l Qf Q _ _ _ h3 h4 h5 h6=>by
 unfold fInS at h5
 split at h5
 ·have a:=h3.den
  have b:=h4.den
  cases a
  cases b
  exact ⟨_,_,rfl,rfl,h6 _ _ _ _ h5 (Same.refl H) (.bl _)⟩
 ·exact h5.elim⟩
theorem w_inS {z y:Str} {k l:Kd} {Q:QD} (h:Q (.bool (!(Builtin.Str.occurrences y z 0 y.length 1).isEmpty)) .old):fInS (.str z) k (.str y) l Q:=h
def fSortS:FA:=fun ds _ Q=>∃ ts:List Str,ds=[.list (ts.map .str)]/\ts.Nodup/\ts.length < 128/\∀ us:List Str,us.Perm ts->us.Pairwise ltS->Q (.list (us.map .str)) (.own [])
theorem dns_txt {H:Hp}:∀ us:List Str,Dns K H (us.map V.str) (us.map PyData.str)
 | []=>.nil
 | x::r=>.cons (.str x) (dns_txt r)
theorem flats_txt:∀ us:List Str,flats (us.map PyData.str)=true
 | []=>rfl
 | x::r=>by rw [map_cons,flats,flats_txt r];rfl
theorem dns_txt' {H:Hp}:∀ {vs:List V} {us:List Str},Dns K H vs (us.map PyData.str)->vs=us.map V.str
 | [],[],_=>rfl
 | _,_::_,.cons h r=>by cases h;rw [dns_txt' r];rfl
theorem dcl_sortS (hK:X.K=K):DCl X K (.builtin "sorted") fSortS:=⟨_,call_sortS K hK,fun Z ν Hs H xs ds k Qf Q hl hn hs h g q=>by
 obtain ⟨ts,rfl,g1,g2,g⟩:=g
 obtain ⟨v,rfl,h1⟩:=dns1 h.dens
 obtain ⟨a,us,rfl,e1,e2⟩:=dns_of_lst h1
 have:=dns_txt' e2
 subst this
 refine ⟨a,ts,rfl,SqL.of e1,g1,g2,fun us p1 p2 l hp=>q _ _ _ _ (g us p1 p2) (Same.new hp) (res_newL (k:=.own []) hl hs hp ?_)⟩
 exact ⟨[],ows_flat (dns_txt _) (flats_txt _),nodup_nil,fun _ z=>by cases z⟩⟩
def fSortDS:FA:=fun ds _ Q=>∃ (es:List (Key × D)) (ts:List Str),ds=[dKD es]/\es.map (·.1)=ts.map Sum.inr/\ts.Nodup/\ts.length < 128/\∀ us:List Str,us.Perm ts->us.Pairwise ltS->Q (.list (us.map .str)) (.own [])
theorem dcl_sortDS (hc:X.calm=true):DCl X K (.builtin "sorted") fSortDS:=⟨_,call_sortDS hc,fun Z ν Hs H xs ds k Qf Q hl hn hs h g q=>by
 obtain ⟨es,ts,rfl,g0,g1,g2,g⟩:=g
 obtain ⟨v,rfl,h1⟩:=dns1 h.dens
 obtain ⟨a,kvs,rfl,e,p⟩:=dn_dK h1
 have hk:kvs.map (·.1)=ts.map Sum.inr:=by rw [vps_keys p];exact g0
 have hlen:kvs.length=ts.length:=by have:=congrArg List.length hk;rwa [length_map,length_map] at this
 refine ⟨a,kvs,ts,rfl,e,hk,g1,by rw [hlen];exact g2,fun us p1 p2 l hp=>q _ _ _ _ (g us p1 p2) (Same.new hp) (res_newL (k:=.own []) hl hs hp ?_)⟩
 exact ⟨[],ows_flat (dns_txt _) (flats_txt _),nodup_nil,fun _ z=>by cases z⟩⟩
end
end DL
namespace L2
open PySem PySem.Spec PyProof.Rows PySem.W PySem.Calls
theorem ps_setdci {X:Cx} {i:Nat} {y:Str} {py spos:Pos} {ke ve tg iter:Expr} {ifs:List Expr} {ti:TT} {scope:Scope} {pos:Pos} {wi:TI} {g:TG} {tk tv:TE} (own:List Str) (cap:List (Str × Nat)) (hN:X.N.Nodup) (hyi:X.N[i]?=some y) (hy:X.env.scope.names.lookup y=some .local) (hc:X.calm=true) (L:LcScope X scope own cap) (hi:PI X tg iter wi)
  (hin:∀ (s₃:Shared) (H₃:Hp) (fp:List Addr),PG (X.inn scope (capN own cap) s₃ H₃ fp) tg g/\PTs (X.inn scope (capN own cap) s₃ H₃ fp) ifs ti/\PE (X.inn scope (capN own cap) s₃ H₃ fp) ke tk/\PE (X.inn scope (capN own cap) s₃ H₃ fp) ve tv)
  (hsw:swapsWith (.DictComp ke ve [⟨tg,iter,ifs,0⟩] scope pos) (some (.Name y py)) spos.line X.env=pure true:=by rfl) (hs:∀ x,foldedSetIterable iter X.env x=pure x:=by intro _;rfl) :
  PS X (.Assign [.Name y py] (.DictComp ke ve [⟨tg,iter,ifs,0⟩] scope pos) spos) (tAsg (tDCI wi g ti tk tv own cap) (gName i)):=by
 intro pins s σ H D I h
 rw [exec_Assign_Name_used _ _ _ _ hsw]
 refine wpAny_bind (wpAny_standAt (wpAny_bind ?_))
 show wpAny _ X.A (do let _ <- comprehension (.DictComp ke ve [⟨tg,iter,ifs,0⟩] scope pos) scope X.env _ newDict false (eval iter X.env) (some (assign (.Name y py) X.env))) _ _ s
 have hcl:∀ x∈scope.names,x.2=.free->∃ c,X.env.cells.lookup x.1=some c:=fun x hx hk=>I.ok.has x.1 (L.fre x hx hk)
 refine wpAny_bind (wpAny_mono (wpAny_comprehension_free (use:=some (assign (.Name y py) X.env)) (Q:=fun _ s'=>SP X pins D .next s') rfl hs (closureFor_cl hcl) L.kind L.loc (thn (hi pins s σ H _ I h) fun x s1 h1=>thn h1 fun itv s2 ⟨it,fp,tn,J,H2,e,I2,T,st2,f2,q2⟩=>?_)) (fun _ s' hq=>wpAny_pure (wpAny_pure hq)) fun _ _ e=>e)
 subst e
 refine wpAny_newObj_type ?_
 have I3:=I2.laid (a:=s2.heap.objs.size) (o:=.dK []) (t':=s2.toks) (fun _ _ q=>Heap.get?_push_of_some _ q) (Nat.le_refl _) (dk_empty s2.heap I2.big)
 have fr2:H2 s2.heap.objs.size=none:=I2.fresh
 have f3:∀ b∈fp,FpOk X pins (upd H2 s2.heap.objs.size (.dK [])) b:=fun b hb=>by
  obtain ⟨o,eo,_⟩:=T.obj 0 _ st2 b hb
  obtain ⟨g1,g2⟩:=f2 b hb
  exact ⟨by rw [upd_ne (Nat.ne_of_lt (Heap.lt_size eo))];exact g1,g2⟩
 have k3:∀ b o,s2.heap.get? b=some o->(s2.heap.push { cls:=.type "dict",data:=.dict #[] }).get? b=some o:=fun b o e=>Heap.get?_push_of_some _ e
 have st3:tn 0 (s2.heap.push { cls:=.type "dict",data:=.dict #[] }):=T.keep 0 _ _ st2 fun b _ o e=>k3 b o e
 refine newEnv_in ?_
 have I4:=inv_in L I3 f3 fun b hb=>by obtain ⟨o,eo,_⟩:=T.obj 0 _ st3 b hb;exact ⟨o,eo⟩
 obtain ⟨hg,ht,hk,hv⟩:=hin { s2 with heap:=s2.heap.push { cls:=.type "dict",data:=.dict #[] },toks:=s2.toks } (upd H2 s2.heap.objs.size (.dK [])) fp
 have st4:=T.keep 0 _ (pushCells ((s2.heap.push { cls:=.type "dict",data:=.dict #[] }).push { cls:=.type "dict",data:=.dict #[] }) scope.names) st3 fun b _ o e=>pushCells_keeps _ _ b o (Heap.get?_push_of_some _ e)
 have f4:∀ b∈fp,FpOk (X.inn scope (capN own cap) { s2 with heap:=s2.heap.push { cls:=.type "dict",data:=.dict #[] },toks:=s2.toks } (upd H2 s2.heap.objs.size (.dK [])) fp) [] (upd H2 s2.heap.objs.size (.dK [])) b:=fun b hb =>
  ⟨(f3 b hb).1,(I4.ok.exf b hb).1,I4.ok.exfs b hb,.inl hb,(I4.ok.exf b hb).2,fun p hp=>absurd (show p∈([]:List (Addr × Obj)) from hp) (by simp)⟩
 have lp:=dci_loop (Y:=X.inn scope (capN own cap) { s2 with heap:=s2.heap.push { cls:=.type "dict",data:=.dict #[] },toks:=s2.toks } (upd H2 s2.heap.objs.size (.dK [])) fp) (acc:=s2.heap.objs.size) (scope:=scope) (pos:=pos) (iter:=iter) rfl hc hg ht hk hv I4 T st4 f4 (q2 _ fr2)
 have lp':=codeAny_mono lp (R':=compPost (model X.prog X.w) X.A X.xe (some (assign (.Name y py) X.env)) (fun _ s'=>SP X pins D .next s') (.ref s2.heap.objs.size) (s2.heap.push { cls:=.type "dict",data:=.dict #[] }).objs.size) fun r s' ⟨hr,σ',H',I',q'⟩=>by
  subst hr
  obtain ⟨m',hn',_⟩:=id I'.loc
  have B:=I'.base
  have I5:Inv X pins σ H' s':=I3.call' (ch:=fp) I'.os B I'.hok I'.bare fun b hb=>⟨(f3 b hb).2.2.2.1,(f3 b hb).2.1,(f3 b hb).2.2.2.2.1,(f3 b hb).2.2.2.2.2⟩
  have hC:H' (s2.heap.push { cls:=.type "dict",data:=.dict #[] }).objs.size=none:=I'.free
  show wpAny _ X.A (assign (.Name y py) X.env (.ref s2.heap.objs.size)) _ _ _
  refine wpAny_assign_Name (store_ok2 I5 hN hyi (.inl hy) (v:=.ref s2.heap.objs.size) rfl (fun s6 I6 ⟨a6,sb6,ha6⟩=>?_) (.inr hy))
  have neL:X.env.locals≠(s2.heap.push { cls:=.type "dict",data:=.dict #[] }).objs.size:=Nat.ne_of_lt I3.lt
  have ha:a6≠(s2.heap.push { cls:=.type "dict",data:=.dict #[] }).objs.size:=by
   rcases ha6 with rfl|ha6
   ·exact neL
   ·obtain ⟨v,hv⟩:=I3.cell y a6 ha6
    exact Nat.ne_of_lt hv.lt
  refine ⟨m',hn'.sameBut sb6 ha.symm,fun h' hsb=>?_⟩
  refine ⟨_,H',?_,q'⟩
  have kb:∀ b o,b≠(s2.heap.push { cls:=.type "dict",data:=.dict #[] }).objs.size->s6.heap.get? b=some o->h'.get? b=some o:=fun b o hb e=>(hsb.2 b hb).trans e
  refine I6.turned (t':=s6.toks) (it:=(s2.heap.push { cls:=.type "dict",data:=.dict #[] }).objs.size) kb hC neL.symm (.inr I3.sz) (fun x c e z=>?_) (fun p hp z=>?_)
  ·obtain ⟨v,hv⟩:=I3.cell x c e
   exact absurd z (Nat.ne_of_lt hv.lt)
  ·have:=(I3.pin p hp).1
   exact absurd z (Nat.ne_of_lt (Heap.lt_size this))
 exact dciStart_any lp' (T.self _ _ _ _ _ st4 lp')
def sThaw3 (H0:Hp) (t:TS):TS:=fun D σ H=>t { D with nx:=fun σ' H1=>∃ d o kvs,H1 d=some (.frz o (.dK kvs))/\(∀ o u,H0 d≠some (.frz o u))/\D.nx σ' (upd H1 d (.dK kvs)) } σ H
theorem qps_thaw3 {X:Cx} {st:Stmt} {t:TS} (h:QS X st t):QS X st (sThaw3 X.H₀ t):=⟨by
 intro pins s σ H D I hw
 refine thn (h.h pins s σ H _ I hw) fun f s1 q=>?_
 cases f with
 | next =>
  obtain ⟨σ',H1,I1,d,o,kvs,hd,h0,q⟩:=q
  exact ⟨σ',_,I1.thaw3 hd h0,q⟩
 | ret v=>exact q
 | brk=>exact q
 | cont=>exact q⟩
end L2
namespace DL
open PySem PySem.Spec PyProof.Rows L2
section
variable {X:Cx} {K:W.Frag} {E:XK} {pos p0 p1 p2:Pos} {iter:Expr} {scope:Scope} {td:TD} {tif:TDT} {y:Str} {test:Expr}
theorem dps_setdcK {i:Nat} {z:Str} {pz spos:Pos} (own:List Str) (cap:List (Str × Nat)) (hN:X.N.Nodup) (hyi:X.N[i]?=some z) (hy:X.env.scope.names.lookup z=some .local) (ho:own.length=1) (hc:X.calm=true) (L:LcScope X scope own cap) (hi:DE X K E iter td)
  (hin:∀ (s₃:Shared) (H₃:Hp) (fp:List Addr),QG (X.inn scope (L2.capN own cap) s₃ H₃ fp) (.Name y p0) (gName 0)/\DTs (X.inn scope (L2.capN own cap) s₃ H₃ fp) K [test] tif/\QE (X.inn scope (L2.capN own cap) s₃ H₃ fp) (.Name y p1) (tVar 0)) {j:Nat}
  (hsw:swapsWith (.DictComp (.Name y p1) (.Constant (.bool true) j p2) [⟨.Name y p0,iter,[test],0⟩] scope pos) (some (.Name z pz)) spos.line X.env=pure true:=by rfl) (hs:∀ x,foldedSetIterable iter X.env x=pure x:=by intro _;rfl) :
  DS X K E (.Assign [.Name z pz] (.DictComp (.Name y p1) (.Constant (.bool true) j p2) [⟨.Name y p0,iter,[test],0⟩] scope pos) spos) (dSet i (dDCK td tif cap)) :=
 ⟨qs_imp (qps_thaw3 ⟨ps_setdci (i:=i) own cap hN hyi hy hc L (qpi_dictH hi.q).h (fun a b c=>⟨(hin a b c).1.h,(hin a b c).2.1.q.h,(hin a b c).2.2.h,pe_bl⟩) hsw hs⟩) fun En σ H h=>by
  obtain ⟨H0,ν,ρ,Dd,Xd,S,h1,ok,x⟩:=h
  refine le_dcK (own:=own) X.H₀ ho σ H (fun v H2=>En.nx (σ.set i (some v)) H2) ⟨H0,ν,ρ,_,Xd,S,h1,fun d k v H' g1 g2 g3=>?_,x⟩
  obtain ⟨ν',S'⟩:=S.setK g2 g3 i
  exact ok.nx _ _ _ _ g1 S'⟩
theorem le_dinF {tk:TKy}:∀ σ H Q,LE K E (dDInF tk td) σ H Q->tDIn (LKy K E tk) (LE K E td) σ H Q:=fun σ H Q h=>by
 obtain ⟨H0,ν,ρ,Qd,Xd,S,h1,q,x⟩:=h
 refine ⟨H0,ν,ρ,_,Xd,S,h1,fun k v H1 g1 e1 r1=>?_,x⟩
 refine ⟨H0,ν,ρ,_,Xd,S.same e1,g1,fun d kk u H2 g2 e2 r2=>?_,x⟩
 obtain ⟨es,k',rfl,rfl,g2⟩:=g2
 obtain ⟨a,kvs,rfl,e,p⟩:=dn_dF r2.den
 have r3:=r1.same e2
 cases r3
 refine ⟨a,_,rfl,.inl ⟨kvs,k',e,rfl,rfl⟩,?_⟩
 have:(valV kvs k').isSome=(look es k').isSome:=by
  rcases p.look k' with ⟨d,v,e1,e2,_⟩|⟨e1,e2⟩
  ·rw [e1,e2];rfl
  ·rw [e1,e2];rfl
 rw [this]
 exact q _ _ _ _ g2 (e1.trans e2) (.bl _)
theorem dpt_dinF {tk:TKy} {i o:Expr} (hu:X.A.units+1 < cLine) (hi:DKy X K E i tk) (ho:DE X K E o td) (hm:behindInMarks .In o=false):DT X K E (.Compare i [.In] [o] pos) (dB (dDInF tk td)) :=
 ⟨qt_imp (qpt_din hu hi.q ho.q hm) fun σ H Q h=>le_dinF σ H _ (le_b h)⟩
end
end DL
namespace M20
open PySem PySem.Spec PyProof.Rows L2
def chr (c:Nat):Str:=⟨#[c]⟩
def has (b x:Str):Bool:=!(Builtin.Str.occurrences x b 0 x.length 1).isEmpty
def fr (bs:List Str) (x:Str):Bool:=bs.all fun b=>!has b x
theorem tl_app (a b:Str):(a++b).cps.toList=a.cps.toList++b.cps.toList:=by
 show (a.cps++b.cps).toList=_
 simp
theorem ln_app (a b:Str):(a++b).length=a.length+b.length:=by
 show (a.cps++b.cps).size=_
 rw [Array.size_append];rfl
theorem len_tl (a:Str):a.cps.toList.length=a.length:=by rw [Array.length_toList];rfl
theorem ext {a b:Str} (h:a.cps.toList=b.cps.toList):a=b:=Str.ext' (Array.toList_inj.mp h)
theorem has_app {b w y:Str} (h:has b w=true):has b (w++y)=true:=by
 unfold has at h ⊢
 obtain ⟨i,h1,h2⟩:=(StrLaws.found_iff w b).mp h
 refine (StrLaws.found_iff (w++y) b).mpr ⟨i,by rw [ln_app];omega,?_⟩
 unfold Builtin.Str.subAt at h2 ⊢
 rw [beq_iff_eq] at h2 ⊢
 rw [<-h2]
 apply Array.toList_inj.mp
 rw [Array.toList_extract,Array.toList_extract,tl_app]
 simp only [List.extract_eq_drop_take]
 rw [List.drop_append,List.take_append]
 have e:i+b.length - i - (w.cps.toList.drop i).length=0:=by rw [length_drop,len_tl];omega
 rw [e,List.take_zero,append_nil]
theorem fr_app {bs:List Str} {w y:Str} (h:fr bs (w++y)=true):fr bs w=true:=by
 unfold fr at h ⊢
 rw [all_eq_true] at h ⊢
 intro b hb
 have:=h b hb
 cases e:has b w with
 | false=>rfl
 | true=>rw [has_app e] at this;cases this
def letters (k:Nat):List Nat:=(List.range k).map (97+·)
def W (k:Nat):Nat->List Str
 | 0=>[⟨#[]⟩]
 | n+1=>(W k n).flatMap fun w=>(letters k).map fun c=>w++chr c
theorem mem_W {k:Nat}:∀ {n:Nat} {x:Str},x∈W k n ↔ x.length=n/\∀ c∈x.cps.toList,c∈letters k
 | 0,x=>by
  rw [W,mem_singleton]
  constructor
  ·rintro rfl;exact ⟨rfl,fun c hc=>by simp at hc⟩
  ·rintro ⟨h,_⟩
   apply ext
   have:x.cps.toList.length=0:=by rw [len_tl];exact h
   rw [List.length_eq_zero_iff.mp this]
 | n+1,x=>by
  rw [W,List.mem_flatMap]
  constructor
  ·rintro ⟨w,hw,hx⟩
   obtain ⟨c,hc,rfl⟩:=mem_map.mp hx
   obtain ⟨h1,h2⟩:=mem_W.mp hw
   refine ⟨by rw [ln_app,h1];rfl,fun d hd=>?_⟩
   rw [tl_app] at hd
   rcases mem_append.mp hd with hd|hd
   ·exact h2 d hd
   ·have:d=c:=by simpa [chr] using hd
    rw [this];exact hc
  ·rintro ⟨h1,h2⟩
   have hl:x.cps.toList.length=n+1:=by rw [len_tl];exact h1
   have hne:x.cps.toList≠[]:=fun z=>by rw [z] at hl;cases hl
   refine ⟨⟨x.cps.toList.dropLast.toArray⟩,mem_W.mpr ⟨?_,fun c hc=>h2 c ((List.dropLast_sublist _).subset (by simpa using hc))⟩,mem_map.mpr ⟨x.cps.toList.getLast hne,h2 _ (List.getLast_mem hne),ext ?_⟩⟩
   ·show (x.cps.toList.dropLast.toArray).size=n
    rw [size_toArray,List.length_dropLast,hl];rfl
   ·rw [tl_app]
    exact List.dropLast_concat_getLast hne
theorem app_inj {a b:Str} {c d:Nat} (h:a++chr c=b++chr d):a=b/\c=d:=by
 have:=congrArg (fun x:Str=>x.cps.toList) h
 simp only [tl_app] at this
 have:=List.append_inj' this rfl
 exact ⟨ext this.1,by simpa [chr] using this.2⟩
theorem nodup_W (k:Nat):∀ n,(W k n).Nodup
 | 0=>by simp [W]
 | n+1=>by
  rw [W]
  refine List.pairwise_flatMap.mpr ⟨fun a _=>?_,?_⟩
  ·refine List.pairwise_map.mpr ?_
   have:(letters k).Nodup:=by
    unfold letters
    refine List.pairwise_map.mpr (List.Pairwise.imp ?_ List.nodup_range)
    intro a b h z;omega
   exact this.imp fun h z=>h (app_inj z).2
  ·refine List.Pairwise.imp ?_ (nodup_W k n)
   intro a b h x hx y hy z
   obtain ⟨c,_,rfl⟩:=mem_map.mp hx
   obtain ⟨d,_,rfl⟩:=mem_map.mp hy
   exact h (app_inj z).1
theorem len_W (k:Nat):∀ n,(W k n).length=k ^ n
 | 0=>rfl
 | n+1=>by
  rw [W,List.length_flatMap,Nat.pow_succ,<-len_W k n]
  have e:(fun w:Str=>((letters k).map fun c=>w++chr c).length)=fun _=>k:=by
   funext w;unfold letters;simp
  rw [e,List.map_const',List.sum_replicate_nat]
def sl0 (x:Str):Str:=Txt.slice x none (some (-1))
def sl1 (x:Str):Str:=Txt.slice x (some 1) none
theorem sl0_tl {x:Str} (h:1<=x.length):(sl0 x).cps.toList=x.cps.toList.dropLast:=by
 have:=slice_closes_to_neg (x:=x) (j:=-1) (k:=-1+(x.length:Int)) (by omega) (by omega) rfl
 rw [beq_iff_eq] at this
 unfold sl0
 rw [this,List.dropLast_eq_take]
 show List.take _ (List.drop 0 _)=_
 rw [List.drop_zero,len_tl]
 congr 1
 omega
theorem sl1_tl {x:Str} (h:1<=x.length):(sl1 x).cps.toList=x.cps.toList.tail:=by
 unfold sl1
 rw [slice_from_eq (b:=(x.length:Int)) (by omega) (by omega) rfl]
 show List.take _ (List.drop 1 _)=_
 rw [List.drop_one,List.take_of_length_le]
 rw [List.length_tail,len_tl]
 omega
theorem sl0_app (w:Str) (c:Nat):sl0 (w++chr c)=w:=by
 apply ext
 rw [sl0_tl (by rw [ln_app];show 1<=_+1;omega),tl_app]
 show (w.cps.toList++[c]).dropLast=_
 rw [List.dropLast_concat]
theorem sl1_app (w:Str) (c:Nat):sl1 (chr c++w)=w:=by
 apply ext
 rw [sl1_tl (by rw [ln_app];show 1<=1+_;omega),tl_app]
 rfl
theorem cut0 {k n:Nat} {x:Str} (h:x∈W k (n+1)):sl0 x∈W k n/\∃ c∈letters k,x=sl0 x++chr c:=by
 rw [W,List.mem_flatMap] at h
 obtain ⟨w,hw,hx⟩:=h
 obtain ⟨c,hc,rfl⟩:=mem_map.mp hx
 rw [sl0_app]
 exact ⟨hw,c,hc,rfl⟩
theorem cut1 {k n:Nat} {x:Str} (h:x∈W k (n+1)):sl1 x∈W k n/\∃ c∈letters k,x=chr c++sl1 x:=by
 obtain ⟨h1,h2⟩:=mem_W.mp h
 have hl:x.cps.toList.length=n+1:=by rw [len_tl];exact h1
 have e:=sl1_tl (x:=x) (by omega)
 match hx:x.cps.toList with
 | []=>rw [hx] at hl;cases hl
 | c::r =>
  rw [hx] at e hl h2
  rw [List.tail_cons] at e
  refine ⟨mem_W.mpr ⟨?_,fun d hd=>h2 d (mem_cons_of_mem _ (by rw [e] at hd;exact hd))⟩,c,h2 c mem_cons_self,ext ?_⟩
  ·have:=congrArg List.length e
   rw [len_tl] at this
   rw [this];simpa using hl
  ·rw [tl_app,e,hx];rfl
theorem mk0 {k n:Nat} {w:Str} {c:Nat} (h:w∈W k n) (hc:c∈letters k):w++chr c∈W k (n+1):=by
 rw [W,List.mem_flatMap]
 exact ⟨w,h,mem_map.mpr ⟨c,hc,rfl⟩⟩
theorem mk1 {k n:Nat} {w:Str} {c:Nat} (h:w∈W k n) (hc:c∈letters k):chr c++w∈W k (n+1):=by
 obtain ⟨h1,h2⟩:=mem_W.mp h
 refine mem_W.mpr ⟨by rw [ln_app,h1];show 1+n=_;omega,fun d hd=>?_⟩
 rw [tl_app] at hd
 rcases mem_append.mp hd with hd|hd
 ·have:d=c:=by simpa [chr] using hd
  rw [this];exact hc
 ·exact h2 d hd
def steps (k:Nat) (bs:List Str) (n:Nat):List (Str × Str):=((W k (n+1)).filter (fr bs)).map fun x=>(sl0 x,sl1 x)
theorem mem_steps {k n:Nat} {bs:List Str} {u v:Str}:(u,v)∈steps k bs n ↔ ∃ x∈W k (n+1),fr bs x=true/\sl0 x=u/\sl1 x=v:=by
 unfold steps
 rw [mem_map]
 constructor
 ·rintro ⟨x,hx,e⟩
  rw [mem_filter] at hx
  cases e
  exact ⟨x,hx.1,hx.2,rfl,rfl⟩
 ·rintro ⟨x,h1,h2,rfl,rfl⟩
  exact ⟨x,mem_filter.mpr ⟨h1,h2⟩,rfl⟩
def Win (k:Nat) (bs:List Str) (n:Nat) (t:Str):Prop:=∃ M:Str->Prop,M t/\∀ w,M w->(∃ v,M v/\(w,v)∈steps k bs n)/\∃ u,M u/\(u,w)∈steps k bs n
def both (k:Nat) (bs:List Str) (K:List Str) (w:Str):Bool:=((letters k).any fun c=>decide (sl1 (w++chr c)∈K)&&fr bs (w++chr c))&&((letters k).any fun c=>decide (sl0 (chr c++w)∈K)&&fr bs (chr c++w))
theorem both_iff {k n:Nat} {bs:List Str} {K:List Str} {w:Str} (hw:w∈W k n):both k bs K w=true ↔ (∃ v,v∈K/\(w,v)∈steps k bs n)/\∃ u,u∈K/\(u,w)∈steps k bs n:=by
 unfold both
 rw [Bool.and_eq_true,any_eq_true,any_eq_true]
 constructor
 ·rintro ⟨⟨c,hc,h1⟩,d,hd,h2⟩
  rw [Bool.and_eq_true,decide_eq_true_eq] at h1 h2
  exact ⟨⟨_,h1.1,mem_steps.mpr ⟨_,mk0 hw hc,h1.2,sl0_app _ _,rfl⟩⟩,_,h2.1,mem_steps.mpr ⟨_,mk1 hw hd,h2.2,rfl,sl1_app _ _⟩⟩
 ·rintro ⟨⟨v,hv,h1⟩,u,hu,h2⟩
  obtain ⟨x,x1,x2,x3,x4⟩:=mem_steps.mp h1
  obtain ⟨y,y1,y2,y3,y4⟩:=mem_steps.mp h2
  obtain ⟨_,c,hc,ex⟩:=cut0 x1
  obtain ⟨_,d,hd,ey⟩:=cut1 y1
  rw [x3] at ex
  rw [y4] at ey
  refine ⟨⟨c,hc,?_⟩,d,hd,?_⟩
  ·rw [<-ex,x4,Bool.and_eq_true,decide_eq_true_eq];exact ⟨hv,x2⟩
  ·rw [<-ey,y3,Bool.and_eq_true,decide_eq_true_eq];exact ⟨hu,y2⟩
structure Kp (k:Nat) (bs:List Str) (n:Nat) (K:List Str):Prop where
 nd:K.Nodup
 sub:∀ w∈K,w∈W k n
 win:∀ w,Win k bs n w->w∈K
theorem Kp.start (k:Nat) (bs:List Str) (n:Nat):Kp k bs n ((W k n).filter (fr bs)):=by
 refine ⟨(nodup_W k n).filter _,fun w h=>(mem_filter.mp h).1,fun w ⟨M,h,c⟩=>?_⟩
 obtain ⟨⟨v,_,hv⟩,_⟩:=c w h
 obtain ⟨x,x1,x2,x3,_⟩:=mem_steps.mp hv
 obtain ⟨hw,d,hd,ex⟩:=cut0 x1
 rw [x3] at hw ex
 rw [ex] at x2
 exact mem_filter.mpr ⟨hw,fr_app x2⟩
theorem Kp.step {k n:Nat} {bs:List Str} {K:List Str} (h:Kp k bs n K):Kp k bs n (K.filter (both k bs K)):=by
 refine ⟨h.nd.filter _,fun w hw=>h.sub w (mem_filter.mp hw).1,fun w hw=>mem_filter.mpr ⟨h.win w hw,?_⟩⟩
 rw [both_iff (h.sub w (h.win w hw))]
 obtain ⟨M,hm,c⟩:=hw
 obtain ⟨⟨v,v1,v2⟩,u,u1,u2⟩:=c w hm
 exact ⟨⟨v,h.win v ⟨M,v1,c⟩,v2⟩,u,h.win u ⟨M,u1,c⟩,u2⟩
theorem Kp.fin {k n:Nat} {bs:List Str} {K:List Str} (h:Kp k bs n K) (e:(K.filter (both k bs K)).length=K.length) (t:Str):t∈K ↔ Win k bs n t:=by
 have ha:∀ w∈K,both k bs K w=true:=List.length_filter_eq_length_iff.mp e
 exact ⟨fun ht=>⟨(·∈K),ht,fun w hw=>(both_iff (h.sub w hw)).mp (ha w hw)⟩,h.win t⟩
def pk (sd:Bool) (s:Str × Str):Str:=if sd=true then s.2 else s.1
def Last (ss:List (Str × Str)) (sd:Bool) (t:Str):Prop:=∃ M:Str->Prop,M t/\∀ w,M w->∃ s∈ss,pk sd s=w/\M (pk (!sd) s)
def addK (ks:List Str) (t:Str):List Str:=if t∈ks then ks else ks++[t]
theorem mem_addK {ks:List Str} {t x:Str}:x∈addK ks t ↔ x∈ks\/x=t:=by
 unfold addK
 split
 ·constructor
  ·exact .inl
  ·rintro (h|rfl)
   ·exact h
   ·assumption
 ·simp
theorem nodup_addK {ks:List Str} {t:Str} (h:ks.Nodup):(addK ks t).Nodup:=by
 unfold addK
 split
 ·exact h
 ·rename_i hn
  rw [nodup_append]
  exact ⟨h,by simp,fun a ha b hb=>by rw [mem_singleton] at hb;subst hb;exact fun e=>hn (e ▸ ha)⟩
def uq (l:List Str):List Str:=l.foldl addK []
theorem mem_fold:∀ (l ks:List Str) (x:Str),x∈l.foldl addK ks ↔ x∈ks\/x∈l
 | [],ks,x=>by simp
 | t::r,ks,x=>by rw [List.foldl_cons,mem_fold r,mem_addK,mem_cons,or_assoc]
theorem nodup_fold:∀ (l ks:List Str),ks.Nodup->(l.foldl addK ks).Nodup
 | [],ks,h=>h
 | t::r,ks,h=>nodup_fold r _ (nodup_addK h)
theorem mem_uq {l:List Str} {x:Str}:x∈uq l ↔ x∈l:=by unfold uq;rw [mem_fold];simp
theorem nodup_uq (l:List Str):(uq l).Nodup:=nodup_fold l [] nodup_nil
theorem uq_snoc (l:List Str) (t:Str):uq (l++[t])=addK (uq l) t:=by unfold uq;rw [List.foldl_append];rfl
theorem len_fold:∀ (l ks:List Str),(l.foldl addK ks).length<=ks.length+l.length
 | [],ks=>Nat.le_refl _
 | t::r,ks=>by
  have:=len_fold r (addK ks t)
  have h2:(addK ks t).length<=ks.length+1:=by unfold addK;split<;>simp
  rw [List.foldl_cons,length_cons];omega
theorem len_uq (l:List Str):(uq l).length<=l.length:=by have:=len_fold l [];simpa [uq] using this
def sel (ss:List (Str × Str)) (sd:Bool) (L:List Str):List (Str × Str):=ss.filter fun s=>decide (pk (!sd) s∈L)
def nxt (ss:List (Str × Str)) (sd:Bool) (L:List Str):List Str:=uq ((sel ss sd L).map (pk sd))
theorem mem_nxt {ss:List (Str × Str)} {sd:Bool} {L:List Str} {t:Str}:t∈nxt ss sd L ↔ ∃ s∈ss,pk sd s=t/\pk (!sd) s∈L:=by
 unfold nxt sel
 rw [mem_uq,mem_map]
 constructor
 ·rintro ⟨s,hs,rfl⟩
  rw [mem_filter,decide_eq_true_eq] at hs
  exact ⟨s,hs.1,rfl,hs.2⟩
 ·rintro ⟨s,h1,rfl,h2⟩
  exact ⟨s,mem_filter.mpr ⟨h1,decide_eq_true h2⟩,rfl⟩
structure Lt (ss:List (Str × Str)) (sd:Bool) (L:List Str) (m:Nat):Prop where
 nd:L.Nodup
 last:∀ t,Last ss sd t->t∈L
 down:∀ t∈nxt ss sd L,t∈L
 stop:m<=L.length->∀ t∈L,t∈nxt ss sd L
theorem Lt.start (ss:List (Str × Str)) (sd:Bool):Lt ss sd (uq (ss.map (pk sd))) ((uq (ss.map (pk sd))).length+1):=by
 refine ⟨nodup_uq _,fun t ⟨M,h,c⟩=>?_,fun t ht=>?_,fun h=>by omega⟩
 ·obtain ⟨s,hs,e,_⟩:=c t h
  rw [mem_uq];exact mem_map.mpr ⟨s,hs,e⟩
 ·obtain ⟨s,hs,e,_⟩:=mem_nxt.mp ht
  rw [mem_uq];exact mem_map.mpr ⟨s,hs,e⟩
theorem sub_all {l m:List Str} (h1:l.Nodup) (h2:∀ x∈l,x∈m) (h3:m.length<=l.length) (hm:m.Nodup):∀ x∈m,x∈l:=by
 induction l generalizing m with
 | nil =>
  intro x hx
  have e:m=[]:=List.length_eq_zero_iff.mp (Nat.le_zero.mp h3)
  rw [e] at hx;cases hx
 | cons a l ih =>
  intro x hx
  have ha:=h2 a mem_cons_self
  have hl:=List.length_erase_of_mem ha
  rw [nodup_cons] at h1
  by_cases z:x=a
  ·rw [z];exact mem_cons_self
  ·refine mem_cons_of_mem _ (ih h1.2 (m:=m.erase a) (fun y hy=>(List.mem_erase_of_ne (fun e:y=a=>h1.1 (by rw [<-e];exact hy))).mpr (h2 y (mem_cons_of_mem _ hy))) ?_ (hm.erase a) x ((List.mem_erase_of_ne z).mpr hx))
   rw [length_cons] at h3;omega
theorem Lt.step {ss:List (Str × Str)} {sd:Bool} {L:List Str} {m:Nat} (h:Lt ss sd L m):Lt ss sd (nxt ss sd L) L.length:=by
 refine ⟨nodup_uq _,fun t ht=>?_,fun t ht=>?_,fun hl t ht=>?_⟩
 ·obtain ⟨M,hm,c⟩:=ht
  obtain ⟨s,hs,e,h2⟩:=c t hm
  exact mem_nxt.mpr ⟨s,hs,e,h.last _ ⟨M,h2,c⟩⟩
 ·obtain ⟨s,hs,e,h2⟩:=mem_nxt.mp ht
  exact mem_nxt.mpr ⟨s,hs,e,h.down _ h2⟩
 ·obtain ⟨s,hs,e,h2⟩:=mem_nxt.mp ht
  exact mem_nxt.mpr ⟨s,hs,e,sub_all (nodup_uq _) h.down hl h.nd _ h2⟩
theorem Lt.fin {ss:List (Str × Str)} {sd:Bool} {L:List Str} {m:Nat} (h:Lt ss sd L m) (hl:m<=L.length) (t:Str):t∈L ↔ Last ss sd t :=
 ⟨fun ht=>⟨(·∈L),ht,fun w hw=>mem_nxt.mp (h.stop hl w hw)⟩,h.last t⟩
theorem win_iff {k n:Nat} {bs:List Str} {t:Str}:Win k bs n t ↔ Last (steps k bs n) true t/\Last (steps k bs n) false t:=by
 constructor
 ·rintro ⟨M,h,c⟩
  exact ⟨⟨M,h,fun w hw=>by obtain ⟨_,u,h1,h2⟩:=c w hw;exact ⟨_,h2,rfl,h1⟩⟩,M,h,fun w hw=>by obtain ⟨⟨v,h1,h2⟩,_⟩:=c w hw;exact ⟨_,h2,rfl,h1⟩⟩
 ·rintro ⟨h1,h0⟩
  refine ⟨fun w=>Last (steps k bs n) true w/\Last (steps k bs n) false w,⟨h1,h0⟩,fun w ⟨⟨M1,a1,c1⟩,M0,a0,c0⟩=>⟨?_,?_⟩⟩
  ·obtain ⟨⟨u,v⟩,s1,s2,s3⟩:=c0 w a0
   have s2:u=w:=s2
   subst s2
   refine ⟨v,⟨⟨fun y=>M1 y\/y=v,.inr rfl,fun y hy=>?_⟩,M0,s3,c0⟩,s1⟩
   rcases hy with hy|rfl
   ·obtain ⟨s,b1,b2,b3⟩:=c1 y hy
    exact ⟨s,b1,b2,.inl b3⟩
   ·exact ⟨_,s1,rfl,.inl a1⟩
  ·obtain ⟨⟨u,v⟩,s1,s2,s3⟩:=c1 w a1
   have s2:v=w:=s2
   subst s2
   refine ⟨u,⟨⟨M1,s3,c1⟩,fun y=>M0 y\/y=u,.inr rfl,fun y hy=>?_⟩,s1⟩
   rcases hy with hy|rfl
   ·obtain ⟨s,b1,b2,b3⟩:=c0 y hy
    exact ⟨s,b1,b2,.inl b3⟩
   ·exact ⟨_,s1,rfl,.inl a0⟩
end M20
namespace M22
open PySem PySem.Spec PyProof.Rows L2 M20
def sT (l:List Nat):Str:=⟨l.toArray⟩
theorem sT_tl (l:List Nat):(sT l).cps.toList=l:=rfl
theorem sT_of (x:Str):sT x.cps.toList=x:=ext rfl
theorem has_iff {b x:Str}:has b x=true ↔ b.cps.toList <:+: x.cps.toList:=by
 unfold has
 rw [StrLaws.found_iff]
 constructor
 ·rintro ⟨i,h1,h2⟩
  rw [StrLaws.subAt_eq,beq_iff_eq] at h2
  exact ⟨x.cps.toList.take i,(x.cps.toList.drop i).drop b.length,by rw [<-h2,append_assoc,take_append_drop,take_append_drop]⟩
 ·rintro ⟨s,t,e⟩
  refine ⟨s.length,?_,?_⟩
  ·have:=congrArg List.length e
   simp only [length_append,len_tl] at this
   omega
  ·rw [StrLaws.subAt_eq,beq_iff_eq,<-e,append_assoc,List.drop_left,<-len_tl b,List.take_left]
theorem fr_iff {bs:List Str} {x:Str}:fr bs x=true ↔ ∀ b∈bs,¬ b.cps.toList <:+: x.cps.toList:=by
 unfold fr
 rw [all_eq_true]
 constructor
 ·intro h b hb z
  have:=h b hb
  rw [has_iff.mpr z] at this;cases this
 ·intro h b hb
  cases e:has b x with
  | false=>rfl
  | true=>exact absurd (has_iff.mp e) (h b hb)
theorem fr_sub {bs:List Str} {x y:Str} (h:fr bs x=true) (s:y.cps.toList <:+: x.cps.toList):fr bs y=true :=
 fr_iff.mpr fun b hb z=>fr_iff.mp h b hb (z.trans s)
def Ok (k:Nat) (l:List Nat):Prop:=∀ c∈l,c∈letters k
theorem step_of {k n:Nat} {bs:List Str} {l:List Nat} (hl:l.length=n+1) (ok:Ok k l) (h:fr bs (sT l)=true):(sT l.dropLast,sT l.tail)∈steps k bs n:=by
 have h1:1<=(sT l).length:=by rw [<-len_tl,sT_tl];omega
 refine mem_steps.mpr ⟨sT l,mem_W.mpr ⟨by rw [<-len_tl,sT_tl];exact hl,ok⟩,h,ext ?_,ext ?_⟩
 ·rw [sl0_tl h1];rfl
 ·rw [sl1_tl h1];rfl
theorem of_step {k n:Nat} {bs:List Str} {u v:Str} (h:(u,v)∈steps k bs n):∃ l:List Nat,l.length=n+1/\Ok k l/\fr bs (sT l)=true/\u.cps.toList=l.dropLast/\v.cps.toList=l.tail:=by
 obtain ⟨x,x1,x2,x3,x4⟩:=mem_steps.mp h
 obtain ⟨y1,y2⟩:=mem_W.mp x1
 refine ⟨x.cps.toList,by rw [len_tl];exact y1,y2,by rw [sT_of];exact x2,?_,?_⟩
 ·rw [<-x3,sl0_tl (by omega)]
 ·rw [<-x4,sl1_tl (by omega)]
theorem Last.fwd {ss:List (Str × Str)} {u v:Str} (h:Last ss true u) (s:(u,v)∈ss):Last ss true v:=by
 obtain ⟨M,m,c⟩:=h
 refine ⟨fun t=>M t\/t=v,.inr rfl,fun w hw=>?_⟩
 rcases hw with hw|rfl
 ·obtain ⟨s',a,b,d⟩:=c w hw
  exact ⟨s',a,b,.inl d⟩
 ·exact ⟨_,s,rfl,.inl m⟩
theorem Last.bwd {ss:List (Str × Str)} {u v:Str} (h:Last ss false v) (s:(u,v)∈ss):Last ss false u:=by
 obtain ⟨M,m,c⟩:=h
 refine ⟨fun t=>M t\/t=u,.inr rfl,fun w hw=>?_⟩
 rcases hw with hw|rfl
 ·obtain ⟨s',a,b,d⟩:=c w hw
  exact ⟨s',a,b,.inl d⟩
 ·exact ⟨_,s,rfl,.inl m⟩
theorem Last.nx {ss:List (Str × Str)} {u:Str} (h:Last ss false u):∃ v,(u,v)∈ss/\Last ss false v:=by
 obtain ⟨M,m,c⟩:=h
 obtain ⟨⟨a,b⟩,s,e,d⟩:=c u m
 have e:a=u:=e
 subst e
 exact ⟨b,s,M,d,c⟩
theorem win_w {k n:Nat} {bs:List Str} {t:Str} (h:Win k bs n t):t.length=n/\Ok k t.cps.toList :=
 mem_W.mp ((Kp.start k bs n).sub t ((Kp.start k bs n).win t h))
theorem begins {k n:Nat} {bs:List Str} {x:List Nat}:∀ (i:Nat) {t:Str},Win k bs n t->x <+: t.cps.toList.drop i->i+x.length<=n->∃ t',Win k bs n t'/\x <+: t'.cps.toList
 | 0,t,h,p,_=>⟨t,h,by simpa using p⟩
 | i+1,t,h,p,hl=>by
  obtain ⟨M,m,c⟩:=h
  obtain ⟨⟨v,v1,v2⟩,_⟩:=c t m
  obtain ⟨l,l1,_,_,l4,l5⟩:=of_step v2
  refine begins i (t:=v) ⟨M,v1,c⟩ ?_ (by omega)
  rw [l4] at p
  rw [l5]
  have e:(l.tail).drop i=l.drop (i+1):=by rw [<-List.drop_one,drop_drop,Nat.add_comm]
  rw [e]
  refine p.trans ?_
  obtain ⟨r,hr⟩:=List.dropLast_prefix l
  have:l.dropLast.drop (i+1) <+: l.drop (i+1):=by
   rw [List.dropLast_eq_take]
   rw [List.drop_take]
   exact List.take_prefix _ _
  exact this
def sts (k:Nat) (bs:List Str) (n:Nat) (x:Str):Prop :=
 if x.length < n then ∃ t,Win k bs n t/\x.cps.toList <+: t.cps.toList
 else fr bs x=true/\∀ j,j+n<=x.length->Win k bs n (sT ((x.cps.toList.drop j).take n))
def lws (k:Nat) (bs:List Str) (n:Nat) (x:Str):Prop :=
 if x.length < n then ∃ t,Win k bs n t/\has x t=true
 else fr bs x=true/\Last (steps k bs n) true (sT (x.cps.toList.take n))/\Last (steps k bs n) false (sT (x.cps.toList.drop (x.length - n)))
theorem sub_step {k n:Nat} {bs:List Str} {x:Str} (ok:Ok k x.cps.toList) (f:fr bs x=true) {j:Nat} (hj:j+1+n<=x.length):(sT ((x.cps.toList.drop j).take n),sT ((x.cps.toList.drop (j+1)).take n))∈steps k bs n:=by
 have hl:((x.cps.toList.drop j).take (n+1)).length=n+1:=by rw [length_take,length_drop,len_tl];omega
 have:=step_of (k:=k) (bs:=bs) (l:=(x.cps.toList.drop j).take (n+1)) hl (fun c hc=>ok c (mem_of_mem_drop (mem_of_mem_take hc))) (fr_sub f (List.IsInfix.trans (List.take_prefix _ _).isInfix (List.drop_suffix _ _).isInfix))
 rw [List.dropLast_eq_take,hl,List.take_take,Nat.add_sub_cancel,Nat.min_eq_left (Nat.le_succ n)] at this
 have e:((x.cps.toList.drop j).take (n+1)).tail=(x.cps.toList.drop (j+1)).take n:=by
  rw [<-List.drop_one,List.drop_take,drop_drop];rfl
 rw [e] at this
 exact this
theorem same {k n:Nat} {bs:List Str} {x:Str} (ok:Ok k x.cps.toList):sts k bs n x ↔ lws k bs n x:=by
 unfold sts lws
 by_cases h:x.length < n
 ·rw [if_pos h,if_pos h]
  constructor
  ·rintro ⟨t,t1,t2⟩
   exact ⟨t,t1,has_iff.mpr t2.isInfix⟩
  ·rintro ⟨t,t1,t2⟩
   obtain ⟨s,r,e⟩:=has_iff.mp t2
   have hl:=congrArg List.length e
   simp only [length_append,len_tl] at hl
   refine begins s.length t1 ⟨r,by rw [<-e,append_assoc,List.drop_left]⟩ ?_
   rw [len_tl]
   have:=(win_w t1).1
   omega
 ·rw [if_neg h,if_neg h]
  have e0:((x.cps.toList.drop (x.length - n)).take n)=x.cps.toList.drop (x.length - n):=List.take_of_length_le (by rw [length_drop,len_tl];omega)
  constructor
  ·rintro ⟨f,a⟩
   have a0:=win_iff.mp (a 0 (by omega))
   have a1:=win_iff.mp (a (x.length - n) (by omega))
   rw [e0] at a1
   exact ⟨f,a0.1,a1.2⟩
  ·rintro ⟨f,a,b⟩
   refine ⟨f,fun j hj=>win_iff.mpr ⟨?_,?_⟩⟩
   ·clear b
    induction j with
    | zero=>exact a
    | succ j ih=>exact Last.fwd (ih (by omega)) (sub_step ok f (by omega))
   ·rw [<-e0] at b
    clear a
    obtain ⟨m,em⟩:∃ m,j+m=x.length - n:=⟨x.length - n - j,by omega⟩
    induction m generalizing j with
    | zero => have : j = x.length - n := by omega
              rw [this];exact b
    | succ m ih=>exact Last.bwd (ih (j+1) (by omega) (by omega)) (sub_step ok f (by omega))
theorem sts_ok {k n:Nat} {bs:List Str} {x:Str} (hn:1<=n) (h:sts k bs n x):Ok k x.cps.toList:=by
 unfold sts at h
 split at h
 ·obtain ⟨t,t1,t2⟩:=h
  exact fun c hc=>(win_w t1).2 c (t2.subset hc)
 ·rename_i hl
  obtain ⟨_,a⟩:=h
  intro c hc
  obtain ⟨i,hi,rfl⟩:=List.mem_iff_getElem.mp hc
  have hi':i < x.length:=by rw [<-len_tl];exact hi
  by_cases hh:i+n<=x.length
  ·have:=(win_w (a i hh)).2
   refine this _ ?_
   rw [sT_tl]
   rw [mem_iff_getElem?]
   exact ⟨0,by rw [List.getElem?_take,if_pos (by omega),List.getElem?_drop];simp⟩
  ·have:=(win_w (a (x.length - n) (by omega))).2
   refine this _ ?_
   rw [sT_tl,mem_iff_getElem?]
   exact ⟨i - (x.length - n),by rw [List.getElem?_take,if_pos (by omega),List.getElem?_drop];rw [show x.length - n+(i - (x.length - n))=i from by omega];exact List.getElem?_eq_getElem hi⟩
theorem lws_on {k n:Nat} {bs:List Str} {x:Str} (hb:∀ b∈bs,b.length<=n+1) (hn:n<=x.length) (h:lws k bs n x):∃ c∈letters k,lws k bs n (x++chr c):=by
 unfold lws at h
 rw [if_neg (by omega)] at h
 obtain ⟨f,a,b⟩:=h
 obtain ⟨v,v1,v2⟩:=Last.nx b
 obtain ⟨l,l1,l2,l3,l4,l5⟩:=of_step v1
 rw [sT_tl] at l4
 have hne:l≠[]:=fun z=>by rw [z] at l1;cases l1
 have el:=List.dropLast_concat_getLast hne
 refine ⟨l.getLast hne,l2 _ (List.getLast_mem hne),?_⟩
 have hlx:(x++chr (l.getLast hne)).length=x.length+1:=by rw [ln_app];rfl
 have hxx:(x++chr (l.getLast hne)).cps.toList=x.cps.toList++[l.getLast hne]:=by rw [tl_app];rfl
 unfold lws
 rw [if_neg (by omega),hlx,hxx]
 refine ⟨fr_iff.mpr fun b hb' z=>?_,?_,?_⟩
 ·rw [hxx] at z
  obtain ⟨s,t,e⟩:=z
  rcases List.eq_nil_or_concat t with rfl|⟨t',d,rfl⟩
  ·rw [append_nil] at e
   refine fr_iff.mp l3 b hb' ?_
   rw [sT_tl,<-el]
   have hs:b.cps.toList <:+ x.cps.toList++[l.getLast hne]:=⟨s,e⟩
   have hl':l.dropLast++[l.getLast hne] <:+ x.cps.toList++[l.getLast hne]:=by
    rw [<-l4]
    refine ⟨x.cps.toList.take (x.length - n),?_⟩
    rw [<-append_assoc,take_append_drop]
   refine (List.suffix_of_suffix_length_le hs hl' ?_).isInfix
   rw [len_tl,el,l1]
   exact hb b hb'
  ·refine fr_iff.mp f b hb' ⟨s,t',?_⟩
   rw [List.concat_eq_append,<-append_assoc] at e
   exact (List.append_inj' e rfl).1
 ·rw [List.take_append_of_le_length (by rw [len_tl];exact hn)]
  exact a
 ·have e:sT ((x.cps.toList++[l.getLast hne]).drop (x.length+1 - n))=v:=by
   refine ext ?_
   rw [sT_tl,l5]
   by_cases hn0:n=0
   ·subst hn0
    rw [List.drop_eq_nil_of_le (by rw [length_append,len_tl];exact Nat.le_refl _)]
    have:l.tail.length=0:=by rw [List.length_tail,l1]
    exact (List.length_eq_zero_iff.mp this).symm
   ·rw [List.drop_append_of_le_length (by rw [len_tl];omega)]
    have e1:l.tail=l.dropLast.tail++[l.getLast hne]:=by
     conv=>lhs;rw [<-el]
     cases hd:l.dropLast with
     | nil=>exfalso;have:=congrArg List.length hd;rw [List.length_dropLast,l1] at this;simp at this;omega
     | cons a r=>rfl
    rw [e1,<-l4,<-List.drop_one,drop_drop]
    congr 2
    omega
  rw [e]
  exact v2
theorem win_lws {k n:Nat} {bs:List Str} {t:Str} (h:Win k bs n t):lws k bs n t:=by
 have hl:=(win_w h).1
 unfold lws
 rw [if_neg (by omega),hl,Nat.sub_self,List.drop_zero,List.take_of_length_le (by rw [len_tl];omega),sT_of]
 have w:=win_iff.mp h
 refine ⟨?_,w⟩
 have:=(mem_filter.mp ((Kp.start k bs n).win t h)).2
 exact this
end M22
local macro_rules | `(tactic| walk_at "d") => `(tactic| repeat (first | with_reducible refine DL.w_nx ?_ | with_reducible refine DL.w_onX ?_ | with_reducible refine DL.w_mm ?_ | with_reducible refine DL.w_sw ?_ | with_reducible refine DL.w_niS ?_ | with_reducible refine DL.w_dIn ?_ | with_reducible refine DL.w_dPut ?_ | with_reducible refine DL.w_hasK ?_ | with_reducible refine DL.w_kyS ?_ | with_reducible refine DL.w_lenDK ?_ | with_reducible refine DL.w_newK ?_ | with_reducible refine DL.w_onIn ?_ | with_reducible refine DL.w_onKs ?_ | with_reducible refine DL.w_onPut rfl rfl ?_ | with_reducible refine DL.w_putDK ?_ | with_reducible refine DL.w_dinF ?_ | with_reducible refine DL.w_inS ?_ | with_reducible refine DL.w_dcI ?_ | with_reducible refine DL.w_dcK ?_ | with_reducible refine DL.w_lcK ?_ | with_reducible refine DL.w_tryN ?_ | with_reducible refine DL.w_callX ?_ | with_reducible refine DL.w_isX ?_ | with_reducible refine DL.w_isXB ?_ | with_reducible refine DL.w_slT ?_ | with_reducible refine DL.w_maxD ?_ | with_reducible refine DL.w_xCl ?_ | with_reducible refine DL.w_xSt ?_ | with_reducible refine DL.w_rt ?_ | with_reducible refine DL.w_seq ?_ | with_reducible refine DL.w_set ?_ | with_reducible refine DL.w_ret ?_ | with_reducible refine DL.w_drop ?_ | with_reducible refine DL.w_next ?_ | with_reducible refine DL.w_ifS ?_ | with_reducible refine DL.w_frz ?_ | with_reducible refine DL.w_c ?_ | with_reducible refine DL.w_op ?_ | with_reducible refine DL.w_fI0 ?_ | with_reducible refine DL.w_fI ?_ | with_reducible refine DL.w_addI ?_ | with_reducible refine DL.w_addL ?_ | with_reducible refine DL.w_addS ?_ | with_reducible refine DL.w_ixL ?_ | with_reducible refine DL.w_ixT ?_ | with_reducible refine DL.w_ixX ?_ | with_reducible refine DL.w_mulX ?_ | with_reducible refine DL.w_slX ?_ | with_reducible refine DL.w_eqI ?_ | with_reducible refine DL.w_eq ?_ | with_reducible refine DL.w_in ?_ | with_reducible refine DL.w_inT ?_ | with_reducible refine DL.w_neg ?_ | with_reducible refine DL.w_notV ?_ | with_reducible refine DL.w_andV ?_ | with_reducible refine DL.w_B ?_ | with_reducible refine DL.w_or ?_ | with_reducible refine DL.w_not ?_ | with_reducible refine DL.w_true ?_ | with_reducible refine DL.w_tru ?_ | with_reducible refine DL.w_truL ?_ | with_reducible refine DL.w_truB ?_ | with_reducible refine DL.w_chain ?_ | with_reducible refine DL.w_nil ?_ | with_reducible refine DL.w_cons ?_ | with_reducible refine DL.w_ints ?_ | with_reducible refine DL.w_tup ?_ | with_reducible refine DL.w_lst ?_ | with_reducible refine DL.w_call0 ?_ | with_reducible refine DL.w_call ?_ | with_reducible refine DL.w_cb ?_ | with_reducible refine DL.w_len ?_ | with_reducible refine DL.w_lenT ?_ | with_reducible refine DL.w_lenX ?_ | with_reducible refine DL.w_lenS ?_ | with_reducible refine DL.w_bls ?_ | with_reducible refine DL.w_list ?_ | with_reducible refine DL.w_max2 ?_ | with_reducible refine DL.w_isi ?_ | with_reducible refine DL.w_sl ?_ | with_reducible refine DL.w_noPart ?_ | with_reducible refine DL.w_part ?_ | with_reducible refine DL.w_slL ?_ | with_reducible refine DL.w_bName ?_ | with_reducible refine DL.w_for ?_ | with_reducible refine DL.w_iL ?_ | with_reducible refine DL.w_iT ?_ | with_reducible refine DL.w_iS ?_ | with_reducible refine DL.w_onS ?_ | with_reducible refine DL.w_on1I ?_ | with_reducible refine DL.w_iR1 ?_ | with_reducible refine DL.w_unp ?_ | with_reducible refine DL.w_raise ?_ | with_reducible refine DL.w_lc ?_ | with_reducible refine DL.w_emit ?_ | with_reducible refine DL.w_bFor ?_ | with_reducible refine DL.w_ift ?_ | with_reducible refine DL.w_iff ?_ | with_reducible refine DL.w_onB ?_ | with_reducible refine DL.w_onI ?_ | with_reducible refine DL.w_onL ?_ | with_reducible refine DL.w_onT ?_ | with_reducible refine DL.w_v0 ?_ | with_reducible refine DL.w_v1 ?_ | with_reducible refine DL.w_v2 ?_ | with_reducible refine DL.w_v3 ?_ | with_reducible refine DL.w_v4 ?_ | with_reducible refine DL.w_v5 ?_ | with_reducible refine DL.w_v6 ?_ | with_reducible refine DL.w_v7 ?_ | with_reducible refine DL.w_v8 ?_ | with_reducible refine DL.w_v9 ?_ | with_reducible refine DL.w_v10 ?_ | with_reducible refine DL.w_o1 ?_ | with_reducible refine DL.w_o2 ?_ | with_reducible refine DL.w_o3 ?_ | with_reducible refine DL.w_o4 ?_ | with_reducible refine DL.w_o5 ?_ | with_reducible refine DL.w_o7 ?_ | with_reducible refine DL.w_o8 ?_ | with_reducible refine DL.w_o11 ?_ | ((with_reducible refine And.intro ?c ?_); (case c => first | exact trivial | exact Nat.le_of_ble_eq_true rfl | decide | (unfold L2.CPow; decide) | (unfold L2.CDiv; decide) | exact L2.CMul.ok (.inl ⟨by decide, by decide⟩) | exact L2.CMul.ok (.inr ⟨by decide, by decide⟩) | exact rfl | omega)) | simp only [DL.kels2_flat, DL.kels_strs, DL.setK_ownK, DL.setK_oldK, DL.setK_mixK, DL.flat_dK, DL.setK_int, DL.setK_bool, DL.setK_str, DL.setK_non, DL.setK_own, DL.setK_old, DL.setK_mix, DL.setK_ownI, DL.setK_oldI, DL.setK_mixI, DL.setK_ownG, DL.setK_oldG, DL.setK_mixG, DL.setK_tup, DL.rtK_int, DL.rtK_bool, DL.rtK_str, DL.rtK_non, DL.rtK_own, DL.rtK_tup, DL.kcons_flat, DL.kcons_int, DL.kcons_boo, DL.kcons_st, DL.kcons_nn, DL.one_iD, DL.two_iD, DL.kcons_own, DL.kcons_old, DL.frz_nil, DL.frz1_0, DL.frz1_s, DL.frz_some, DL.frz_none, DL.dropS_nil, DL.dropS_cons, DL.kRet_t, DL.kRet_f, DL.sub_own, DL.sub_old, DL.sub_ownc, DL.sub_mix, DL.isOld_own, DL.isOld_old, DL.isOld_mix, DL.isOld_ownc, DL.eff_int, DL.eff_bool, DL.eff_str, DL.eff_tup, DL.eff_ltc, DL.eff_iD, DL.eff_gD, DL.isOwnK_own, DL.isOwnK_old, DL.unpK_own, DL.unpK_flat, DL.setAll_cons, DL.setAll_nil, DL.app_iD, DL.app_gD, DL.list_iD, DL.list_gD, DL.flat_int, DL.flat_bool, DL.flat_str, DL.flat_non, DL.flat_list, DL.flat_tuple, DL.flats_nil, DL.flats_cons, DL.flat_iD, DL.flat_gD, List.set_cons_zero, List.set_cons_succ, append_nil, List.nil_append, Bool.and_true, Bool.true_and, Bool.and_self, Bool.not_true, Bool.not_false, DL.capR, DL.capOk, map_cons, List.map_nil, List.cons_append, List.getElem?_cons_zero, List.getElem?_cons_succ, Option.join_some, Option.map_some, all_cons, List.all_nil]))
local macro_rules | `(tactic| walk_at "sc") => `(tactic| exact ⟨rfl, rfl, rfl, by decide +kernel, rfl, by decide +kernel, by decide +kernel⟩)
namespace K22
open PySem PySem.Spec PyProof.Rows L2 DL
def top (i : Nat) : Stmt := PySem.Challenge.pw_foreverrows_k22_words_that_stand.main.body.getD i (.Pass ⟨0, 0, 0, 0⟩)
structure Blt (mg:Str->Option Value):Prop where
 len:mg "len"=none
 range:mg "range"=none
 list:mg "list"=none
 int:mg "int"=none
 bool:mg "bool"=none
 isinstance:mg "isinstance"=none
 any:mg "any"=none
 all:mg "all"=none
 sorted:mg "sorted"=none
 max:mg "max"=none
 ValueError:mg "ValueError"=none
section
variable {P:Program} {w:World} {K:W.Frag} {mg:Str->Option Value} {base:Heap}
def scr (ns:List Int):D:=.dict [(.none,.list (ns.map .int))]
abbrev s_l_cell_at:Stmt:=top 28
theorem sc_l_cell_at:FnScope ["_law_script","_law_k"] ["_law_script","_law_k"] (defScope s_l_cell_at):=by walk_at "sc"
def sp_cell:SpD:=fun ds Q _=>∃ (ns:List Int) (k:Int),ds=[scr ns,.int k]/\0<=k/\∀ z:Int,Q (.int z) true
theorem ok_l_cell_at {f:Addr} {fd:FuncData} (F:Fun K "_law_cell_at" "_law_cell_at" s_l_cell_at f fd) (T:Blt mg):FnOk P w K mg base CX0 1 f fd ["_law_script","_law_k"] (SpL K sp_cell):=by
 refine ok0 F sc_l_cell_at (fun ds Q X h=>?_) (fun cdv A outer s H E hr=>?_) fun ds Qd Xd h=>h
 ·obtain ⟨ns,k,rfl,_⟩:=h;rfl
 refine ⟨_,(zB (zR (zS dop_lt (dpv 1) (zG (dcl_len (by rfl)) (by rfl) (by exact T.len) (by decide +kernel) (zA (dpv 0) zC)) (nomark _)) (zE (zI (dpe_ix (dix (by rfl)) (dpv 0) (dpv 1) (fun _ _=>rfl)))) zO)
   (zE (zI zD))),fun ds Qd h=>?_⟩
 obtain ⟨ns,k,rfl,hk,q⟩:=h
 show (_:TSD) _ [some (false,.dict [(.none,.list (ns.map .int))]),some (false,.int k)] _
 walk_at "d"
 refine ite2 (fun h1=>?_) fun _=>?_
 ·walk_at "d"
  have hlt:k.toNat < ns.length:=by simp at h1;omega
  refine ⟨.int ns[k.toNat],?_,?_⟩
  ·have:=atI_nat (xs:=ns.map PyData.int) (j:=k.toNat) (v:=PyData.int ns[k.toNat]) (by simp [hlt])
   rw [show ((k.toNat:Nat):Int)=k from Int.toNat_of_nonneg hk] at this
   exact this
  ·exact q _
 ·walk_at "d"
  exact q _
abbrev s_l_big:Stmt:=top 29
theorem sc_l_big:FnScope ["_law_script","_law_at","_law_cell","_law_primes","_law_big_here","_law_k","_law_one"] ["_law_script","_law_at"] (defScope s_l_big):=by walk_at "sc"
def sp_big:SpD:=fun ds Q _=>∃ (ns:List Int) (k:Int),ds=[scr ns,.int k]/\0<=k/\∀ z:Int,0<=z->Q (.int z) true
theorem ok_l_big {f:Addr} {fd:FuncData} (F:Fun K "_law_big" "_law_big" s_l_big f fd) (T:Blt mg) (D_l_cell_at:Df P w K mg base "_law_cell_at" ["_law_script","_law_k"] 1 (SpL K sp_cell)):FnOk P w K mg base CX0 2 f fd ["_law_script","_law_at"] (SpL K sp_big):=by
 refine ok0 F sc_l_big (fun ds Q X h=>?_) (fun cdv A outer s H E hr=>?_) fun ds Qd Xd h=>h
 ·obtain ⟨ns,k,rfl,_⟩:=h;rfl
 refine ⟨_,(zB (dpset 2 sc_l_big.nd (zK (by exact D_l_cell_at) (by exact hr.mono (by omega)) (zA (dpv 0) (zA (dpv 1) zC))))
   (zB (zR (zS dop_ge (dpv 2) (zF dop_pow zD zD) (nomark _)) (zE (zI (dpv 2))) zO)
   (zB (dpset 3 sc_l_big.nd (dpe_tup (dpa_ints (by rfl))))
   (zB (dpset 4 sc_l_big.nd zD)
   (zB (dps_for PassesOwn.never rfl (dpi_range1 (by rfl) (by exact T.range) (zA zD zC)) (dpgn 5 sc_l_big.nd) (zB (dpset 6 sc_l_big.nd (zF zJ (zF zJ (zF zP (zK (by exact D_l_cell_at) (by exact hr.mono (by omega)) (zA (dpv 0) (zA (zF zJ (dpv 1) (zF zP (dpv 5) zD)) zC))) (zF dop_pow zD zD)) (zF dop_mul zD (dpv 5))) zD))
   (zE (dpset 4 sc_l_big.nd (zF zJ (zF dop_mul (dpv 4) zD) (zF zP (zF dop_mul (zF zP (zF zJ (zF dop_mul (dpv 6) (dpv 6)) (zF dop_mul zD (dpv 5))) (dpe_ix (dix (by rfl)) (dpv 3) (zF zP (dpv 5) zD) (fun _ _=>rfl))) (zF zJ (dpv 5) zD)) zD))))))
   (zE (zI (dpv 4)))))))),fun ds Qd h=>?_⟩
 obtain ⟨ns,k,rfl,hk,q⟩:=h
 show (_:TSD) _ [some (false,scr ns),some (false,.int k),none,none,none,none,none] _
 walk_at "d"
 refine ⟨ns,k,rfl,hk,fun z=>?_⟩
 walk_at "d"
 refine ite2 (fun h1=>?_) fun h1=>?_
 ·walk_at "d"
  refine q z ?_
  have:(0:Int)<=10 ^ Int.toNat 18:=by decide
  simp at h1;omega
 walk_at "d"
 refine lp_rng (fun i ρ=>∃ (b:Int) (x y:Option (Bool × D)),ρ=[some (false,scr ns),some (false,.int k),some (false,.int z),some (false,.tuple [.int 99989,.int 99971,.int 99961,.int 99929,.int 99923,.int 99907,.int 99901,.int 99881,.int 99877]),some (false,.int b),x,y]/\0<=b) ⟨0,_,_,rfl,by decide⟩ ?_ ?_
 ·rintro i ρ hi ⟨b,x,y,rfl,hb⟩
  walk_at "d"
  have h9:=Int.emod_nonneg (0+(i:Int)) (show (9:Int)≠0 by decide)
  have h9':=Int.emod_lt_of_pos (0+(i:Int)) (show (0:Int) < 9 by decide)
  refine ⟨ns,_,rfl,by omega,fun c=>?_⟩
  walk_at "d"
  have c1:(10:Int) ^ Int.toNat 18=1000000000000000000:=by decide
  rw [c1]
  have hi':i < 64:=hi
  have h0:=Int.emod_nonneg c (show (1000000000000000000:Int)≠0 by decide)
  have h1:=Int.emod_lt_of_pos c (show (0:Int) < 1000000000000000000 by decide)
  refine ⟨CMul.ok (.inl ⟨by omega,by omega⟩),?_⟩
  walk_at "d"
  obtain ⟨m,hm,em⟩:∃ m:Nat,m < 9/\(0+(i:Int)) % 9=(m:Int):=⟨((0+(i:Int)) % 9).toNat,by omega,by omega⟩
  obtain ⟨pr,hpr,hpp⟩:∃ pr:Int,[PyData.int 99989,.int 99971,.int 99961,.int 99929,.int 99923,.int 99907,.int 99901,.int 99881,.int 99877][m]?=some (PyData.int pr)/\0 < pr/\pr < 100000:=by
   match m,hm with
   | 0,_=>exact ⟨_,rfl,by decide,by decide⟩
   | 1,_=>exact ⟨_,rfl,by decide,by decide⟩
   | 2,_=>exact ⟨_,rfl,by decide,by decide⟩
   | 3,_=>exact ⟨_,rfl,by decide,by decide⟩
   | 4,_=>exact ⟨_,rfl,by decide,by decide⟩
   | 5,_=>exact ⟨_,rfl,by decide,by decide⟩
   | 6,_=>exact ⟨_,rfl,by decide,by decide⟩
   | 7,_=>exact ⟨_,rfl,by decide,by decide⟩
   | 8,_=>exact ⟨_,rfl,by decide,by decide⟩
  refine ⟨.int pr,by rw [em];exact atI_nat hpr,?_⟩
  walk_at "d"
  refine ⟨CMul.ok (.inr ⟨by omega,by omega⟩),?_⟩
  walk_at "d"
  refine ⟨_,_,_,rfl,?_⟩
  have:=Int.emod_nonneg (((c % 1000000000000000000+7*(0+(i:Int))+1)*(c % 1000000000000000000+7*(0+(i:Int))+1)+31*(0+(i:Int))) % pr*(0+(i:Int)+3)) (show (8191:Int)≠0 by decide)
  omega
 ·rintro ρ ⟨b,x,y,rfl,hb⟩
  walk_at "d"
  exact q b hb
def InL (k:Nat) (c:Nat):Prop:=97<=c/\c < 97+k
def Let (k:Nat) (z:Str):Prop:=z.length=k/\∀ c∈z.cps.toList,InL k c
def bD (bs:List Str):D:=.list (bs.map .str)
theorem let_of {k:Nat} (h:k=2\/k=3\/k=4):Let k (Txt.slice (Str.ofString "abcd") none (some (k:Int))):=by
 rcases h with rfl|rfl|rfl
 ·have e:Txt.slice (Str.ofString "abcd") none (some ((2:Nat):Int))=⟨#[97,98]⟩:=by decide +kernel
  rw [e];exact ⟨rfl,by unfold InL;decide⟩
 ·have e:Txt.slice (Str.ofString "abcd") none (some ((3:Nat):Int))=⟨#[97,98,99]⟩:=by decide +kernel
  rw [e];exact ⟨rfl,by unfold InL;decide⟩
 ·have e:Txt.slice (Str.ofString "abcd") none (some ((4:Nat):Int))=⟨#[97,98,99,100]⟩:=by decide +kernel
  rw [e];exact ⟨rfl,by unfold InL;decide⟩
theorem cps_app (a b:Str):(a++b).cps.toList=a.cps.toList++b.cps.toList:=by
 show (a.cps++b.cps).toList=_
 simp
theorem len_app (a b:Str):(a++b).length=a.length+b.length:=by
 show (a.cps++b.cps).size=_
 rw [Array.size_append];rfl
theorem cat_at {α:Type} {l:List α} {z:Int} (h:0<=z) (h':z < l.length):∃ c,c∈l/\atI l z=some c:=by
 obtain ⟨j,rfl⟩:∃ j:Nat,z=j:=⟨z.toNat,by omega⟩
 have hj:j < l.length:=by omega
 exact ⟨l[j],List.getElem_mem hj,atI_nat (List.getElem?_eq_getElem hj)⟩
abbrev s_l_word:Stmt:=top 30
theorem sc_l_word:FnScope ["_law_big_here","_law_letters","_law_many","_law_word_here","_law_k"] ["_law_big_here","_law_letters","_law_many"] (defScope s_l_word):=by walk_at "sc"
def sp_word:SpD:=fun ds Q _=>∃ (b:Int) (z:Str) (k n:Nat),ds=[.int b,.str z,.int n]/\0<=b/\Let k z/\1<=k/\k<=4/\n<=10/\∀ (x:Str) (b':Int),x.length=n->(∀ c∈x.cps.toList,InL k c)->0<=b'->Q (.tuple [.str x,.int b']) true
theorem ok_l_word {f:Addr} {fd:FuncData} (F:Fun K "_law_word" "_law_word" s_l_word f fd) (T:Blt mg):FnOk P w K mg base CX0 1 f fd ["_law_big_here","_law_letters","_law_many"] (SpL K sp_word):=by
 refine ok0 F sc_l_word (fun ds Q X h=>?_) (fun cdv A outer s H E hr=>?_) fun ds Qd Xd h=>h
 ·obtain ⟨b,z,k,n,rfl,_⟩:=h;rfl
 refine ⟨_,(zB (dpset 3 sc_l_word.nd zQ)
   (zB (dps_for PassesOwn.never rfl (dpi_range1 (by rfl) (by exact T.range) (zA (dpv 2) zC)) (dpgn 4 sc_l_word.nd) (zB (dpset 3 sc_l_word.nd (zF zJ (dpv 3) (dpe_ix dixS (dpv 1) (zF zP (dpv 0) (zG dcl_lenS (by rfl) (by exact T.len) (by decide +kernel) (zA (dpv 1) zC))) (fun _ _=>rfl))))
   (zE (dpset 0 sc_l_word.nd (zF dop_fdivB (dpv 0) (zG dcl_lenS (by rfl) (by exact T.len) (by decide +kernel) (zA (dpv 1) zC)))))))
   (zE (zI (dpe_tup (zA (dpv 3) (zA (dpv 0) zC))))))),fun ds Qd h=>?_⟩
 obtain ⟨b,z,k,n,rfl,hb,hz,hk1,hk4,hn,q⟩:=h
 show (_:TSD) _ [some (false,.int b),some (false,.str z),some (false,.int n),none,none] _
 walk_at "d"
 refine lp_rng (fun i ρ=>∃ (bb:Int) (x:Str) (y:Option (Bool × D)),ρ=[some (false,.int bb),some (false,.str z),some (false,.int n),some (false,.str x),y]/\0<=bb/\x.length=i/\∀ c∈x.cps.toList,InL k c) ⟨b,_,_,rfl,hb,rfl,fun _ z=>by cases z⟩ ?_ ?_
 ·rintro i ρ hi ⟨bb,x,y,rfl,hbb,hx1,hx2⟩
  have hzl:=hz.1
  have h0:(0:Int) < (z.length:Int):=by omega
  have hi':i < n:=by simpa using hi
  walk_at "d"
  obtain ⟨c,hc,ec⟩:=cat_at (l:=z.cps.toList) (z:=bb % (z.length:Int)) (Int.emod_nonneg _ (Int.ne_of_gt h0)) (by have:=Int.emod_lt_of_pos bb h0;rw [Array.length_toList];exact this)
  refine ⟨c,ec,?_⟩
  walk_at "d"
  refine ⟨by have:Str.length ⟨#[c]⟩=1:=rfl;omega,?_⟩
  walk_at "d"
  refine ⟨⟨h0,10,by decide,by omega⟩,_,_,_,rfl,Int.ediv_nonneg hbb (by omega),by rw [len_app,hx1];rfl,fun d hd=>?_⟩
  rw [cps_app] at hd
  rcases mem_append.mp hd with hd|hd
  ·exact hx2 d hd
  ·have e:d=c:=by simpa using hd
   rw [e];exact hz.2 c hc
 ·rintro ρ ⟨bb,x,y,rfl,hbb,hx1,hx2⟩
  walk_at "d"
  exact q _ _ (by rw [hx1];simp) hx2 hbb
abbrev s_is_whole:Stmt:=top 9
theorem sc_is_whole:FnScope ["thing"] ["thing"] (defScope s_is_whole):=by walk_at "sc"
def sp_whole:SpD:=fun ds Q _=>∃ i:Int,ds=[.int i]/\Q (.bool true) true
theorem ok_is_whole {f:Addr} {fd:FuncData} (F:Fun K "is_whole" "is_whole" s_is_whole f fd) (T:Blt mg):FnOk P w K mg base CX0 1 f fd ["thing"] (SpL K sp_whole):=by
 refine ok0 F sc_is_whole (fun ds Q X h=>?_) (fun cdv A outer s H E hr=>?_) fun ds Qd Xd h=>h
 ·obtain ⟨i,rfl,_⟩:=h;rfl
 refine ⟨_,(zE (zI (dpe_and (dpe_isi (by rfl) kit_int (by rfl) (by exact T.isinstance) (dpv 0) (by rfl) (by exact T.int) (by decide +kernel)) (dpe_one (dpe_not (dpe_isi (by rfl) kit_bool (by rfl) (by exact T.isinstance) (dpv 0) (by rfl) (by exact T.bool) (by decide +kernel))))))),fun ds Qd h=>?_⟩
 obtain ⟨i,rfl,q⟩:=h
 show (_:TSD) _ [some (false,.int i)] _
 walk_at "d"
 rw [if_pos (by rfl)]
 walk_at "d"
 exact q
def Sml (bs:List Str):Prop:=bs.length<=100/\∀ b∈bs,b.length<=100
def lens (bs:List Str):List Int:=bs.map fun b=>(b.length:Int)
def mx2 (ns:List Int):Int:=ns.foldl (fun m x=>if x > m then x else m) 2
theorem fold_ge:∀ (ns:List Int) (m:Int),m<=ns.foldl (fun m x=>if x > m then x else m) m/\∀ x∈ns,x<=ns.foldl (fun m x=>if x > m then x else m) m
 | [],m=>⟨Int.le_refl _,fun _ z=>by cases z⟩
 | y::r,m=>by
  have h:=fold_ge r (if y > m then y else m)
  rw [List.foldl_cons]
  have h1:m<=(if y > m then y else m):=by split<;>omega
  have h2:y<=(if y > m then y else m):=by split<;>omega
  refine ⟨Int.le_trans h1 h.1,fun x hx=>?_⟩
  rcases mem_cons.mp hx with rfl|hx
  ·exact Int.le_trans h2 h.1
  ·exact h.2 x hx
theorem fold_in:∀ (ns:List Int) (m:Int),ns.foldl (fun m x=>if x > m then x else m) m=m\/ns.foldl (fun m x=>if x > m then x else m) m∈ns
 | [],m=>.inl rfl
 | y::r,m=>by
  rw [List.foldl_cons]
  rcases fold_in r (if y > m then y else m) with h|h
  ·rw [h]
   split
   ·exact .inr mem_cons_self
   ·exact .inl rfl
  ·exact .inr (mem_cons_of_mem _ h)
def wid (bs:List Str):Int:=mx2 (lens bs) - 1
theorem wid_of {bs:List Str} {M:Int} (h1:lens bs=[]->M=1) (h2:lens bs≠[]->M∈lens bs/\∀ x∈lens bs,x<=M):(if 1 > M - 1 then 1 else M - 1)=wid bs:=by
 unfold wid mx2
 have g:=fold_ge (lens bs) 2
 have i:=fold_in (lens bs) 2
 by_cases e:lens bs=[]
 ·rw [h1 e,e];rfl
 ·obtain ⟨a,b⟩:=h2 e
  have c:=g.2 M a
  rcases i with i|i
  ·rw [i] at c ⊢;split<;>omega
  ·have d:=b _ i
   have:=g.1
   split<;>omega
theorem wid_pos (bs:List Str):1<=wid bs:=by
 have:=(fold_ge (lens bs) 2).1
 unfold wid mx2;omega
theorem wid_le {bs:List Str} {m:Int} (hm:2<=m) (h:∀ b∈bs,(b.length:Int)<=m):wid bs<=m - 1:=by
 unfold wid mx2
 rcases fold_in (lens bs) 2 with i|i
 ·rw [i];omega
 ·obtain ⟨b,hb,e⟩:=mem_map.mp i
  have:=h b hb
  omega
abbrev s_plain_width:Stmt:=top 19
theorem sc_plain_width:FnScope ["bars","longest"] ["bars"] (defScope s_plain_width):=by walk_at "sc"
def sp_pw:SpD:=fun ds Q _=>∃ bs:List Str,ds=[bD bs]/\Sml bs/\Q (.int (wid bs)) true
theorem ok_plain_width {f:Addr} {fd:FuncData} (F:Fun K "plain_width" "plain_width" s_plain_width f fd) (T:Blt mg):FnOk P w K mg base CX0 1 f fd ["bars"] (SpL K sp_pw):=by
 refine ok0 F sc_plain_width (fun ds Q X h=>?_) (fun cdv A outer s H E hr=>?_) fun ds Qd Xd h=>h
 ·obtain ⟨bs,rfl,_⟩:=h;rfl
 refine ⟨_,(zB (dpset 1 sc_plain_width.nd (dpe_maxD (by rfl) (by rfl) (by rfl) (by exact T.max) (zA (dpe_lc ["bar"] [] rfl (LcScope.of (by kernel_rfl)) (dpi_list (by rfl) (dpv 0)) (fun _ _ _ _=>⟨(dpgn 0 (nd_of (by kernel_rfl))),dpts_nil,(dpb_emit (by rfl) (by rfl) (zG dcl_lenS (by rfl) (by exact T.len) (by decide +kernel) (zA (dpv 0) zC)))⟩)) zC)))
   (zE (zI (zG (dcl_max (by rfl) (by rfl)) (by rfl) (by exact T.max) (by decide +kernel) (zA (zF dop_sub (dpv 1) zD) (zA zD zC)))))),fun ds Qd h=>?_⟩
 obtain ⟨bs,rfl,hs,q⟩:=h
 show (_:TSD) _ [some (false,.list (bs.map .str)),none] _
 walk_at "d"
 refine lc_mapA (L:=bs) PyData.str (fun b=>.int (b.length:Int)) (fun b hb es Q' hl q'=>?_) (by have:=hs.1;omega) ?_
 ·have:=hs.2 b hb
  walk_at "d"
  exact q'
 ·rw [show (bs.map fun b=>PyData.int (b.length:Int))=(lens bs).map PyData.int from by unfold lens;rw [map_map];rfl]
  walk_at "d"
  refine ⟨lens bs,intsD_map _,fun M m1 m2=>?_⟩
  walk_at "d"
  rw [wid_of m1 m2]
  exact q
def GB (k:Int) (b:Str):Prop:=1<=b.length/\b.length<=6/\∀ c∈b.cps.toList,97<=c/\(c:Int) < 97+k
def GoodR (k:Int) (bs:List Str):Prop:=(2<=k/\k<=4)/\bs.length<=12/\∀ b∈bs,GB k b
def SIG:List D:=[.str "a",.str "b",.str "c",.str "d"]
theorem in_sig {k:Int} (h:2<=k/\k<=4) (c:Nat):inD (.str ⟨#[c]⟩) (cutD SIG none (some k))=decide (97<=c/\(c:Int) < 97+k):=by
 have h3:k=2\/k=3\/k=4:=by omega
 have ea:Str.ofString "a"=⟨#[97]⟩:=by decide +kernel
 have eb:Str.ofString "b"=⟨#[98]⟩:=by decide +kernel
 have ec:Str.ofString "c"=⟨#[99]⟩:=by decide +kernel
 have ed:Str.ofString "d"=⟨#[100]⟩:=by decide +kernel
 have q:∀ x:Nat,(PyData.str ⟨#[x]⟩).eqv (.str ⟨#[c]⟩)=decide (x=c):=fun x=>by
  rw [Bool.eq_iff_iff]
  simp [PyData.eqv]
 rcases h3 with rfl|rfl|rfl
 ·show inD _ [.str (Str.ofString "a"),.str (Str.ofString "b")]=_
  rw [ea,eb];unfold inD;simp only [any_cons,List.any_nil,q]
  rw [Bool.eq_iff_iff];simp;omega
 ·show inD _ [.str (Str.ofString "a"),.str (Str.ofString "b"),.str (Str.ofString "c")]=_
  rw [ea,eb,ec];unfold inD;simp only [any_cons,List.any_nil,q]
  rw [Bool.eq_iff_iff];simp;omega
 ·show inD _ [.str (Str.ofString "a"),.str (Str.ofString "b"),.str (Str.ofString "c"),.str (Str.ofString "d")]=_
  rw [ea,eb,ec,ed];unfold inD;simp only [any_cons,List.any_nil,q]
  rw [Bool.eq_iff_iff];simp;omega
theorem boolsD_fun {α:Type} (f:α->Bool) (r:List α):boolsD (r.map fun x=>PyData.bool (f x))=some (r.map f):=by
 induction r with
 | nil=>rfl
 | cons x r ih=>simp [boolsD,ih]
theorem sig_scal (k:Int):(cutD SIG none (some k)).all scalD=true:=by
 have h:∀ d∈SIG,scalD d=true:=by intro d hd;simp [SIG] at hd;rcases hd with rfl|rfl|rfl|rfl<;>rfl
 exact all_eq_true.mpr fun d hd=>h d (mem_of_mem_drop (mem_of_mem_take hd))
theorem any_bad {α:Type} {f:α->Prop} [DecidablePred f] {l:List α}:((l.map fun c=>!decide (f c)).any id=true) ↔ ¬ ∀ c∈l,f c:=by
 rw [any_eq_true]
 constructor
 ·rintro ⟨b,hb,e⟩ h
  obtain ⟨c,hc,rfl⟩:=mem_map.mp hb
  have:=h c hc
  simp [this] at e
 ·intro h
  apply Classical.byContradiction
  intro n
  refine h fun c hc=>?_
  apply Classical.byContradiction
  intro m
  exact n ⟨!decide (f c),mem_map.mpr ⟨c,hc,rfl⟩,by simp [m]⟩
abbrev s_require_bars:Stmt:=top 18
theorem sc_require_bars:FnScope ["signs","bars","bar"] ["signs","bars"] (defScope s_require_bars):=by walk_at "sc"
def sp_req (cA:Addr):SpD:=fun ds Q X=>∃ (k:Int) (bs:List Str),ds=[.int k,bD bs]/\Sml bs/\(GoodR k bs->Q .none true)/\(¬ GoodR k bs->X cA)
theorem ok_require_bars {f cA:Addr} {fd:FuncData} (F:Fun K "require_bars" "require_bars" s_require_bars f fd) (T:Blt mg) (C_NoBars:ExC K mg "NoBars" cA) (G_SIGNS:GTup K mg "SIGNS" SIG) (G_FEWEST_SIGNS:GInt mg "FEWEST_SIGNS" 2) (G_MOST_BARS:GInt mg "MOST_BARS" 12) (G_LONGEST_BAR:GInt mg "LONGEST_BAR" 6) (D_is_whole:Df P w K mg base "is_whole" ["thing"] 1 (SpL K sp_whole)):FnOk P w K mg base (CXE P w base) 2 f fd ["signs","bars"] (SpL K (sp_req cA)):=by
 refine okE F sc_require_bars (fun ds Q X h=>?_) (fun cdv A outer s H E hr=>?_)
 ·obtain ⟨k,bs,rfl,_⟩:=h;rfl
 refine ⟨_,(zB (zR (dnT (dPWpt (dpw_or (dpt_not (dpt_val (zK (by exact D_is_whole) (by exact hr.mono (by omega)) (zA (dpv 0) zC)))) (dpw_or1 (dpt_not (dpt_chain op_le op_le (dpe_gint (by exact G_FEWEST_SIGNS) (by rfl)) (dpv 0) (zG (dcl_len (by rfl)) (by rfl) (by exact T.len) (by decide +kernel) (zA (dpe_gtup (by exact G_SIGNS) (by rfl)) zC)))))))) (zE (dps_raise raiseOk_cx (by rfl) (by exact C_NoBars) (by rfl) (zA zQ zC))) zO)
   (zB (zR (dnT (zS dop_gt (zG (dcl_len (by rfl)) (by rfl) (by exact T.len) (by decide +kernel) (zA (dpv 1) zC)) (dpe_gint (by exact G_MOST_BARS) (by rfl)) (nomark _))) (zE (dps_raise raiseOk_cx (by rfl) (by exact C_NoBars) (by rfl) (zA zQ zC))) zO)
   (zE (dps_frz 1 (dps_for PassesOwn.leaving rfl (dpi_list (by rfl) (dpv 1)) (dpgn 2 sc_require_bars.nd) (zB (zR (dnT (dpt_not (dpt_chain op_le op_le zD (zG dcl_lenS (by rfl) (by exact T.len) (by decide +kernel) (zA (dpv 2) zC)) (dpe_gint (by exact G_LONGEST_BAR) (by rfl))))) (zE (dps_raise raiseOk_cx (by rfl) (by exact C_NoBars) (by rfl) (zA zQ zC))) zO)
   (zE (zR (dnT (dpt_val (zG (dcl_any (by rfl) (by rfl)) (by rfl) (by exact T.any) (by decide +kernel) (zA (dpe_lc ["sign"] [("signs",0)] rfl (LcScope.of (by kernel_rfl)) (dpi_str (dpv 2)) (fun _ _ _ _=>⟨(dpgn 0 (nd_of (by kernel_rfl))),dpts_nil,(dpb_emit (by rfl) (by rfl) (dpe_cmp (dop_notin (by rfl)) (dpv 0) (dpe_sliceT (by rfl) (dpe_gtup (by exact G_SIGNS) (by rfl)) zN (zM (dpv 1))) rfl))⟩)) zC)))) (zE (dps_raise raiseOk_cx (by rfl) (by exact C_NoBars) (by rfl) (zA zQ zC))) zO)))))))),fun ds Qd Xd h=>?_⟩
 obtain ⟨k,bs,rfl,hs,q,x⟩:=h
 show (_:TSD) _ [some (false,.int k),some (false,.list (bs.map .str)),none] _
 have hl:=hs.1
 walk_at "d"
 refine ⟨k,rfl,?_⟩
 walk_at "d"
 refine iteb (fun h1=>?_) fun h1=>?_
 rotate_left
 ·walk_at "d"
  rw [if_pos trivial]
  walk_at "d"
  exact x fun c=>by simp at h1;have:=c.1.1;omega
 have h1:2<=k:=by simpa using h1
 walk_at "d"
 refine iteb (fun h2=>?_) fun h2=>?_
 ·walk_at "d"
  exact x fun c=>by
   have e4:((SIG.length:Nat):Int)=4:=rfl
   simp at h2;have:=c.1.2;omega
 have h2:k<=4:=by
  have e4:((SIG.length:Nat):Int)=4:=rfl
  simp at h2;omega
 walk_at "d"
 refine iteb (fun h3=>?_) fun h3=>?_
 ·walk_at "d"
  exact x fun c=>by simp at h3;have:=c.2.1;omega
 have h3:bs.length<=12:=by simp at h3;omega
 walk_at "d"
 refine lp_list (fun j ρ=>∃ z:Option (Bool × D),ρ=[some (false,.int k),some (false,.list (bs.map .str)),z]/\∀ b∈bs.take j,GB k b) ⟨_,rfl,fun _ z=>by cases z⟩ ?_ ?_
 ·rintro j d ρ hd ⟨z,rfl,hj⟩
  obtain ⟨b,hb,rfl⟩:∃ b,bs[j]?=some b/\d=.str b:=by
   rw [List.getElem?_map] at hd
   cases e:bs[j]? with
   | none=>rw [e] at hd;cases hd
   | some r=>rw [e] at hd;cases hd;exact ⟨r,rfl,rfl⟩
  have hbm:b∈bs:=mem_iff_getElem?.mpr ⟨j,hb⟩
  have hb1:=hs.2 b hbm
  walk_at "d"
  refine iteb (fun h4=>?_) fun h4=>?_
  rotate_left
  ·walk_at "d"
   rw [if_pos trivial]
   walk_at "d"
   exact x fun c=>by simp at h4;have:=(c.2.2 b hbm).1;omega
  walk_at "d"
  refine iteb (fun h5=>?_) fun h5=>?_
  ·walk_at "d"
   exact x fun c=>by simp at h5;have:=(c.2.2 b hbm).2.1;omega
  have h4:1<=b.length:=by simp at h4;omega
  have h5:b.length<=6:=by simp at h5;omega
  walk_at "d"
  unfold DL.signs
  refine lc_mapA (L:=b.cps.toList) (fun c=>PyData.str ⟨#[c]⟩) (fun c=>.bool (!decide (97<=c/\(c:Int) < 97+k))) (fun c hc es Q' hl' q'=>?_) (by rw [Array.length_toList];have:b.cps.size=b.length:=rfl;omega) ?_
  ·walk_at "d"
   rw [in_sig ⟨h1,h2⟩]
   exact ⟨⟨rfl,sig_scal k⟩,hl',trivial,q'⟩
  ·walk_at "d"
   refine ⟨_,boolsD_fun _ _,?_⟩
   walk_at "d"
   refine iteb (fun h6=>?_) fun h6=>?_
   ·walk_at "d"
    exact x fun c=>any_bad.mp h6 (c.2.2 b hbm).2.2
   ·have h6:∀ c∈b.cps.toList,97<=c/\(c:Int) < 97+k:=Classical.byContradiction fun n=>absurd (any_bad.mpr n) (by rw [h6];exact Bool.false_ne_true)
    walk_at "d"
    refine ⟨_,rfl,fun y hy=>?_⟩
    rw [List.take_succ,hb] at hy
    rcases mem_append.mp hy with hy|hy
    ·exact hj y hy
    ·rw [mem_singleton.mp hy];exact ⟨h4,h5,h6⟩
 ·rintro ρ ⟨z,rfl,hj⟩
  have hj:∀ b∈bs,GB k b:=fun b hb=>hj b (by rw [length_map,take_length];exact hb)
  walk_at "d"
  exact q ⟨⟨h1,h2⟩,h3,hj⟩
def wds (k:Int) (bs:List Str):Int:=k ^ (wid bs).toNat
theorem pow_le {k:Int} (h:2<=k/\k<=4):∀ i:Nat,i<=5->0<=k ^ i/\k ^ i<=1024:=by
 have h3:k=2\/k=3\/k=4:=by omega
 rcases h3 with rfl|rfl|rfl<;>decide
abbrev s_vet_bars:Stmt:=top 16
theorem sc_vet_bars:FnScope ["signs","bars","words","place"] ["signs","bars"] (defScope s_vet_bars):=by walk_at "sc"
def sp_vet (cA cN3:Addr):SpD:=fun ds Q X=>∃ (k:Int) (bs:List Str),ds=[.int k,bD bs]/\Sml bs/\(GoodR k bs->wds k bs<=128->Q (.bool true) true)/\(¬ GoodR k bs->X cA)/\(GoodR k bs->¬ wds k bs<=128->X cN3)
theorem ok_vet_bars {f cA cN3:Addr} {fd:FuncData} (F:Fun K "vet_bars" "vet_bars" s_vet_bars f fd) (T:Blt mg) (C_TooMany:ExC K mg "TooMany" cN3) (G_MOST_WORDS:GInt mg "MOST_WORDS" 128) (D_require_bars:DfE P w K mg base "require_bars" ["signs","bars"] 2 (SpL K (sp_req cA))) (D_plain_width:Df P w K mg base "plain_width" ["bars"] 1 (SpL K sp_pw)):FnOk P w K mg base (CXE P w base) 3 f fd ["signs","bars"] (SpL K (sp_vet cA cN3)):=by
 refine okE F sc_vet_bars (fun ds Q X h=>?_) (fun cdv A outer s H E hr=>?_)
 ·obtain ⟨k,bs,rfl,_⟩:=h;rfl
 refine ⟨_,(zB (dps_expr (dpe_dfE (by exact D_require_bars) passE (by exact hr.mono (by omega)) (zA (dpv 0) (zA (dpv 1) zC))))
   (zB (dnS (dpset 2 sc_vet_bars.nd zD))
   (zB (dnS (dps_for PassesOwn.never rfl (dpi_range1 (by rfl) (by exact T.range) (zA (zK (by exact D_plain_width) (by exact hr.mono (by omega)) (zA (dpv 1) zC)) zC)) (dpgn 3 sc_vet_bars.nd) (zE (dpset 2 sc_vet_bars.nd (zF dop_mul (dpv 2) (dpv 0))))))
   (zB (zR (dnT (zS dop_gt (dpv 2) (dpe_gint (by exact G_MOST_WORDS) (by rfl)) (nomark _))) (zE (dps_raise raiseOk_cx (by rfl) (by exact C_TooMany) (by rfl) (zA zQ zC))) zO)
   (zE (dnS (zI dpe_bl))))))),fun ds Qd Xd h=>?_⟩
 obtain ⟨k,bs,rfl,hs,q,x1,x2⟩:=h
 show (_:TSD) _ [some (false,.int k),some (false,bD bs),none,none] _
 walk_at "d"
 refine ⟨k,bs,rfl,hs,fun hg=>?_,fun hg=>?_⟩
 rotate_left
 ·exact x1 hg
 have hw:(wid bs).toNat<=5:=by
  have:=wid_le (bs:=bs) (m:=6) (by decide) fun b hb=>by have:=(hg.2.2 b hb).2.1;omega
  omega
 walk_at "d"
 refine ⟨bs,rfl,hs,?_⟩
 have hwp:=wid_pos bs
 walk_at "d"
 refine lp_rng (fun i ρ=>∃ z:Option (Bool × D),ρ=[some (false,.int k),some (false,bD bs),some (false,.int (k ^ i)),z]) ⟨_,by rw [Int.pow_zero]⟩ ?_ ?_
 ·rintro i ρ hi ⟨z,rfl⟩
  have:=pow_le hg.1 i (by omega)
  walk_at "d"
  refine ⟨CMul.ok (.inl ⟨by omega,by omega⟩),?_⟩
  walk_at "d"
  exact ⟨_,by rw [Int.pow_succ]⟩
 ·rintro ρ ⟨z,rfl⟩
  walk_at "d"
  refine iteb (fun h=>?_) fun h=>?_
  ·walk_at "d"
   exact x2 hg (by unfold wds;simp at h;omega)
  ·walk_at "d"
   exact q hg (by unfold wds;simp at h;omega)
abbrev s_width_of:Stmt:=top 17
theorem sc_width_of:FnScope ["signs","bars"] ["signs","bars"] (defScope s_width_of):=by walk_at "sc"
def sp_wof (cA cN3:Addr):SpD:=fun ds Q X=>∃ (k:Int) (bs:List Str),ds=[.int k,bD bs]/\Sml bs/\(GoodR k bs->wds k bs<=128->Q (.int (wid bs)) true)/\(¬ GoodR k bs->X cA)/\(GoodR k bs->¬ wds k bs<=128->X cN3)
theorem ok_width_of {f cA cN3:Addr} {fd:FuncData} (F:Fun K "width_of" "width_of" s_width_of f fd) (T:Blt mg) (D_vet_bars:DfE P w K mg base "vet_bars" ["signs","bars"] 3 (SpL K (sp_vet cA cN3))) (D_plain_width:Df P w K mg base "plain_width" ["bars"] 1 (SpL K sp_pw)):FnOk P w K mg base (CXE P w base) 4 f fd ["signs","bars"] (SpL K (sp_wof cA cN3)):=by
 refine okE F sc_width_of (fun ds Q X h=>?_) (fun cdv A outer s H E hr=>?_)
 ·obtain ⟨k,bs,rfl,_⟩:=h;rfl
 refine ⟨_,(zB (dps_expr (dpe_dfE (by exact D_vet_bars) passE (by exact hr.mono (by omega)) (zA (dpv 0) (zA (dpv 1) zC))))
   (zE (dnS (zI (zK (by exact D_plain_width) (by exact hr.mono (by omega)) (zA (dpv 1) zC)))))),fun ds Qd Xd h=>?_⟩
 obtain ⟨k,bs,rfl,hs,q,x1,x2⟩:=h
 show (_:TSD) _ [some (false,.int k),some (false,bD bs)] _
 walk_at "d"
 refine ⟨k,bs,rfl,hs,fun hg hw=>?_,x1,x2⟩
 walk_at "d"
 refine ⟨bs,rfl,hs,?_⟩
 walk_at "d"
 exact q hg hw
end
open M20 M22
section
variable {P:Program} {w:World} {K:W.Frag} {mg:Str->Option Value} {base:Heap}
def K3 (k:Nat):Prop:=k=2\/k=3\/k=4
def wD (l:List Str):D:=.list (l.map .str)
theorem sig_let {k:Nat} (h:K3 k):cutD SIG none (some (k:Int))=(letters k).map fun c=>PyData.str (chr c):=by
 have ea:Str.ofString "a"=⟨#[97]⟩:=by decide +kernel
 have eb:Str.ofString "b"=⟨#[98]⟩:=by decide +kernel
 have ec:Str.ofString "c"=⟨#[99]⟩:=by decide +kernel
 have ed:Str.ofString "d"=⟨#[100]⟩:=by decide +kernel
 rcases h with rfl|rfl|rfl
 ·show [PyData.str (Str.ofString "a"),.str (Str.ofString "b")]=_
  rw [ea,eb];rfl
 ·show [PyData.str (Str.ofString "a"),.str (Str.ofString "b"),.str (Str.ofString "c")]=_
  rw [ea,eb,ec];rfl
 ·show [PyData.str (Str.ofString "a"),.str (Str.ofString "b"),.str (Str.ofString "c"),.str (Str.ofString "d")]=_
  rw [ea,eb,ec,ed];rfl
theorem len_let (k:Nat):(letters k).length=k:=by unfold letters;simp
theorem pow_small' {k:Nat} (h:K3 k) {n:Nat} (hn:n<=6):k ^ n<=4096:=by
 have h1:k ^ n<=4 ^ n:=Nat.pow_le_pow_left (by rcases h with rfl|rfl|rfl<;>decide) n
 have h2:4 ^ n<=4 ^ 6:=Nat.pow_le_pow_right (by decide) hn
 have h3:4 ^ 6=4096:=by decide
 omega
theorem map_W (k n:Nat):(W k n).flatMap (fun x=>((letters k).map fun c=>PyData.str (x++chr c)))=(W k (n+1)).map PyData.str:=by
 rw [W,List.map_flatMap]
 congr 1
 funext x
 rw [map_map];rfl
abbrev s_words_of:Stmt:=top 22
theorem sc_words_of:FnScope ["signs","width","words","place"] ["signs","width"] (defScope s_words_of):=by walk_at "sc"
def sp_words:SpD:=fun ds Q _=>∃ (k n:Nat),ds=[.int k,.int n]/\K3 k/\n<=5/\Q (wD (W k n)) true
theorem ok_words_of {f:Addr} {fd:FuncData} (F:Fun K "words_of" "words_of" s_words_of f fd) (T:Blt mg) (G_SIGNS:GTup K mg "SIGNS" SIG):FnOk P w K mg base CX0 1 f fd ["signs","width"] (SpL K sp_words):=by
 refine ok0 F sc_words_of (fun ds Q X h=>?_) (fun cdv A outer s H E hr=>?_) fun ds Qd Xd h=>h
 ·obtain ⟨k,n,rfl,_⟩:=h;rfl
 refine ⟨_,(zB (dpset 2 sc_words_of.nd (dpe_lst (zA zQ zC)))
   (zB (dps_for PassesOwn.never rfl (dpi_range1 (by rfl) (by exact T.range) (zA (dpv 1) zC)) (dpgn 3 sc_words_of.nd) (zE (dps_setlc (i:=2) (hN:=sc_words_of.nd) (hyi:=rfl) (hy:=rfl) (hc:=rfl) (own:=["word","sign"]) (cap:=[("signs",0)]) (L:=LcScope.of (by kernel_rfl)) (hi:=(dpi_list (by rfl) (dpv 2))) (hin:=(fun _ _ _ _=>⟨(dpgn 0 (nd_of (by kernel_rfl))),dpts_nil,(dpb_for (by rfl) (by rfl) (by rfl) (by exact fun _=>rfl) (dpi_tup (by rfl) (dpe_sliceT (by rfl) (dpe_gtup (by exact G_SIGNS) (by rfl)) zN (zM (dpv 2)))) (dpgn 1 (nd_of (by kernel_rfl))) dpts_nil (dpb_emit (by rfl) (by rfl) (zF zJ (dpv 0) (dpv 1))))⟩)))))
   (zE (zI (dpv 2))))),fun ds Qd h=>?_⟩
 obtain ⟨k,n,rfl,hk,hn,q⟩:=h
 show (_:TSD) _ [some (false,.int k),some (false,.int n),none,none] _
 walk_at "d"
 refine lp_rng (fun i ρ=>∃ x:Option (Bool × D),ρ=[some (false,.int (k:Int)),some (false,.int (n:Int)),some (true,.list ((W k i).map .str)),x]) ⟨_,by
  have e:Str.ofString ""=⟨#[]⟩:=by decide +kernel
  show [_,_,some (true,PyData.list [PyData.str (Str.ofString "")]),_]=_
  rw [e];rfl⟩ ?_ ?_
 ·rintro i ρ hi ⟨x,rfl⟩
  have hi':i < n:=by simpa using hi
  have hp:=pow_small' hk (n:=i+1) (by omega)
  rw [<-len_W] at hp
  walk_at "d"
  refine lc_flatA (L:=W k i) PyData.str (fun x=>(letters k).map fun c=>PyData.str (x++chr c)) (fun x hx es Q' hl q'=>?_) (by rw [map_W,length_map];omega) ?_
  ·walk_at "d"
   rw [sig_let hk]
   rw [length_map] at hl
   refine go_mapA (fun c:Nat=>PyData.str (chr c)) (fun c=>PyData.str (x++chr c)) (letters k) es (fun c hc es Q' hl q'=>?_) (by omega) (by exact q')
   walk_at "d"
   have:=(mem_W.mp hx).1
   refine ⟨by show x.length+1<=_;omega,?_⟩
   first|exact q'|(walk_at "d";first|exact q'|exact ⟨hl,rfl,q'⟩)
  ·rw [map_W]
   walk_at "d"
   exact ⟨_,rfl⟩
 ·rintro ρ ⟨x,rfl⟩
  walk_at "d"
  rw [show (n:Int).toNat=n from rfl]
  exact q
abbrev s_is_free:Stmt:=top 23
theorem sc_is_free:FnScope ["word","bars"] ["word","bars"] (defScope s_is_free):=by walk_at "sc"
def sp_free:SpD:=fun ds Q _=>∃ (x:Str) (bs:List Str),ds=[.str x,bD bs]/\bs.length<=100/\Q (.bool (fr bs x)) true
theorem any_fr (bs:List Str) (x:Str):(!(bs.map fun b=>has b x).any id)=fr bs x:=by
 unfold fr
 induction bs with
 | nil=>rfl
 | cons b r ih=>rw [map_cons,any_cons,all_cons,<-ih];cases has b x<;>simp
theorem ok_is_free {f:Addr} {fd:FuncData} (F:Fun K "is_free" "is_free" s_is_free f fd) (T:Blt mg):FnOk P w K mg base CX0 1 f fd ["word","bars"] (SpL K sp_free):=by
 refine ok0 F sc_is_free (fun ds Q X h=>?_) (fun cdv A outer s H E hr=>?_) fun ds Qd Xd h=>h
 ·obtain ⟨x,bs,rfl,_⟩:=h;rfl
 refine ⟨_,(zE (zI (dpe_not (zG (dcl_any (by rfl) (by rfl)) (by rfl) (by exact T.any) (by decide +kernel) (zA (dpe_lc ["bar"] [("word",0)] rfl (LcScope.of (by kernel_rfl)) (dpi_list (by rfl) (dpv 1)) (fun _ _ _ _=>⟨(dpgn 0 (nd_of (by kernel_rfl))),dpts_nil,(dpb_emit (by rfl) (by rfl) (dpe_cmp dop_inS (dpv 0) (dpv 1) rfl))⟩)) zC))))),fun ds Qd h=>?_⟩
 obtain ⟨x,bs,rfl,hl,q⟩:=h
 show (_:TSD) _ [some (false,.str x),some (false,.list (bs.map .str))] _
 walk_at "d"
 refine lc_mapA (L:=bs) PyData.str (fun b=>.bool (has b x)) (fun b hb es Q' hl q'=>?_) (by omega) ?_
 ·walk_at "d"
  exact q'
 walk_at "d"
 refine ⟨_,boolsD_fun _ _,?_⟩
 walk_at "d"
 rw [any_fr]
 exact q
def tD (ks:List Str):List (Key × D):=ks.map fun t=>(Sum.inr t,.bool true)
theorem look_tD (ks:List Str) (t:Str):(look (tD ks) (Sum.inr t)).isSome=decide (t∈ks):=by
 induction ks with
 | nil=>rfl
 | cons a r ih =>
  unfold look at ih ⊢
  unfold tD at ih ⊢
  rw [map_cons]
  by_cases e:a=t
  ·subst e;rw [List.find?_cons_of_pos (by simp)];simp
  ·rw [List.find?_cons_of_neg (by simpa using e),ih]
   have:t≠a:=fun z=>e z.symm
   simp [this]
abbrev s_goes_on_both_ways:Stmt:=top 24
theorem sc_goes_on_both_ways:FnScope ["signs","bars","kept","word","behind","ahead","follows"] ["signs","bars","kept","word"] (defScope s_goes_on_both_ways):=by walk_at "sc"
def sp_gb:SpD:=fun ds Q _=>∃ (k:Nat) (bs ks:List Str) (x:Str),ds=[.int k,bD bs,dFD (tD ks),.str x]/\K3 k/\bs.length<=100/\x.length<=100/\Q (.bool (both k bs ks x)) true
theorem any_fun {α:Type} (l:List α) (f:α->Bool):(l.map f).any id=l.any f:=by
 induction l with
 | nil=>rfl
 | cons a r ih=>rw [map_cons,any_cons,any_cons,ih];rfl
theorem ok_goes_on_both_ways {f:Addr} {fd:FuncData} (F:Fun K "goes_on_both_ways" "goes_on_both_ways" s_goes_on_both_ways f fd) (T:Blt mg) (G_SIGNS:GTup K mg "SIGNS" SIG) (D_is_free:Df P w K mg base "is_free" ["word","bars"] 1 (SpL K sp_free)):FnOk P w K mg base CX0 2 f fd ["signs","bars","kept","word"] (SpL K sp_gb):=by
 refine ok0 F sc_goes_on_both_ways (fun ds Q X h=>?_) (fun cdv A outer s H E hr=>?_) fun ds Qd Xd h=>h
 ·obtain ⟨k,bs,ks,x,rfl,_⟩:=h;rfl
 refine ⟨_,(zB (dps_setlc (i:=4) (hN:=sc_goes_on_both_ways.nd) (hyi:=rfl) (hy:=rfl) (hc:=rfl) (own:=["sign"]) (cap:=[("word",3)]) (L:=LcScope.of (by kernel_rfl)) (hi:=(dpi_tup (by rfl) (dpe_sliceT (by rfl) (dpe_gtup (by exact G_SIGNS) (by rfl)) zN (zM (dpv 0))))) (hin:=(fun _ _ _ _=>⟨(dpgn 0 (nd_of (by kernel_rfl))),dpts_nil,(dpb_emit (by rfl) (by rfl) (zF zJ (dpv 1) (dpv 0)))⟩)))
   (zB (dps_setlc (i:=5) (hN:=sc_goes_on_both_ways.nd) (hyi:=rfl) (hy:=rfl) (hc:=rfl) (own:=["sign"]) (cap:=[("word",3)]) (L:=LcScope.of (by kernel_rfl)) (hi:=(dpi_tup (by rfl) (dpe_sliceT (by rfl) (dpe_gtup (by exact G_SIGNS) (by rfl)) zN (zM (dpv 0))))) (hin:=(fun _ _ _ _=>⟨(dpgn 0 (nd_of (by kernel_rfl))),dpts_nil,(dpb_emit (by rfl) (by rfl) (zF zJ (dpv 0) (dpv 1)))⟩)))
   (zB (dpset 6 sc_goes_on_both_ways.nd (zG (dcl_any (by rfl) (by rfl)) (by rfl) (by exact T.any) (by decide +kernel) (zA (dpe_lc ["longer"] [("kept",2),("bars",1)] rfl (LcScope.of (by kernel_rfl)) (dpi_list (by rfl) (dpv 4)) (fun _ _ _ _=>⟨(dpgn 0 (nd_of (by kernel_rfl))),dpts_nil,(dpb_emit (by rfl) (by rfl) (dpe_and (dpe_dinF (by exact Nat.lt_of_le_of_lt (Nat.add_le_add_left (by decide) _) hr.units) (dky_of (zL (dpv 0) (zM zD) zN)) (dpv 1) (by rfl)) (dpe_one (zK (by exact D_is_free) (by exact hr.mono (by omega)) (zA (dpv 0) (zA (dpv 2) zC))))))⟩)) zC)))
   (zE (zI (dpe_and (dpv 6) (dpe_one (zG (dcl_any (by rfl) (by rfl)) (by rfl) (by exact T.any) (by decide +kernel) (zA (dpe_lc ["longer"] [("kept",2),("bars",1)] rfl (LcScope.of (by kernel_rfl)) (dpi_list (by rfl) (dpv 5)) (fun _ _ _ _=>⟨(dpgn 0 (nd_of (by kernel_rfl))),dpts_nil,(dpb_emit (by rfl) (by rfl) (dpe_and (dpe_dinF (by exact Nat.lt_of_le_of_lt (Nat.add_le_add_left (by decide) _) hr.units) (dky_of (zL (dpv 0) zN (zM (dpe_neg zD)))) (dpv 1) (by rfl)) (dpe_one (zK (by exact D_is_free) (by exact hr.mono (by omega)) (zA (dpv 0) (zA (dpv 2) zC))))))⟩)) zC))))))))),fun ds Qd h=>?_⟩
 obtain ⟨k,bs,ks,x,rfl,hk,hl,hx,q⟩:=h
 show (_:TSD) _ [some (false,.int k),some (false,bD bs),some (false,dFD (tD ks)),some (false,.str x),none,none,none] _
 have hk4:k<=4:=by rcases hk with rfl|rfl|rfl<;>decide
 have hll:=len_let k
 walk_at "d"
 rw [sig_let hk]
 refine lc_mapA (L:=letters k) (fun c=>PyData.str (chr c)) (fun c=>.str (x++chr c)) (fun c hc es Q' hl q'=>?_) (by omega) ?_
 ·walk_at "d"
  refine ⟨by show x.length+1<=_;omega,?_⟩
  first|exact q'|(walk_at "d";first|exact q'|exact ⟨hl,rfl,q'⟩)
 walk_at "d"
 rw [sig_let hk]
 refine lc_mapA (L:=letters k) (fun c=>PyData.str (chr c)) (fun c=>.str (chr c++x)) (fun c hc es Q' hl q'=>?_) (by omega) ?_
 ·walk_at "d"
  refine ⟨by show 1+x.length<=_;omega,?_⟩
  first|exact q'|(walk_at "d";first|exact q'|exact ⟨hl,rfl,q'⟩)
 walk_at "d"
 refine lc_mapA (L:=letters k) (fun c=>PyData.str (x++chr c)) (fun c=>.bool (decide (sl1 (x++chr c)∈ks)&&fr bs (x++chr c))) (fun c hc es Q' hl' q'=>?_) (by omega) ?_
 ·have hlc:(x++chr c).length=x.length+1:=by rw [len_app];rfl
  walk_at "d"
  refine ⟨_,_,rfl,rfl,?_⟩
  rw [look_tD]
  walk_at "d"
  refine iteb (fun h1=>?_) fun h1=>?_
  ·have h1:decide (sl1 (x++chr c)∈ks)=true:=h1
   rw [h1] at q'
   walk_at "d"
   refine ⟨_,bs,rfl,hl,?_⟩
   walk_at "d"
   first|exact q'|exact ⟨hl',rfl,q'⟩
  ·have h1:decide (sl1 (x++chr c)∈ks)=false:=h1
   rw [h1] at q'
   first|exact q'|exact ⟨hl',trivial,q'⟩
 walk_at "d"
 refine ⟨_,boolsD_fun _ _,?_⟩
 rw [any_fun]
 walk_at "d"
 refine iteb (fun h6=>?_) fun h6=>?_
 rotate_left
 ·have e:both k bs ks x=false:=by unfold both;rw [h6];rfl
  rw [e] at q
  first|exact q|(walk_at "d";exact q)
 walk_at "d"
 refine lc_mapA (L:=letters k) (fun c=>PyData.str (chr c++x)) (fun c=>.bool (decide (sl0 (chr c++x)∈ks)&&fr bs (chr c++x))) (fun c hc es Q' hl' q'=>?_) (by omega) ?_
 ·have hlc:(chr c++x).length=1+x.length:=by rw [len_app];rfl
  walk_at "d"
  refine ⟨_,_,rfl,rfl,?_⟩
  rw [look_tD]
  walk_at "d"
  refine iteb (fun h1=>?_) fun h1=>?_
  ·have h1:decide (sl0 (chr c++x)∈ks)=true:=h1
   rw [h1] at q'
   walk_at "d"
   refine ⟨_,bs,rfl,hl,?_⟩
   walk_at "d"
   first|exact q'|exact ⟨hl',rfl,q'⟩
  ·have h1:decide (sl0 (chr c++x)∈ks)=false:=h1
   rw [h1] at q'
   first|exact q'|exact ⟨hl',trivial,q'⟩
 walk_at "d"
 refine ⟨_,boolsD_fun _ _,?_⟩
 rw [any_fun]
 have e:both k bs ks x=(letters k).any fun c=>decide (sl0 (chr c++x)∈ks)&&fr bs (chr c++x):=by unfold both;rw [h6];rfl
 rw [e] at q
 first|exact q|(walk_at "d";exact q)
theorem trueD_tD {ks:List Str} (h:ks.Nodup):trueD [] (ks.map Sum.inr)=tD ks:=by
 have gen:∀ (ls js:List Str),(js++ls).Nodup->trueD (tD js) (ls.map Sum.inr)=tD (js++ls):=by
  intro ls
  induction ls with
  | nil=>intro js _;rw [append_nil];rfl
  | cons a r ih =>
   intro js hn
   rw [map_cons,trueD]
   have hna:a∉js:=fun z=>by
    rw [nodup_append] at hn
    exact hn.2.2 a z a mem_cons_self rfl
   have e:putD (tD js) (Sum.inr a) (.bool true)=tD (js++[a]):=by
    unfold putD
    rw [if_neg]
    ·unfold tD;rw [map_append];rfl
    ·intro z
     obtain ⟨p,hp,hq⟩:=any_eq_true.mp z
     obtain ⟨t,ht,rfl⟩:=mem_map.mp hp
     have:t=a:=by simpa using hq
     exact hna (this ▸ ht)
   rw [e,ih (js++[a]) (by rw [append_assoc];exact hn),append_assoc]
   rfl
 exact gen ks [] h
theorem keys_tD (ks:List Str):(tD ks).map (·.1)=ks.map Sum.inr:=by unfold tD;rw [map_map];rfl
theorem flt_inr (ks:List Str) (g:Key->Bool):(ks.map Sum.inr).filter g=(ks.filter fun t=>g (Sum.inr t)).map (Sum.inr:Str->Key):=by
 rw [List.filter_map];rfl
theorem ndc_strs:∀ bs:List Str,ndcs (bs.map PyData.str)=true
 | []=>rfl
 | b::r=>by rw [map_cons,ndcs,ndc_strs r];rfl
theorem ndc_bD (bs:List Str):ndc (bD bs)=true:=ndc_strs bs
def kB (f:Str->Bool):Key->Bool
 | .inr t=>f t
 | .inl _=>false
theorem wid5 {k:Int} {bs:List Str} (hg:GoodR k bs):∃ n:Nat,wid bs=(n:Int)/\1<=n/\n<=5:=by
 have:=wid_le (bs:=bs) (m:=6) (by decide) fun b hb=>by have:=(hg.2.2 b hb).2.1;omega
 have:=wid_pos bs
 exact ⟨(wid bs).toNat,by omega,by omega,by omega⟩
theorem w128 {k n:Nat} (hk:K3 k) (h5:n<=5) (h:k ^ n<=128):k ^ n < 128:=by
 match n,h5 with
 | 0,_|1,_|2,_|3,_|4,_|5,_=>rcases hk with rfl|rfl|rfl<;>first|decide|(exfalso;revert h;decide)
abbrev s_windows_of:Stmt:=top 21
theorem sc_windows_of:FnScope ["signs","bars","width","kept","settled","still"] ["signs","bars"] (defScope s_windows_of):=by walk_at "sc"
def sp_win (cA cN3:Addr):SpD:=fun ds Q X=>∃ (k:Int) (bs:List Str),ds=[.int k,bD bs]/\Sml bs/\(GoodR k bs->wds k bs<=128->∀ us:List Str,us.Pairwise ltS->(∀ t,t∈us ↔ Win k.toNat bs (wid bs).toNat t)->us.length < 128->Q (wD us) true)/\(¬ GoodR k bs->X cA)/\(GoodR k bs->¬ wds k bs<=128->X cN3)
theorem ok_windows_of {f cA cN3:Addr} {fd:FuncData} (F:Fun K "windows_of" "windows_of" s_windows_of f fd) (T:Blt mg) (D_width_of:DfE P w K mg base "width_of" ["signs","bars"] 4 (SpL K (sp_wof cA cN3))) (D_words_of:Df P w K mg base "words_of" ["signs","width"] 1 (SpL K sp_words)) (D_is_free:Df P w K mg base "is_free" ["word","bars"] 1 (SpL K sp_free)) (D_goes_on_both_ways:Df P w K mg base "goes_on_both_ways" ["signs","bars","kept","word"] 2 (SpL K sp_gb)):FnOk P w K mg base (CXE P w base) 5 f fd ["signs","bars"] (SpL K (sp_win cA cN3)):=by
 refine okE F sc_windows_of (fun ds Q X h=>?_) (fun cdv A outer s H E hr=>?_)
 ·obtain ⟨k,bs,rfl,_⟩:=h;rfl
 refine ⟨_,(zB (dpset 2 sc_windows_of.nd (dpe_dfE (by exact D_width_of) passE (by exact hr.mono (by omega)) (zA (dpv 0) (zA (dpv 1) zC))))
   (zB (dnS (dpset 3 sc_windows_of.nd (dpe_dcI ["word"] [("bars",1)] rfl (by rfl) (LcScope.of (by kernel_rfl)) (dpi_list (by rfl) (zK (by exact D_words_of) (by exact hr.mono (by omega)) (zA (dpv 0) (zA (dpv 2) zC)))) (fun _ _ _=>⟨qpgn 0 (nd_of (by kernel_rfl)),(dpts_one (dpt_val (zK (by exact D_is_free) (by exact hr.mono (by omega)) (zA (dpv 0) (zA (dpv 1) zC))))),qpv 0⟩))))
   (zB (dnS (dpset 4 sc_windows_of.nd dpe_bl))
   (zB (dnS (dps_while PassesOwn.never (dpt_not (dpt_truth (by rfl) (dpv 4))) (zB (dps_setdcK (i:=5) ["word"] [("signs",0),("bars",1),("kept",3)] sc_windows_of.nd rfl rfl rfl (by rfl) (LcScope.of (by kernel_rfl)) (dpv 3) (fun _ _ _=>⟨qpgn 0 (nd_of (by kernel_rfl)),(dpts_one (dpt_val (zK (by exact D_goes_on_both_ways) (by exact hr.mono (by omega)) (zA (dpv 1) (zA (dpv 2) (zA (dpv 3) (zA (dpv 0) zC))))))),qpv 0⟩))
   (zB (dpset 4 sc_windows_of.nd (dpe_cmp (dop_eq (by rfl) (by exact hr.units)) (zG dcl_lenD (by rfl) (by exact T.len) (by decide +kernel) (zA (dpv 5) zC)) (zG dcl_lenD (by rfl) (by exact T.len) (by decide +kernel) (zA (dpv 3) zC)) (nomark _)))
   (zE (dpset 3 sc_windows_of.nd (dpv 5)))))))
   (zE (dnS (zI (zG (dcl_sortDS (by rfl)) (by rfl) (by exact T.sorted) (by decide +kernel) (zA (dpv 3) zC))))))))),fun ds Qd Xd h=>?_⟩
 obtain ⟨k,bs,rfl,hs,q,x1,x2⟩:=h
 show (_:TSD) _ [some (false,.int k),some (false,bD bs),none,none,none,none] _
 walk_at "d"
 refine ⟨k,bs,rfl,hs,fun hg hw=>?_,x1,x2⟩
 have q:=q hg hw
 obtain ⟨n,en,hn1,hn5⟩:=wid5 hg
 obtain ⟨kk,ek,hk⟩:∃ kk:Nat,k=(kk:Int)/\K3 kk:=⟨k.toNat,by have:=hg.1;omega,by have:=hg.1;unfold K3;omega⟩
 have hp:kk ^ n < 128:=by
  refine w128 hk hn5 ?_
  unfold wds at hw
  rw [en,ek] at hw
  have e:((n:Nat):Int).toNat=n:=rfl
  rw [e] at hw
  exact_mod_cast hw
 have hW:=len_W kk n
 have hb100:bs.length<=100:=hs.1
 rw [en,ek] at q
 rw [en,ek]
 have q:∀ us:List Str,us.Pairwise ltS->(∀ t,t∈us ↔ Win kk bs n t)->us.length < 128->Qd (wD us) true:=q
 walk_at "d"
 refine ⟨kk,n,rfl,hk,hn5,?_⟩
 walk_at "d"
 refine ⟨(W kk n).map Sum.inr,kB (fr bs),[some (false,bD bs)],by rw [map_map];rfl,by rw [length_map];omega,⟨rfl,fun j y hj=>?_⟩,fun t ht Q' hq=>?_,?_⟩
 ·match j,hj with
  | 0,hj=>cases hj;exact ⟨rfl,_,_,_,rfl,rfl,.same _ (ndc_bD bs)⟩
 ·obtain ⟨t',ht',rfl⟩:=mem_map.mp ht
  walk_at "d"
  refine ⟨t',bs,rfl,hb100,?_⟩
  walk_at "d"
  exact hq
 have e0:(fun t=>kB (fr bs) (Sum.inr t))=fr bs:=rfl
 rw [flt_inr,e0,trueD_tD (show ((W kk n).filter (fr bs)).Nodup from (nodup_W kk n).filter _)]
 walk_at "d"
 refine ⟨fun m ρ=>∃ (ks:List Str) (sd:Bool) (x:Option (Bool × D)),ρ=[some (false,.int (kk:Int)),some (false,bD bs),some (false,.int (n:Int)),some (true,dKD (tD ks)),some (false,.bool sd),x]/\Kp kk bs n ks/\ks.length < 128/\(sd=true->∀ t,t∈ks ↔ Win kk bs n t)/\m=2*ks.length+(if sd=true then 0 else 1),⟨_,_,false,_,rfl,Kp.start kk bs n,?_,(fun z=>by cases z),rfl⟩,?_⟩
 ·have:=length_filter_le (fr bs) (W kk n)
  show ((W kk n).filter (fr bs)).length < 128
  omega
 rintro m ρ ⟨ks,sd,x,rfl,hK,hl,hd,rfl⟩
 walk_at "d"
 cases sd with
 | true =>
  rw [if_neg (by decide)]
  walk_at "d"
  refine ⟨tD ks,ks,rfl,keys_tD ks,hK.nd,hl,fun us p1 p2=>?_⟩
  walk_at "d"
  exact q us p2 (fun t=>(p1.mem_iff).trans (hd rfl t)) (by rw [p1.length_eq];exact hl)
 | false =>
  rw [if_pos (by decide)]
  walk_at "d"
  refine ⟨tD ks,kB (both kk bs ks),[some (false,.int (kk:Int)),some (false,bD bs),some (false,dFD (tD ks))],rfl,by unfold tD;rw [length_map];omega,⟨rfl,fun j y hj=>?_⟩,fun t ht Q' hq=>?_,?_⟩
  ·match j,hj with
   | 0,hj=>cases hj;exact ⟨rfl,_,_,_,rfl,rfl,.same _ rfl⟩
   | 1,hj=>cases hj;exact ⟨rfl,_,_,_,rfl,rfl,.same _ (ndc_bD bs)⟩
   | 2,hj=>cases hj;exact ⟨rfl,_,_,_,rfl,rfl,.dct _⟩
  ·rw [keys_tD] at ht
   obtain ⟨t',ht',rfl⟩:=mem_map.mp ht
   have:=(mem_W.mp (hK.sub t' ht')).1
   walk_at "d"
   refine ⟨kk,bs,ks,t',rfl,hk,hb100,by omega,?_⟩
   walk_at "d"
   exact hq
  have e0:(fun t=>kB (both kk bs ks) (Sum.inr t))=both kk bs ks:=rfl
  rw [keys_tD,flt_inr,e0,trueD_tD (show (ks.filter (both kk bs ks)).Nodup from hK.nd.filter _)]
  have hKs:=hK.step
  have hfl:=length_filter_le (both kk bs ks) ks
  have hfin:=hK.fin
  have heq:(ks.filter (both kk bs ks)).length=ks.length->ks.filter (both kk bs ks)=ks:=fun e=>List.filter_eq_self.mpr (List.length_filter_eq_length_iff.mp e)
  revert hKs hfl hfin heq
  generalize ks.filter (both kk bs ks)=ks'
  intro hKs hfl hfin heq
  have l1:(tD ks').length=ks'.length:=by unfold tD;rw [length_map]
  have l2:(tD ks).length=ks.length:=by unfold tD;rw [length_map]
  walk_at "d"
  have eb:(((tD ks').length:Int)==((tD ks).length:Int))=decide (ks'.length=ks.length):=by
   rw [l1,l2,Bool.eq_iff_iff,beq_iff_eq,decide_eq_true_eq];constructor<;>intro h<;>omega
  rw [eb]
  refine ⟨_,?_,ks',decide (ks'.length=ks.length),_,rfl,hKs,by omega,fun z t=>?_,rfl⟩
  ·by_cases z:ks'.length=ks.length
   ·simp [z]
   ·simp [z];omega
  ·have z:ks'.length=ks.length:=by simpa using z
   have:=heq z
   subst this
   exact hfin z t
def St (k:Int) (bs:List Str):Nat->Prop
 | 0=>GoodR k bs/\wds k bs<=128
 | 1=>¬ GoodR k bs
 | _=>GoodR k bs/\¬ wds k bs<=128
def Asc (b:Str):Prop:=∀ c∈b.cps.toList,c < 128
theorem Asc.ok {b:Str} (h:Asc b):PyData.strOk b=true:=by
 unfold PyData.strOk
 rw [Array.all_eq_true_iff_forall_mem]
 intro c hc
 have:=h c (by simpa using hc)
 simp;omega
theorem lay_bD:∀ {bs:List Str},(∀ b∈bs,Asc b)->PyData.canLayAll0 (bs.map PyData.str)=true
 | [],_=>rfl
 | b::r,h=>by
  have:=lay_bD (bs:=r) fun x hx=>h x (mem_cons_of_mem _ hx)
  simp [PyData.canLayAll0,PyData.canLay0,(h b mem_cons_self).ok,this]
theorem lay_b {bs:List Str} (h:∀ b∈bs,Asc b):(PyData.list (bs.map PyData.str)).canLay0=true:=by
 have:=lay_bD h
 simpa [PyData.canLay0] using this
theorem depth_b (bs:List Str):(PyData.list (bs.map PyData.str)).depth<=32:=by
 have:PyData.depthAll (bs.map PyData.str)=0:=by
  induction bs with
  | nil=>rfl
  | cons b r ih=>simp [PyData.depthAll,PyData.depth,ih]
 show PyData.depthAll _+1<=32
 omega
abbrev s_l_width:Stmt:=top 33
theorem sc_l_width:FnScope ["_law_bars_here","_law_longest","_law_bar"] ["_law_bars_here"] (defScope s_l_width):=by walk_at "sc"
def sp_width:SpD:=fun ds Q _=>∃ bs:List Str,ds=[bD bs]/\Sml bs/\Q (.int (wid bs)) true
theorem ok_l_width {f:Addr} {fd:FuncData} (F:Fun K "_law_width" "_law_width" s_l_width f fd) (T:Blt mg):FnOk P w K mg base CX0 1 f fd ["_law_bars_here"] (SpL K sp_width):=by
 refine ok0 F sc_l_width (fun ds Q X h=>?_) (fun cdv A outer s H E hr=>?_) fun ds Qd Xd h=>h
 ·obtain ⟨bs,rfl,_⟩:=h;rfl
 refine ⟨_,(zB (dpset 1 sc_l_width.nd zD)
   (zB (dps_frz 0 (dps_for PassesOwn.never rfl (dpi_list (by rfl) (dpv 0)) (dpgn 2 sc_l_width.nd) (zE (dpset 1 sc_l_width.nd (zG (dcl_max (by rfl) (by rfl)) (by rfl) (by exact T.max) (by decide +kernel) (zA (dpv 1) (zA (zG dcl_lenS (by rfl) (by exact T.len) (by decide +kernel) (zA (dpv 2) zC)) zC)))))))
   (zE (zI (zF dop_sub (dpv 1) zD))))),fun ds Qd h=>?_⟩
 obtain ⟨bs,rfl,hs,q⟩:=h
 show (_:TSD) _ [some (false,.list (bs.map .str)),none,none] _
 walk_at "d"
 refine lp_list (fun j ρ=>∃ z:Option (Bool × D),ρ=[some (false,.list (bs.map .str)),some (false,.int (mx2 (lens (bs.take j)))),z]) ⟨_,rfl⟩ ?_ ?_
 ·rintro j d ρ hd ⟨z,rfl⟩
  obtain ⟨b,hb,rfl⟩:∃ b,bs[j]?=some b/\d=.str b:=by
   rw [List.getElem?_map] at hd
   cases e:bs[j]? with
   | none=>rw [e] at hd;cases hd
   | some r=>rw [e] at hd;cases hd;exact ⟨r,rfl,rfl⟩
  have:=hs.2 b (mem_iff_getElem?.mpr ⟨j,hb⟩)
  walk_at "d"
  have e:mx2 (lens (bs.take (j+1)))=if (b.length:Int) > mx2 (lens (bs.take j)) then (b.length:Int) else mx2 (lens (bs.take j)):=by
   rw [List.take_succ,hb]
   unfold mx2 lens
   rw [map_append,List.foldl_append]
   rfl
  exact ⟨_,by rw [e]⟩
 ·rintro ρ ⟨z,rfl⟩
  rw [length_map,take_length]
  walk_at "d"
  exact q
abbrev s_l_class:Stmt:=top 40
theorem sc_l_class:FnScope ["_law_e","_law_others"] ["_law_e"] (defScope s_l_class):=by walk_at "sc"
def sx_class (K:W.Frag) (cG cT cWd cRd cN3 cA:Addr):SpX:=fun C Q=>∃ tm nb:Bool,PySem.W.kitOne K (.ref C) (.ref cG)=some false/\PySem.W.kitOne K (.ref C) (.ref cT)=some false/\PySem.W.kitOne K (.ref C) (.ref cWd)=some false/\PySem.W.kitOne K (.ref C) (.ref cRd)=some false/\PySem.W.kitOne K (.ref C) (.type "ValueError")=some true/\PySem.W.kitOne K (.ref C) (.ref cN3)=some tm/\PySem.W.kitOne K (.ref C) (.ref cA)=some nb/\nb=!tm/\Q (.bool tm)
theorem ok_l_class {f cG cT cWd cRd cN3 cA:Addr} {fd:FuncData} (F:Fun K "_law_class" "_law_class" s_l_class f fd) (T:Blt mg) (C_NoGrid:ExC K mg "NoGrid" cG) (C_NoTable:ExC K mg "NoTable" cT) (C_NoWord:ExC K mg "NoWord" cWd) (C_NoReader:ExC K mg "NoReader" cRd) (C_TooMany:ExC K mg "TooMany" cN3) (C_NoBars:ExC K mg "NoBars" cA):FnOkX P w K mg base 1 f fd "_law_e" (sx_class K cG cT cWd cRd cN3 cA):=by
 refine okX F sc_l_class fun cdv A outer s H E ea cE oe yE hr hA hoe hCE hKE=>?_
 refine ⟨_,(zB (dpset 1 sc_l_class.nd (dpe_lst (zA (dpe_isX (by rfl) (by exact mem_cons_self) (by exact hoe) (by exact hCE) (by exact hKE) (by rfl) (by exact T.isinstance) (dpv 0) (by rfl) (by exact C_NoGrid.mgx)) (zA (dpe_isX (by rfl) (by exact mem_cons_self) (by exact hoe) (by exact hCE) (by exact hKE) (by rfl) (by exact T.isinstance) (dpv 0) (by rfl) (by exact C_NoTable.mgx)) (zA (dpe_isX (by rfl) (by exact mem_cons_self) (by exact hoe) (by exact hCE) (by exact hKE) (by rfl) (by exact T.isinstance) (dpv 0) (by rfl) (by exact C_NoWord.mgx)) (zA (dpe_isX (by rfl) (by exact mem_cons_self) (by exact hoe) (by exact hCE) (by exact hKE) (by rfl) (by exact T.isinstance) (dpv 0) (by rfl) (by exact C_NoReader.mgx)) zC))))))
   (zB (zR (dPWpt (dpw_or (dpt_val (zG (dcl_anyX (by rfl) (by exact mem_cons_self) (by exact hoe) (by exact hA)) (by rfl) (by exact T.any) (by decide +kernel) (zA (dpv 1) zC))) (dpw_or (dpt_not (dpt_val (dpe_isXB (n:="ValueError") (by rfl) (by exact mem_cons_self) (by exact hoe) (by exact hCE) (by exact hKE) (by rfl) (by exact T.isinstance) (dpv 0) (by rfl) (by exact T.ValueError) (by decide +kernel)))) (dpw_or1 (zS (dop_eq (by rfl) (by exact hr.units)) (dpe_isX (by rfl) (by exact mem_cons_self) (by exact hoe) (by exact hCE) (by exact hKE) (by rfl) (by exact T.isinstance) (dpv 0) (by rfl) (by exact C_TooMany.mgx)) (dpe_isX (by rfl) (by exact mem_cons_self) (by exact hoe) (by exact hCE) (by exact hKE) (by rfl) (by exact T.isinstance) (dpv 0) (by rfl) (by exact C_NoBars.mgx)) (nomark _)))))) (zE (zI dpe_non)) zO)
   (zE (zI (dpe_isX (by rfl) (by exact mem_cons_self) (by exact hoe) (by exact hCE) (by exact hKE) (by rfl) (by exact T.isinstance) (dpv 0) (by rfl) (by exact C_TooMany.mgx)))))),fun Qd h=>?_⟩
 obtain ⟨tm,nb,h1,h2,h3,h4,h5,h6,h7,rfl,q⟩:=h
 show (_:TSD) _ [some (false,opq ea),none] _
 walk_at "d"
 refine ⟨_,h1,?_⟩
 walk_at "d"
 refine ⟨_,h2,?_⟩
 walk_at "d"
 refine ⟨_,h3,?_⟩
 walk_at "d"
 refine ⟨_,h4,?_⟩
 walk_at "d"
 refine ⟨[false,false,false,false],rfl,?_⟩
 walk_at "d"
 rw [if_neg (by decide)]
 walk_at "d"
 refine ⟨_,h5,?_⟩
 walk_at "d"
 refine ⟨_,h6,?_⟩
 walk_at "d"
 refine ⟨_,h7,?_⟩
 refine ⟨by simp [PyData.canLay0],by simp [PyData.canLay0],by simp [PyData.depth],?_⟩
 rw [show PyData.eqv (.bool tm) (.bool !tm)=false from by cases tm<;>rfl]
 walk_at "d"
 rw [if_neg (by decide)]
 walk_at "d"
 refine ⟨_,h6,?_⟩
 exact ⟨q,trivial⟩
theorem pow_small {k:Nat} (h:k=2\/k=3\/k=4):∀ n:Nat,n+k<=7->(k:Int) ^ n<=128:=by
 intro n hn
 rcases h with rfl|rfl|rfl
 ·have:n<=5:=by omega
  match n,this with
  | 0,_|1,_|2,_|3,_|4,_|5,_=>decide
 ·have:n<=4:=by omega
  match n,this with
  | 0,_|1,_|2,_|3,_|4,_=>decide
 ·have:n<=3:=by omega
  match n,this with
  | 0,_|1,_|2,_|3,_=>decide
theorem InL.asc {k c:Nat} (h:InL k c) (hk:k<=4):c < 128:=by have:=h.2;omega
abbrev s_l_bars:Stmt:=top 31
theorem sc_l_bars:FnScope ["_law_big_here","_law_signs","_law_most","_law_many","_law_bars_here","_law_k","_law_size","_law_bar"] ["_law_big_here"] (defScope s_l_bars):=by walk_at "sc"
def sp_bars:SpD:=fun ds Q _=>∃ (b:Int),ds=[.int b]/\0<=b/\∀ (k:Int) (bs:List Str) (b':Int),Sml bs->(∀ x∈bs,Asc x)->St k bs 0->Q (.tuple [.int k,bD bs,.int b']) true
theorem ok_l_bars {f:Addr} {fd:FuncData} (F:Fun K "_law_bars" "_law_bars" s_l_bars f fd) (T:Blt mg) (D_l_word:Df P w K mg base "_law_word" ["_law_big_here","_law_letters","_law_many"] 1 (SpL K sp_word)):FnOk P w K mg base CX0 2 f fd ["_law_big_here"] (SpL K sp_bars):=by
 refine ok0 F sc_l_bars (fun ds Q X h=>?_) (fun cdv A outer s H E hr=>?_) fun ds Qd Xd h=>h
 ·obtain ⟨b,rfl,_⟩:=h;rfl
 refine ⟨_,(zB (dpset 1 sc_l_bars.nd (zF zJ zD (zF zP (dpv 0) zD)))
   (zB (dpset 2 sc_l_bars.nd (zF zJ zD (zF zP (zF zT (dpv 0) zD) (zF dop_sub zD (dpv 1)))))
   (zB (dpset 3 sc_l_bars.nd (zF zP (zF zT (dpv 0) zD) zD))
   (zB (dps_jn (zR (zS dop_gt (zF zP (zF zT (dpv 0) zD) zD) zD (nomark _)) (zE (dpset 3 sc_l_bars.nd (zF zP (dpv 3) zD))) zO))
   (zB (dpset 0 sc_l_bars.nd (zF zT (dpv 0) zD))
   (zB (dpset 4 sc_l_bars.nd (dpe_lst zC))
   (zB (dps_for PassesOwn.never rfl (dpi_range1 (by rfl) (by exact T.range) (zA (dpv 3) zC)) (dpgn 5 sc_l_bars.nd) (zB (dpset 6 sc_l_bars.nd (zF zJ zD (zF zP (dpv 0) (dpv 2))))
   (zB (dps_jn (zR (zS (dop_eq (by rfl) (by exact hr.units)) (zF zP (zF zT (dpv 0) zD) zD) zD (nomark _)) (zE (dpset 6 sc_l_bars.nd (dpv 2))) zO))
   (zB (dps_unp [7,0] 2 rfl (by rfl) (by rfl) (qpgs_cons (qpgn 7 sc_l_bars.nd) (qpgs_cons (qpgn 0 sc_l_bars.nd) qpgs_nil)) (by rfl) (by rfl) (zK (by exact D_l_word) (by exact hr.mono (by omega)) (zA (zF zT (dpv 0) zD) (zA (zL zQ zN (zM (dpv 1))) (zA (dpv 6) zC)))))
   (zE (dps_append 4 (by rfl) (qpv 4) (dpv 7) (by rfl) (by rfl) (by rfl)))))))
   (zE (zI (dpe_tup (zA (dpv 1) (zA (dpv 4) (zA (dpv 0) zC))))))))))))),fun ds Qd h=>?_⟩
 obtain ⟨b,rfl,hb,q⟩:=h
 show (_:TSD) _ [some (false,.int b),none,none,none,none,none,none,none] _
 have h3:=Int.emod_nonneg b (show (3:Int)≠0 by decide)
 have h3':=Int.emod_lt_of_pos b (show (0:Int) < 3 by decide)
 obtain ⟨k,ek,hk⟩:∃ k:Nat,2+b % 3=(k:Int)/\(k=2\/k=3\/k=4):=⟨(2+b % 3).toNat,by omega,by omega⟩
 have h8:(0:Int) < 8 - (2+b % 3):=by omega
 walk_at "d"
 rw [ek] at h8 ⊢
 obtain ⟨m,em,hm1,hm2⟩:∃ m:Nat,1+b / 3 % (8 - (k:Int))=(m:Int)/\1<=m/\m+k<=8:=by
  have a:=Int.emod_nonneg (b / 3) (Int.ne_of_gt h8)
  have c:=Int.emod_lt_of_pos (b / 3) h8
  exact ⟨(1+b / 3 % (8 - (k:Int))).toNat,by omega,by omega,by omega⟩
 rw [em]
 refine w_jn (fun ρ=>∃ n:Nat,n<=12/\ρ=[some (false,.int b),some (false,.int (k:Int)),some (false,.int (m:Int)),some (false,.int (n:Int)),none,none,none,none]) (fun N hN=>?_) ?_
 ·walk_at "d"
  refine iteb (fun _=>?_) fun _=>?_
  ·walk_at "d"
   exact hN _ ⟨(b / 18 % 13 % 5).toNat,by omega,by rw [Int.toNat_of_nonneg (Int.emod_nonneg _ (by decide))]⟩
  ·walk_at "d"
   exact hN _ ⟨(b / 18 % 13).toNat,by omega,by rw [Int.toNat_of_nonneg (Int.emod_nonneg _ (by decide))]⟩
 rintro ρ ⟨n,hn,rfl⟩
 have hb1:0<=b / 936:=Int.ediv_nonneg hb (by decide)
 walk_at "d"
 revert hb1
 generalize b / 936=b1
 intro hb1
 have hm0:(0:Int) < (m:Int):=by omega
 refine lp_rng (fun i ρ=>∃ (bb:Int) (bs:List Str) (x1 x2 x3:Option (Bool × D)),ρ=[some (false,.int bb),some (false,.int (k:Int)),some (false,.int (m:Int)),some (false,.int (n:Int)),some (true,.list (bs.map .str)),x1,x2,x3]/\0<=bb/\bs.length=i/\∀ x∈bs,1<=x.length/\x.length<=m/\∀ c∈x.cps.toList,InL k c) ⟨b1,[],_,_,_,rfl,hb1,rfl,fun _ z=>by cases z⟩ ?_ ?_
 ·rintro i ρ hi ⟨bb,bs,x1,x2,x3,rfl,hbb,hbl,hbs⟩
  walk_at "d"
  have a:=Int.emod_nonneg bb (Int.ne_of_gt hm0)
  have c:=Int.emod_lt_of_pos bb hm0
  refine w_jn (fun ρ=>∃ z:Nat,1<=z/\z<=m/\ρ=[some (false,.int bb),some (false,.int (k:Int)),some (false,.int (m:Int)),some (false,.int (n:Int)),some (true,.list (bs.map .str)),some (false,.int (0+(i:Int))),some (false,.int (z:Int)),x3]) (fun N hN=>?_) ?_
  ·walk_at "d"
   refine iteb (fun _=>?_) fun _=>?_
   ·walk_at "d"
    exact hN _ ⟨m,hm1,Nat.le_refl _,rfl⟩
   ·walk_at "d"
    exact hN _ ⟨(1+bb % (m:Int)).toNat,by omega,by omega,by rw [Int.toNat_of_nonneg (by omega)]⟩
  rintro ρ ⟨z,hz1,hz2,rfl⟩
  walk_at "d"
  refine ⟨bb / 12,_,k,z,rfl,Int.ediv_nonneg hbb (by decide),let_of hk,by omega,by omega,by omega,fun x b' hx1 hx2 hb'=>?_⟩
  walk_at "d"
  refine ⟨bs.map .str,rfl,by rw [length_map];omega,?_⟩
  walk_at "d"
  refine ⟨b',bs++[x],_,_,_,by rw [map_append];rfl,hb',by rw [length_append,hbl];rfl,fun y hy=>?_⟩
  rcases mem_append.mp hy with hy|hy
  ·exact hbs y hy
  ·rw [mem_singleton.mp hy,hx1];exact ⟨hz1,hz2,hx2⟩
 ·rintro ρ ⟨bb,bs,x1,x2,x3,rfl,hbb,hbl,hbs⟩
  rw [Int.toNat_natCast] at hbl
  walk_at "d"
  have g:GoodR (k:Int) bs:=⟨by omega,by omega,fun x hx=>⟨(hbs x hx).1,by have:=(hbs x hx).2.1;omega,fun c hc=>by have:=(hbs x hx).2.2 c hc;unfold InL at this;omega⟩⟩
  have hw:=wid_le (bs:=bs) (m:=8 - (k:Int)) (by omega) fun x hx=>by have:=(hbs x hx).2.1;omega
  have hp:=wid_pos bs
  exact q (k:Int) bs bb ⟨by omega,fun x hx=>by have:=(hbs x hx).2.1;omega⟩ (fun x hx c hc=>((hbs x hx).2.2 c hc).asc (by omega)) ⟨g,pow_small hk _ (by omega)⟩
abbrev s_l_free:Stmt:=top 34
theorem sc_l_free:FnScope ["_law_word_here","_law_bars_here","_law_bar"] ["_law_word_here","_law_bars_here"] (defScope s_l_free):=by walk_at "sc"
theorem ok_l_free {f:Addr} {fd:FuncData} (F:Fun K "_law_free" "_law_free" s_l_free f fd) (T:Blt mg):FnOk P w K mg base CX0 1 f fd ["_law_word_here","_law_bars_here"] (SpL K sp_free):=by
 refine ok0 F sc_l_free (fun ds Q X h=>?_) (fun cdv A outer s H E hr=>?_) fun ds Qd Xd h=>h
 ·obtain ⟨x,bs,rfl,_⟩:=h;rfl
 refine ⟨_,(zB (dps_frz 1 (dps_for PassesOwn.never rfl (dpi_list (by rfl) (dpv 1)) (dpgn 2 sc_l_free.nd) (zE (zR (zS dop_inS (dpv 2) (dpv 0) rfl) (zE (zI dpe_bl)) zO))))
   (zE (zI dpe_bl))),fun ds Qd h=>?_⟩
 obtain ⟨x,bs,rfl,hl,q⟩:=h
 show (_:TSD) _ [some (false,.str x),some (false,.list (bs.map .str)),none] _
 walk_at "d"
 refine lp_list (fun j ρ=>∃ z:Option (Bool × D),ρ=[some (false,.str x),some (false,.list (bs.map .str)),z]/\∀ b∈bs.take j,has b x=false) ⟨_,rfl,fun _ z=>by cases z⟩ ?_ ?_
 ·rintro j d ρ hd ⟨z,rfl,hj⟩
  obtain ⟨b,hb,rfl⟩:∃ b,bs[j]?=some b/\d=.str b:=by
   rw [List.getElem?_map] at hd
   cases e:bs[j]? with
   | none=>rw [e] at hd;cases hd
   | some r=>rw [e] at hd;cases hd;exact ⟨r,rfl,rfl⟩
  walk_at "d"
  refine iteb (fun h1=>?_) fun h1=>?_
  ·have e:fr bs x=false:=by
    unfold fr
    rw [List.all_eq_false]
    exact ⟨b,mem_iff_getElem?.mpr ⟨j,hb⟩,by show ¬ (!has b x)=true;rw [show has b x=true from h1];decide⟩
   rw [e] at q
   walk_at "d"
   exact q
  ·walk_at "d"
   refine ⟨_,rfl,fun y hy=>?_⟩
   rw [List.take_succ,hb] at hy
   rcases mem_append.mp hy with hy|hy
   ·exact hj y hy
   ·rw [mem_singleton.mp hy];exact h1
 ·rintro ρ ⟨z,rfl,hj⟩
  have e:fr bs x=true:=by
   unfold fr
   rw [all_eq_true]
   intro b hb
   rw [hj b (by rw [length_map,take_length];exact hb)];rfl
  rw [e] at q
  walk_at "d"
  exact q
theorem let_txt {k:Nat} (h:K3 k):(Txt.slice (Str.ofString "abcd") none (some (k:Int))).cps.toList=letters k:=by
 rcases h with rfl|rfl|rfl
 ·have e:Txt.slice (Str.ofString "abcd") none (some ((2:Nat):Int))=⟨#[97,98]⟩:=by decide +kernel
  rw [e];rfl
 ·have e:Txt.slice (Str.ofString "abcd") none (some ((3:Nat):Int))=⟨#[97,98,99]⟩:=by decide +kernel
  rw [e];rfl
 ·have e:Txt.slice (Str.ofString "abcd") none (some ((4:Nat):Int))=⟨#[97,98,99,100]⟩:=by decide +kernel
  rw [e];rfl
abbrev s_l_words:Stmt:=top 35
theorem sc_l_words:FnScope ["_law_letters","_law_size","_law_words_here","_law_k","_law_longer","_law_word_here"] ["_law_letters","_law_size"] (defScope s_l_words):=by walk_at "sc"
def sp_lwords:SpD:=fun ds Q _=>∃ (k n:Nat) (z:Str),ds=[.str z,.int n]/\z.cps.toList=letters k/\K3 k/\n<=6/\Q (wD (W k n)) true
theorem flat_part {α β:Type} (l:List α) (f:α->List β) {j:Nat} {x:α} (h:l[j]?=some x):(l.take (j+1)).flatMap f=(l.take j).flatMap f++f x:=by
 rw [List.take_add_one,h,List.flatMap_append];simp
theorem ok_l_words {f:Addr} {fd:FuncData} (F:Fun K "_law_words" "_law_words" s_l_words f fd) (T:Blt mg):FnOk P w K mg base CX0 1 f fd ["_law_letters","_law_size"] (SpL K sp_lwords):=by
 refine ok0 F sc_l_words (fun ds Q X h=>?_) (fun cdv A outer s H E hr=>?_) fun ds Qd Xd h=>h
 ·obtain ⟨k,n,z,rfl,_⟩:=h;rfl
 refine ⟨_,(zB (dpset 2 sc_l_words.nd (dpe_lst (zA zQ zC)))
   (zB (dps_for PassesOwn.never rfl (dpi_range1 (by rfl) (by exact T.range) (zA (dpv 1) zC)) (dpgn 3 sc_l_words.nd) (zB (dpset 4 sc_l_words.nd (dpe_lst zC))
   (zB (dps_frz 2 (dps_for PassesOwn.never rfl (dpi_list (by rfl) (dpv 2)) (dpgn 5 sc_l_words.nd) (zE (dpset 4 sc_l_words.nd (zF zJ (dpv 4) (dpe_lc ["_law_sign"] [("_law_word_here",5)] rfl (LcScope.of (by kernel_rfl)) (dpi_str (dpv 0)) (fun _ _ _ _=>⟨(dpgn 0 (nd_of (by kernel_rfl))),dpts_nil,(dpb_emit (by rfl) (by rfl) (zF zJ (dpv 1) (dpv 0)))⟩)))))))
   (zE (dpset 2 sc_l_words.nd (dpv 4))))))
   (zE (zI (dpv 2))))),fun ds Qd h=>?_⟩
 obtain ⟨k,n,z,rfl,hz,hk,hn,q⟩:=h
 show (_:TSD) _ [some (false,.str z),some (false,.int n),none,none,none,none] _
 have hk4:k<=4:=by rcases hk with rfl|rfl|rfl<;>decide
 have hll:=len_let k
 walk_at "d"
 refine lp_rng (fun i ρ=>∃ (x y u:Option (Bool × D)),ρ=[some (false,.str z),some (false,.int (n:Int)),some (true,.list ((W k i).map .str)),x,y,u]) ⟨_,_,_,by
  have e:Str.ofString ""=⟨#[]⟩:=by decide +kernel
  show [_,_,some (true,PyData.list [PyData.str (Str.ofString "")]),_,_,_]=_
  rw [e];rfl⟩ ?_ ?_
 ·rintro i ρ hi ⟨x,y,u,rfl⟩
  have hi':i < n:=by simpa using hi
  have hp:=pow_small' hk (n:=i+1) (by omega)
  rw [<-len_W] at hp
  walk_at "d"
  refine lp_list (fun j ρ=>∃ (u:Option (Bool × D)),ρ=[some (false,.str z),some (false,.int (n:Int)),some (false,.list ((W k i).map .str)),some (false,.int (0+(i:Int))),some (true,.list ((((W k i).take j).flatMap fun w=>(letters k).map fun c=>w++chr c).map .str)),u]) ⟨_,rfl⟩ ?_ ?_
  ·rintro j d ρ hd ⟨u,rfl⟩
   obtain ⟨x,hx,rfl⟩:∃ x,(W k i)[j]?=some x/\d=.str x:=by
    rw [List.getElem?_map] at hd
    cases e:(W k i)[j]? with
    | none=>rw [e] at hd;cases hd
    | some r=>rw [e] at hd;cases hd;exact ⟨r,rfl,rfl⟩
   have hxl:=(mem_W.mp (List.mem_of_getElem? hx)).1
   have hsz:(((W k i).take (j+1)).flatMap fun w=>(letters k).map fun c=>w++chr c).length<=(W k (i+1)).length:=by
    rw [W]
    refine List.Sublist.length_le ?_
    conv=>rhs;rw [<-take_append_drop (j+1) (W k i)]
    rw [List.flatMap_append]
    exact List.sublist_append_left _ _
   rw [flat_part _ _ hx,length_append] at hsz
   walk_at "d"
   unfold DL.signs
   rw [hz]
   refine lc_mapA (L:=letters k) (fun c=>PyData.str ⟨#[c]⟩) (fun c=>.str (x++chr c)) (fun c hc es Q' hl q'=>?_) (by omega) ?_
   ·walk_at "d"
    refine ⟨by show x.length+1<=_;omega,?_⟩
    first|exact q'|(walk_at "d";first|exact q'|exact ⟨hl,rfl,q'⟩)
   walk_at "d"
   refine ⟨by rw [length_map,length_map];rw [length_map] at hsz;omega,some (false,.str x),?_⟩
   have hk2:kels2 ((((W k i).take j).flatMap fun w=>(letters k).map fun c=>w++chr c).map PyData.str) (Kd.own [4]) ((letters k).map fun c=>PyData.str (x++chr c)) (Kd.own [])=Kd.own []:=by
    unfold kels2
    have e2:((letters k).map fun c=>PyData.str (x++chr c))=((letters k).map fun c=>x++chr c).map PyData.str:=by rw [map_map];rfl
    rw [flats_txt,e2,flats_txt];rfl
   rw [hk2,flat_part _ _ hx,map_append,map_map]
   rfl
  ·rintro ρ ⟨u,rfl⟩
   rw [length_map,take_length]
   walk_at "d"
   exact ⟨_,_,_,rfl⟩
 ·rintro ρ ⟨x,y,u,rfl⟩
  walk_at "d"
  rw [show (n:Int).toNat=n from rfl]
  exact q
def pD (s:Str × Str):D:=.tuple [.str s.1,.str s.2]
def bI (b:Bool):Int:=if b=true then 1 else 0
theorem put_tD (ks:List Str) (t:Str):putD (tD ks) (Sum.inr t) (.bool true)=tD (addK ks t):=by
 unfold putD addK
 by_cases h:t∈ks
 ·rw [if_pos h,if_pos]
  ·unfold tD
   rw [map_map]
   refine List.map_congr_left fun a _=>?_
   show (if (Sum.inr a:Key)=Sum.inr t then ((Sum.inr a:Key),PyData.bool true) else (Sum.inr a,PyData.bool true))=_
   split<;>rfl
  ·exact any_eq_true.mpr ⟨(Sum.inr t,.bool true),mem_map.mpr ⟨t,h,rfl⟩,by simp⟩
 ·rw [if_neg h,if_neg]
  ·unfold tD;rw [map_append];rfl
  ·intro z
   obtain ⟨p,hp,hq⟩:=any_eq_true.mp z
   obtain ⟨a,ha,rfl⟩:=mem_map.mp hp
   have:a=t:=by simpa using hq
   exact h (this ▸ ha)
theorem at_pk (s:Str × Str) (sd:Bool):atI [PyData.str s.1,PyData.str s.2] (bI sd)=some (.str (pk sd s)):=by
 cases sd
 ·exact atI_nat (xs:=[PyData.str s.1,PyData.str s.2]) (j:=0) rfl
 ·exact atI_nat (xs:=[PyData.str s.1,PyData.str s.2]) (j:=1) rfl
theorem bI_not (sd:Bool):1 - bI sd=bI (!sd):=by cases sd<;>rfl
theorem map_part {ss:List (Str × Str)} {j:Nat} {s:Str × Str} (h:ss[j]?=some s) (f:Str × Str->Str):(ss.take (j+1)).map f=(ss.take j).map f++[f s]:=by
 rw [List.take_add_one,h,map_append];rfl
theorem sel_part {ss:List (Str × Str)} {j:Nat} {s:Str × Str} (h:ss[j]?=some s) (sd:Bool) (L:List Str):(sel (ss.take (j+1)) sd L).map (pk sd)=if pk (!sd) s∈L then (sel (ss.take j) sd L).map (pk sd)++[pk sd s] else (sel (ss.take j) sd L).map (pk sd):=by
 unfold sel
 rw [List.take_add_one,h,List.filter_append,map_append]
 by_cases z:pk (!sd) s∈L
 ·rw [if_pos z];simp [z]
 ·rw [if_neg z];simp [z]
abbrev s_l_lasting:Stmt:=top 36
theorem sc_l_lasting:FnScope ["_law_steps","_law_side","_law_left","_law_step","_law_many","_law_kept"] ["_law_steps","_law_side"] (defScope s_l_lasting):=by walk_at "sc"
def sp_last:SpD:=fun ds Q _=>∃ (ss:List (Str × Str)) (sd:Bool),ds=[.list (ss.map pD),.int (bI sd)]/\ss.length<=5000/\∀ ks:List Str,ks.Nodup->(∀ t,t∈ks ↔ Last ss sd t)->ks.length<=5000->Q (dKD (tD ks)) true
theorem ok_l_lasting {f:Addr} {fd:FuncData} (F:Fun K "_law_lasting" "_law_lasting" s_l_lasting f fd) (T:Blt mg):FnOk P w K mg base CX0 1 f fd ["_law_steps","_law_side"] (SpL K sp_last):=by
 refine ok0 F sc_l_lasting (fun ds Q X h=>?_) (fun cdv A outer s H E hr=>?_) fun ds Qd Xd h=>h
 ·obtain ⟨ss,sd,rfl,_⟩:=h;rfl
 refine ⟨_,(zB (dpset 2 sc_l_lasting.nd dpe_dnewK)
   (zB (dps_frz 0 (dps_for PassesOwn.never rfl (dpi_list (by rfl) (dpv 0)) (dpgn 3 sc_l_lasting.nd) (zE (dps_dput 2 (by exact Nat.lt_of_le_of_lt (Nat.add_le_add_left (by decide) _) hr.units) (qpv 2) (dky_of (dpe_ix (dix (by rfl)) (dpv 3) (dpv 1) (fun _ _=>rfl))) dpe_bl))))
   (zB (dpset 4 sc_l_lasting.nd (zF zJ (zG dcl_lenD (by rfl) (by exact T.len) (by decide +kernel) (zA (dpv 2) zC)) zD))
   (zB (dps_while PassesOwn.never (zS dop_lt (zG dcl_lenD (by rfl) (by exact T.len) (by decide +kernel) (zA (dpv 2) zC)) (dpv 4) (nomark _)) (zB (dpset 4 sc_l_lasting.nd (zG dcl_lenD (by rfl) (by exact T.len) (by decide +kernel) (zA (dpv 2) zC)))
   (zB (dpset 5 sc_l_lasting.nd dpe_dnewK)
   (zB (dps_frz 0 (dps_for PassesOwn.never rfl (dpi_list (by rfl) (dpv 0)) (dpgn 3 sc_l_lasting.nd) (zE (zR (dpt_din (by exact Nat.lt_of_le_of_lt (Nat.add_le_add_left (by decide) _) hr.units) (dky_of (dpe_ix (dix (by rfl)) (dpv 3) (zF dop_sub zD (dpv 1)) (fun _ _=>rfl))) (dpv 2) (by rfl)) (zE (dps_dput 5 (by exact Nat.lt_of_le_of_lt (Nat.add_le_add_left (by decide) _) hr.units) (qpv 5) (dky_of (dpe_ix (dix (by rfl)) (dpv 3) (dpv 1) (fun _ _=>rfl))) dpe_bl)) zO))))
   (zE (dpset 2 sc_l_lasting.nd (dpv 5)))))))
   (zE (zI (dpv 2))))))),fun ds Qd h=>?_⟩
 obtain ⟨ss,sd,rfl,hl,q⟩:=h
 show (_:TSD) _ [some (false,.list (ss.map pD)),some (false,.int (bI sd)),none,none,none,none] _
 have get:∀ {j:Nat} {d:D},(ss.map pD)[j]?=some d->∃ s,ss[j]?=some s/\d=.tuple [.str s.1,.str s.2]:=by
  intro j d hd
  rw [List.getElem?_map] at hd
  cases e:ss[j]? with
  | none=>rw [e] at hd;cases hd
  | some r=>rw [e] at hd;cases hd;exact ⟨r,rfl,rfl⟩
 walk_at "d"
 refine lp_list (fun j ρ=>∃ x:Option (Bool × D),ρ=[some (false,.list (ss.map pD)),some (false,.int (bI sd)),some (true,dKD (tD (uq ((ss.take j).map (pk sd))))),x,none,none]) ⟨_,rfl⟩ ?_ ?_
 ·rintro j d ρ hd ⟨x,rfl⟩
  obtain ⟨s,hs,rfl⟩:=get hd
  have l0:=len_uq ((ss.take j).map (pk sd))
  rw [length_map,length_take] at l0
  have l1:(tD (uq ((ss.take j).map (pk sd)))).length=(uq ((ss.take j).map (pk sd))).length:=by unfold tD;rw [length_map]
  walk_at "d"
  refine ⟨_,at_pk s sd,?_⟩
  walk_at "d"
  rw [put_tD,map_part hs,uq_snoc]
  first|rfl|exact ⟨_,rfl⟩
 rintro ρ ⟨x,rfl⟩
 rw [length_map,take_length]
 have l0:=len_uq (ss.map (pk sd))
 rw [length_map] at l0
 have lD:∀ ks:List Str,(tD ks).length=ks.length:=fun ks=>by unfold tD;rw [length_map]
 have L0:=Lt.start ss sd
 walk_at "d"
 rw [lD]
 refine ⟨fun m ρ=>∃ (ks:List Str) (x y:Option (Bool × D)),ρ=[some (false,.list (ss.map pD)),some (false,.int (bI sd)),some (true,dKD (tD ks)),x,some (false,.int (m:Int)),y]/\Lt ss sd ks m/\ks.length<=5000,⟨(uq (ss.map (pk sd))).length+1,_,_,_,rfl,L0,by omega⟩,?_⟩
 rintro m ρ ⟨ks,x,y,rfl,hL,hl5⟩
 walk_at "d"
 rw [lD]
 refine ite2 (fun h1=>?_) fun h1=>?_
 rotate_left
 ·walk_at "d"
  exact q ks hL.nd (hL.fin (by simp at h1;omega)) hl5
 have h1:ks.length < m:=by simp at h1;omega
 walk_at "d"
 rw [lD]
 refine lp_list (fun j ρ=>∃ x:Option (Bool × D),ρ=[some (false,.list (ss.map pD)),some (false,.int (bI sd)),some (true,dKD (tD ks)),x,some (false,.int (ks.length:Int)),some (true,dKD (tD (uq ((sel (ss.take j) sd ks).map (pk sd)))))]) ⟨_,rfl⟩ ?_ ?_
 ·rintro j d ρ hd ⟨x,rfl⟩
  obtain ⟨s,hs,rfl⟩:=get hd
  have l0:=len_uq ((sel (ss.take j) sd ks).map (pk sd))
  have l2:(sel (ss.take j) sd ks).length<=(ss.take j).length:=length_filter_le _ _
  rw [length_map] at l0
  rw [length_take] at l2
  have l1:=lD (uq ((sel (ss.take j) sd ks).map (pk sd)))
  walk_at "d"
  rw [bI_not]
  refine ⟨_,at_pk s (!sd),?_⟩
  walk_at "d"
  rw [look_tD]
  refine iteb (fun h2=>?_) fun h2=>?_
  ·have h2:pk (!sd) s∈ks:=of_decide_eq_true h2
   walk_at "d"
   refine ⟨_,at_pk s sd,?_⟩
   walk_at "d"
   rw [put_tD,sel_part hs,if_pos h2,uq_snoc]
   first|rfl|exact ⟨_,rfl⟩
  ·have h2:¬ pk (!sd) s∈ks:=of_decide_eq_false h2
   walk_at "d"
   exact ⟨_,by rw [sel_part hs,if_neg h2]⟩
 ·rintro ρ ⟨x,rfl⟩
  rw [length_map,take_length]
  have l3:(nxt ss sd ks).length<=5000:=by
   have a:=len_uq ((sel ss sd ks).map (pk sd))
   have b:(sel ss sd ks).length<=ss.length:=length_filter_le _ _
   rw [length_map] at a
   exact Nat.le_trans a (Nat.le_trans b hl)
  walk_at "d"
  exact ⟨ks.length,h1,nxt ss sd ks,_,_,rfl,hL.step,l3⟩
abbrev s_l_world:Stmt:=top 37
theorem sc_l_world:FnScope ["_law_signs","_law_bars_here","_law_steps","_law_word_here"] ["_law_signs","_law_bars_here"] (defScope s_l_world):=by walk_at "sc"
def sp_world:SpD:=fun ds Q _=>∃ (k:Int) (bs:List Str),ds=[.int k,bD bs]/\Sml bs/\GoodR k bs/\∀ l1 l0:List Str,l1.Nodup->l0.Nodup->(∀ t,t∈l1 ↔ Last (steps k.toNat bs (wid bs).toNat) true t)->(∀ t,t∈l0 ↔ Last (steps k.toNat bs (wid bs).toNat) false t)->l1.length<=5000->l0.length<=5000->Q (.tuple [dKD (tD l1),dKD (tD l0)]) true
theorem ok_l_world {f:Addr} {fd:FuncData} (F:Fun K "_law_world" "_law_world" s_l_world f fd) (T:Blt mg) (D_l_words:Df P w K mg base "_law_words" ["_law_letters","_law_size"] 1 (SpL K sp_lwords)) (D_l_width:Df P w K mg base "_law_width" ["_law_bars_here"] 1 (SpL K sp_width)) (D_l_free:Df P w K mg base "_law_free" ["_law_word_here","_law_bars_here"] 1 (SpL K sp_free)) (D_l_lasting:Df P w K mg base "_law_lasting" ["_law_steps","_law_side"] 1 (SpL K sp_last)):FnOk P w K mg base CX0 2 f fd ["_law_signs","_law_bars_here"] (SpL K sp_world):=by
 refine ok0 F sc_l_world (fun ds Q X h=>?_) (fun cdv A outer s H E hr=>?_) fun ds Qd Xd h=>h
 ·obtain ⟨k,bs,rfl,_⟩:=h;rfl
 refine ⟨_,(zB (dpset 2 sc_l_world.nd (dpe_lst zC))
   (zB (dps_for PassesOwn.never rfl (dpi_list (by rfl) (zK (by exact D_l_words) (by exact hr.mono (by omega)) (zA (zL zQ zN (zM (dpv 0))) (zA (zF zJ (zK (by exact D_l_width) (by exact hr.mono (by omega)) (zA (dpv 1) zC)) zD) zC)))) (dpgn 3 sc_l_world.nd) (zE (zR (dpt_val (zK (by exact D_l_free) (by exact hr.mono (by omega)) (zA (dpv 3) (zA (dpv 1) zC)))) (zE (dps_append 2 (by rfl) (qpv 2) (dpe_tup (zA (zL (dpv 3) zN (zM (dpe_neg zD))) (zA (zL (dpv 3) (zM zD) zN) zC))) (by rfl) (by rfl) (by rfl))) zO)))
   (zE (zI (dpe_tup (zA (zK (by exact D_l_lasting) (by exact hr.mono (by omega)) (zA (dpv 2) (zA zD zC))) (zA (zK (by exact D_l_lasting) (by exact hr.mono (by omega)) (zA (dpv 2) (zA zD zC))) zC))))))),fun ds Qd h=>?_⟩
 obtain ⟨k,bs,rfl,hs,hg,q⟩:=h
 show (_:TSD) _ [some (false,.int k),some (false,bD bs),none,none] _
 obtain ⟨n,en,hn1,hn5⟩:=wid5 hg
 obtain ⟨kk,ek,hk⟩:∃ kk:Nat,k=(kk:Int)/\K3 kk:=⟨k.toNat,by have:=hg.1;omega,by have:=hg.1;unfold K3;omega⟩
 have hb100:bs.length<=100:=hs.1
 rw [en,ek] at q
 have q:∀ l1 l0:List Str,l1.Nodup->l0.Nodup->(∀ t,t∈l1 ↔ Last (steps kk bs n) true t)->(∀ t,t∈l0 ↔ Last (steps kk bs n) false t)->l1.length<=5000->l0.length<=5000->Qd (.tuple [dKD (tD l1),dKD (tD l0)]) true:=q
 rw [ek]
 walk_at "d"
 refine ⟨bs,rfl,hs,?_⟩
 rw [en]
 walk_at "d"
 refine ⟨kk,n+1,_,rfl,let_txt hk,hk,by omega,?_⟩
 have hp:=pow_small' hk (n:=n+1) (by omega)
 rw [<-len_W] at hp
 unfold wD
 walk_at "d"
 refine lp_list (fun j ρ=>∃ x:Option (Bool × D),ρ=[some (false,.int (kk:Int)),some (false,bD bs),some (true,.list (((((W kk (n+1)).take j).filter (fr bs)).map fun x=>(sl0 x,sl1 x)).map pD)),x]) ⟨_,rfl⟩ ?_ ?_
 ·rintro j d ρ hd ⟨x,rfl⟩
  obtain ⟨x,hx,rfl⟩:∃ x,(W kk (n+1))[j]?=some x/\d=.str x:=by
   rw [List.getElem?_map] at hd
   cases e:(W kk (n+1))[j]? with
   | none=>rw [e] at hd;cases hd
   | some r=>rw [e] at hd;cases hd;exact ⟨r,rfl,rfl⟩
  have hxl:=(mem_W.mp (List.mem_of_getElem? hx)).1
  have l2:=length_filter_le (fr bs) ((W kk (n+1)).take j)
  rw [length_take] at l2
  walk_at "d"
  refine ⟨x,bs,rfl,hb100,?_⟩
  walk_at "d"
  refine iteb (fun h2=>?_) fun h2=>?_
  ·walk_at "d"
   refine ⟨_,rfl,by rw [length_map,length_map];omega,?_⟩
   walk_at "d"
   exact ⟨some (false,.str x),by rw [List.take_add_one,hx,List.filter_append];simp [h2,pD,sl0,sl1]⟩
  ·walk_at "d"
   exact ⟨some (false,.str x),by rw [List.take_add_one,hx,List.filter_append];simp [h2]⟩
 ·rintro ρ ⟨x,rfl⟩
  rw [length_map,take_length]
  have e1:(((W kk (n+1)).filter (fr bs)).map fun x=>(sl0 x,sl1 x))=steps kk bs n:=rfl
  have hst:(steps kk bs n).length<=5000:=by
   unfold steps;rw [length_map]
   exact Nat.le_trans (length_filter_le _ _) (by omega)
  rw [e1]
  walk_at "d"
  refine ⟨steps kk bs n,true,rfl,hst,fun l1 a1 a2 a3=>?_⟩
  walk_at "d"
  refine ⟨steps kk bs n,false,rfl,hst,fun l0 b1 b2 b3=>?_⟩
  walk_at "d"
  exact q l1 l0 a1 b1 a2 b2 a3 b3
abbrev s_l_windows:Stmt:=top 38
theorem sc_l_windows:FnScope ["_law_world_here"] ["_law_world_here"] (defScope s_l_windows):=by walk_at "sc"
def sp_lwin:SpD:=fun ds Q _=>∃ l1 l0:List Str,ds=[.tuple [dKD (tD l1),dKD (tD l0)]]/\l1.Nodup/\l1.length<=5000/\(l1.filter fun t=>decide (t∈l0)).length < 128/\∀ us:List Str,us.Pairwise ltS->(∀ t,t∈us ↔ t∈l1/\t∈l0)->us.length < 128->Q (wD us) true
theorem ok_l_windows {f:Addr} {fd:FuncData} (F:Fun K "_law_windows" "_law_windows" s_l_windows f fd) (T:Blt mg):FnOk P w K mg base CX0 1 f fd ["_law_world_here"] (SpL K sp_lwin):=by
 refine ok0 F sc_l_windows (fun ds Q X h=>?_) (fun cdv A outer s H E hr=>?_) fun ds Qd Xd h=>h
 ·obtain ⟨l1,l0,rfl,_⟩:=h;rfl
 refine ⟨_,(zE (zI (zG (dcl_sortS (by rfl)) (by rfl) (by exact T.sorted) (by decide +kernel) (zA (dpe_lcK ["_law_word_here"] [("_law_world_here",0)] rfl (by rfl) (LcScope.of (by kernel_rfl)) (dpe_ix (dix (by rfl)) (dpv 0) zD (fun _ _=>rfl)) (fun _ _ _=>⟨qpgn 0 (nd_of (by kernel_rfl)),(dpts_one (dpt_dinF (by exact Nat.lt_of_le_of_lt (Nat.add_le_add_left (by decide) _) hr.units) (dky_of (dpv 0)) (dpe_ix (dix (by rfl)) (dpv 1) zD (fun _ _=>rfl)) (by rfl))),qpv 0⟩)) zC)))),fun ds Qd h=>?_⟩
 obtain ⟨l1,l0,rfl,n1,h5,h128,q⟩:=h
 show (_:TSD) _ [some (false,.tuple [dKD (tD l1),dKD (tD l0)])] _
 have lD:∀ ks:List Str,(tD ks).length=ks.length:=fun ks=>by unfold tD;rw [length_map]
 walk_at "d"
 refine ⟨_,atI_nat (xs:=[dKD (tD l1),dKD (tD l0)]) (j:=0) rfl,?_⟩
 walk_at "d"
 refine ⟨tD l1,kB fun t=>decide (t∈l0),[some (false,.tuple [dFD (tD l1),dFD (tD l0)])],rfl,by rw [lD];omega,⟨rfl,fun j y hj=>?_⟩,fun t ht Q' hq=>?_,?_⟩
 ·match j,hj with
  | 0,hj=>cases hj;exact ⟨rfl,_,_,_,rfl,rfl,.two _ _⟩
 ·rw [keys_tD] at ht
  obtain ⟨t',ht',rfl⟩:=mem_map.mp ht
  have ek:keyV (Sum.inr t')=PyData.str t':=rfl
  rw [ek]
  walk_at "d"
  refine ⟨_,atI_nat (xs:=[dFD (tD l1),dFD (tD l0)]) (j:=1) rfl,?_⟩
  walk_at "d"
  refine ⟨_,_,rfl,rfl,?_⟩
  rw [look_tD]
  walk_at "d"
  exact hq
 have e0:(fun t=>kB (fun t=>decide (t∈l0)) (Sum.inr t))=fun t=>decide (t∈l0):=rfl
 rw [keys_tD,flt_inr,e0,map_map]
 have nf:=n1.filter fun t=>decide (t∈l0)
 walk_at "d"
 refine ⟨l1.filter fun t=>decide (t∈l0),rfl,nf,h128,fun us p1 p2=>?_⟩
 walk_at "d"
 refine q us p2 (fun t=>?_) (by rw [p1.length_eq];exact h128)
 rw [p1.mem_iff,mem_filter,decide_eq_true_eq]
abbrev s_stands_by:Stmt:=top 26
theorem sc_stands_by:FnScope ["windows","bars","word","width","parts"] ["windows","bars","word"] (defScope s_stands_by):=by walk_at "sc"
structure Wnd (k:Nat) (bs:List Str) (n:Nat) (us:List Str):Prop where
 srt:us.Pairwise ltS
 iff:∀ t,t∈us ↔ Win k bs n t
 len:us.length < 128
open Classical in
noncomputable def stB (k:Nat) (bs:List Str) (n:Nat) (x:Str):Bool:=decide (sts k bs n x)
def sp_by:SpD:=fun ds Q _=>∃ (k n:Nat) (us bs:List Str) (x:Str),ds=[wD us,bD bs,.str x]/\Wnd k bs n us/\1<=n/\n<=100/\bs.length<=100/\x.length<=100/\Q (.bool (stB k bs n x)) true
theorem stB_no {k n:Nat} {bs:List Str} {x:Str} (h:¬ sts k bs n x):stB k bs n x=false:=by
 simp [stB,h]
theorem stB_iff {k n:Nat} {bs:List Str} {x:Str}:stB k bs n x=true ↔ sts k bs n x:=by
 simp [stB]
theorem sts_nil {k n:Nat} {bs:List Str} {x:Str} (W:Wnd k bs n []):¬ sts k bs n x:=by
 have nw:∀ t,¬ Win k bs n t:=fun t h=>by have:=(W.iff t).mpr h;cases this
 unfold sts
 split
 ·rintro ⟨t,h,_⟩;exact nw t h
 ·rintro ⟨_,h⟩;exact nw _ (h 0 (by omega))
theorem sw_iff {x y:Str}:Txt.startswith x y=true ↔ y.cps.toList <+: x.cps.toList:=by
 unfold Txt.startswith
 rw [Bool.and_eq_true,decide_eq_true_eq,StrLaws.subAt_eq,beq_iff_eq,List.drop_zero,<-len_tl y]
 constructor
 ·rintro ⟨_,h⟩;rw [<-h];exact List.take_prefix _ _
 ·intro h
  have:=h.length_le
  rw [len_tl,len_tl] at this
  exact ⟨by rw [len_tl];omega,(List.prefix_iff_eq_take.mp h).symm⟩
theorem stB_short {k n:Nat} {us bs:List Str} {x:Str} (W:Wnd k bs n us) (h:x.length < n):((us.map fun t=>Txt.startswith t x).any id)=stB k bs n x:=by
 rw [any_fun,Bool.eq_iff_iff,stB_iff,any_eq_true]
 unfold sts
 rw [if_pos h]
 constructor
 ·rintro ⟨t,h1,h2⟩;exact ⟨t,(W.iff t).mp h1,sw_iff.mp h2⟩
 ·rintro ⟨t,h1,h2⟩;exact ⟨t,(W.iff t).mpr h1,sw_iff.mpr h2⟩
def prt (x:Str) (n j:Nat):Str:=sT ((x.cps.toList.drop j).take n)
theorem all_fun {α:Type} (l:List α) (f:α->Bool):(l.map f).all id=l.all f:=by
 induction l with
 | nil=>rfl
 | cons a r ih=>rw [map_cons,all_cons,all_cons,ih];rfl
theorem stB_long {k n:Nat} {us bs:List Str} {x:Str} (W:Wnd k bs n us) (h:n<=x.length) (f:fr bs x=true):(((List.range (x.length - n+1)).map fun j=>decide (prt x n j∈us)).all id)=stB k bs n x:=by
 rw [all_fun,Bool.eq_iff_iff,stB_iff,all_eq_true]
 unfold sts
 rw [if_neg (by omega)]
 constructor
 ·intro a
  refine ⟨f,fun j hj=>(W.iff _).mp (of_decide_eq_true (a j (mem_range.mpr (by omega))))⟩
 ·rintro ⟨_,a⟩ j hj
  rw [mem_range] at hj
  exact decide_eq_true ((W.iff _).mpr (a j (by omega)))
theorem in_us (us:List Str) (t:Str):inD (.str t) (us.map .str)=decide (t∈us):=by
 unfold inD
 rw [Bool.eq_iff_iff,any_eq_true,decide_eq_true_eq]
 constructor
 ·rintro ⟨d,hd,e⟩
  obtain ⟨u,hu,rfl⟩:=mem_map.mp hd
  have:u=t:=by simpa [PyData.eqv] using e
  rw [<-this];exact hu
 ·intro h
  exact ⟨.str t,mem_map.mpr ⟨t,h,rfl⟩,by simp [PyData.eqv]⟩
theorem us_scal (us:List Str):(us.map PyData.str).all scalD=true:=by
 rw [all_eq_true];intro d hd;obtain ⟨u,_,rfl⟩:=mem_map.mp hd;rfl
theorem prt_slice {x:Str} {n j:Nat} (h:j+n<=x.length):Txt.slice x (some ((j:Nat):Int)) (some (((j:Nat):Int)+(n:Int)))=prt x n j:=by
 have:=slice_closesL (x:=x) (i:=(j:Int)) (j:=(j:Int)+n) (by omega) (by omega) (by omega)
 rw [beq_iff_eq] at this
 rw [this]
 unfold prt sT
 congr 3
 omega
theorem ok_stands_by {f:Addr} {fd:FuncData} (F:Fun K "stands_by" "stands_by" s_stands_by f fd) (T:Blt mg) (D_is_free:Df P w K mg base "is_free" ["word","bars"] 1 (SpL K sp_free)):FnOk P w K mg base CX0 2 f fd ["windows","bars","word"] (SpL K sp_by):=by
 refine ok0 F sc_stands_by (fun ds Q X h=>?_) (fun cdv A outer s H E hr=>?_) fun ds Qd Xd h=>h
 ·obtain ⟨k,n,us,bs,x,rfl,_⟩:=h;rfl
 refine ⟨_,(zB (zR (dpt_not (dpt_truth (by rfl) (dpv 0))) (zE (zI dpe_bl)) zO)
   (zB (dpset 3 sc_stands_by.nd (zG dcl_lenS (by rfl) (by exact T.len) (by decide +kernel) (zA (dpe_ix (dix (by rfl)) (dpv 0) zD (fun _ _=>rfl)) zC)))
   (zB (zR (zS dop_lt (zG dcl_lenS (by rfl) (by exact T.len) (by decide +kernel) (zA (dpv 2) zC)) (dpv 3) (nomark _)) (zE (zI (zG (dcl_any (by rfl) (by rfl)) (by rfl) (by exact T.any) (by decide +kernel) (zA (dpe_lc ["window"] [("word",2)] rfl (LcScope.of (by kernel_rfl)) (dpi_list (by rfl) (dpv 0)) (fun _ _ _ _=>⟨(dpgn 0 (nd_of (by kernel_rfl))),dpts_nil,(dpb_emit (by rfl) (by rfl) (dpe_mm (by rfl) PySem.F.slot_str_startswith PySem.F.type_str_startswith dmm_sw (dpv 0) (dpv 1)))⟩)) zC)))) zO)
   (zB (dps_setlc (i:=4) (hN:=sc_stands_by.nd) (hyi:=rfl) (hy:=rfl) (hc:=rfl) (own:=["at"]) (cap:=[("word",2),("width",3)]) (L:=LcScope.of (by kernel_rfl)) (hi:=(dpi_range1 (by rfl) (by exact T.range) (zA (zF zJ (zF dop_sub (zG dcl_lenS (by rfl) (by exact T.len) (by decide +kernel) (zA (dpv 2) zC)) (dpv 3)) zD) zC))) (hin:=(fun _ _ _ _=>⟨(dpgn 0 (nd_of (by kernel_rfl))),dpts_nil,(dpb_emit (by rfl) (by rfl) (zL (dpv 1) (zM (dpv 0)) (zM (zF zJ (dpv 0) (dpv 2)))))⟩)))
   (zE (zI (dpe_and (zK (by exact D_is_free) (by exact hr.mono (by omega)) (zA (dpv 2) (zA (dpv 1) zC))) (dpe_one (zG (dcl_all (by rfl) (by rfl)) (by rfl) (by exact T.all) (by decide +kernel) (zA (dpe_lc ["part"] [("windows",0)] rfl (LcScope.of (by kernel_rfl)) (dpi_list (by rfl) (dpv 4)) (fun _ _ _ _=>⟨(dpgn 0 (nd_of (by kernel_rfl))),dpts_nil,(dpb_emit (by rfl) (by rfl) (dpe_cmp (dop_in (by rfl)) (dpv 0) (dpv 1) rfl))⟩)) zC)))))))))),fun ds Qd h=>?_⟩
 obtain ⟨k,n,us,bs,x,rfl,W,hn1,hn,hb,hx,q⟩:=h
 show (_:TSD) _ [some (false,.list (us.map .str)),some (false,bD bs),some (false,.str x),none,none] _
 walk_at "d"
 rw [List.isEmpty_map,Bool.not_not]
 refine iteb (fun h0=>?_) fun h0=>?_
 ·rw [List.isEmpty_iff] at h0
  subst h0
  rw [stB_no (sts_nil W)] at q
  walk_at "d"
  exact q
 obtain ⟨u,hu0⟩:∃ u,us[0]?=some u:=by
  cases us with
  | nil=>cases h0
  | cons u r=>exact ⟨u,rfl⟩
 have hul:=(win_w ((W.iff u).mp (List.mem_of_getElem? hu0))).1
 walk_at "d"
 refine ⟨.str u,atI_nat (xs:=us.map PyData.str) (j:=0) (by rw [List.getElem?_map,hu0];rfl),?_⟩
 have hul':u.length<=100:=by omega
 walk_at "d"
 rw [hul]
 refine ite2 (fun h1=>?_) fun h1=>?_
 ·have h1:x.length < n:=by simp at h1;omega
  walk_at "d"
  refine lc_mapA (L:=us) PyData.str (fun t=>.bool (Txt.startswith t x)) (fun t ht es Q' hl q'=>?_) (by have:=W.len;omega) ?_
  ·walk_at "d"
   exact q'
  walk_at "d"
  refine ⟨_,boolsD_fun _ _,?_⟩
  walk_at "d"
  rw [stB_short W h1]
  exact q
 have h1:n<=x.length:=by simp at h1;omega
 walk_at "d"
 rw [show ((x.length:Int) - (n:Int)+1).toNat=x.length - n+1 from by omega]
 refine lc_mapA (L:=List.range (x.length - n+1)) (fun j:Nat=>.int (0+(j:Int))) (fun j=>.str (prt x n j)) (fun j hj es Q' hl q'=>?_) (by rw [length_range];omega) ?_
 ·have hj:=mem_range.mp hj
  walk_at "d"
  rw [show (0+(j:Int))=(j:Int) from by omega,prt_slice (by omega)]
  first|exact q'|exact ⟨hl,rfl,q'⟩
 walk_at "d"
 refine ⟨x,bs,rfl,hb,?_⟩
 walk_at "d"
 refine iteb (fun h2=>?_) fun h2=>?_
 rotate_left
 ·have e:stB k bs n x=false:=stB_no fun z=>by
   unfold sts at z
   rw [if_neg (by omega),h2] at z
   exact absurd z.1 (by decide)
  rw [e] at q
  first|exact q|(walk_at "d";exact q)
 walk_at "d"
 refine lc_mapA (L:=List.range (x.length - n+1)) (fun j=>.str (prt x n j)) (fun j=>.bool (decide (prt x n j∈us))) (fun j hj es Q' hl q'=>?_) (by rw [length_range];omega) ?_
 ·walk_at "d"
  rw [in_us]
  first|exact ⟨⟨rfl,us_scal us⟩,hl,trivial,q'⟩|exact ⟨⟨rfl,us_scal us⟩,q'⟩
 walk_at "d"
 refine ⟨_,boolsD_fun _ _,?_⟩
 walk_at "d"
 rw [stB_long W h1 h2]
 exact q
abbrev s_stands:Stmt:=top 25
theorem sc_stands:FnScope ["signs","bars","word"] ["signs","bars","word"] (defScope s_stands):=by walk_at "sc"
def sp_st (cA cN3:Addr):SpD:=fun ds Q X=>∃ (k:Int) (bs:List Str) (x:Str),ds=[.int k,bD bs,.str x]/\Sml bs/\x.length<=100/\(GoodR k bs->wds k bs<=128->Q (.bool (stB k.toNat bs (wid bs).toNat x)) true)/\(¬ GoodR k bs->X cA)/\(GoodR k bs->¬ wds k bs<=128->X cN3)
theorem ok_stands {f cA cN3:Addr} {fd:FuncData} (F:Fun K "stands" "stands" s_stands f fd) (T:Blt mg) (D_windows_of:DfE P w K mg base "windows_of" ["signs","bars"] 5 (SpL K (sp_win cA cN3))) (D_stands_by:Df P w K mg base "stands_by" ["windows","bars","word"] 2 (SpL K sp_by)):FnOk P w K mg base (CXE P w base) 6 f fd ["signs","bars","word"] (SpL K (sp_st cA cN3)):=by
 refine okE F sc_stands (fun ds Q X h=>?_) (fun cdv A outer s H E hr=>?_)
 ·obtain ⟨k,bs,x,rfl,_⟩:=h;rfl
 refine ⟨_,(zE (zI (zK (by exact D_stands_by) (by exact hr.mono (by omega)) (zA (dpe_dfE (by exact D_windows_of) passE (by exact hr.mono (by omega)) (zA (dpv 0) (zA (dpv 1) zC))) (zA (dpv 1) (zA (dpv 2) zC)))))),fun ds Qd Xd h=>?_⟩
 obtain ⟨k,bs,x,rfl,hs,hx,q,x1,x2⟩:=h
 show (_:TSD) _ [some (false,.int k),some (false,bD bs),some (false,.str x)] _
 walk_at "d"
 refine ⟨k,bs,rfl,hs,fun hg hw us u1 u2 u3=>?_,x1,x2⟩
 obtain ⟨n,en,hn1,hn5⟩:=wid5 hg
 walk_at "d"
 refine ⟨k.toNat,(wid bs).toNat,us,bs,x,rfl,⟨u1,u2,u3⟩,by omega,by omega,hs.1,hx,?_⟩
 exact q hg hw
theorem slice_mem {x:Str} {l u:Option Int} {c:Nat} (h:c∈(Txt.slice x l u).cps.toList):c∈x.cps.toList:=by
 unfold Txt.slice at h
 split at h
 ·exact h
 ·simp only [List.mem_filterMap] at h
  obtain ⟨i,_,e⟩:=h
  obtain ⟨hi,rfl⟩:=Array.getElem?_eq_some_iff.mp e
  simp
theorem let_asc {k c:Nat} (hk:k<=4) (h:c∈letters k):c < 128:=by
 unfold letters at h
 obtain ⟨i,hi,rfl⟩:=mem_map.mp h
 rw [mem_range] at hi
 omega
theorem win_asc {k n:Nat} {bs:List Str} {t:Str} (hk:k<=4) (h:Win k bs n t):Asc t:=fun c hc=>let_asc hk ((win_w h).2 c hc)
structure Wld (k:Nat) (bs:List Str) (n:Nat) (l1 l0:List Str):Prop where
 nd:l1.Nodup
 bk:∀ t,t∈l1 ↔ Last (steps k bs n) true t
 on:∀ t,t∈l0 ↔ Last (steps k bs n) false t
 s1:l1.length<=5000
 s0:l0.length<=5000
 sm:(l1.filter fun t=>decide (t∈l0)).length < 128
 k3:K3 k
 wd:wid bs=(n:Int)
 n1:1<=n
 n5:n<=5
 sb:Sml bs
def wldD (l1 l0:List Str):D:=.tuple [dKD (tD l1),dKD (tD l0)]
theorem Wld.win {k n:Nat} {bs l1 l0:List Str} (W:Wld k bs n l1 l0) (t:Str):(t∈l1/\t∈l0) ↔ Win k bs n t:=by rw [win_iff,W.bk,W.on]
theorem Wld.wnd {k n:Nat} {bs l1 l0 us:List Str} (W:Wld k bs n l1 l0) (h1:us.Pairwise ltS) (h2:∀ t,t∈us ↔ t∈l1/\t∈l0) (h3:us.length < 128):Wnd k bs n us:=⟨h1,fun t=>(h2 t).trans (W.win t),h3⟩
open Classical in
noncomputable def lwB (k:Nat) (bs:List Str) (n:Nat) (x:Str):Bool:=decide (lws k bs n x)
theorem lwB_iff {k n:Nat} {bs:List Str} {x:Str}:lwB k bs n x=true ↔ lws k bs n x:=by simp [lwB]
theorem lwB_no {k n:Nat} {bs:List Str} {x:Str} (h:¬ lws k bs n x):lwB k bs n x=false:=by simp [lwB,h]
theorem Wld.k4 {k n:Nat} {bs l1 l0:List Str} (W:Wld k bs n l1 l0):k<=4:=by rcases W.k3 with rfl|rfl|rfl<;>decide
theorem eqv_nil (l:List Str):PyData.eqv (.list (l.map .str)) (.list [])=l.isEmpty:=by
 cases l with
 | nil=>rfl
 | cons a r=>rfl
theorem lwB_short {k n:Nat} {us bs:List Str} {x:Str} (V:Wnd k bs n us) (h:x.length < n):lwB k bs n x=!(us.filter fun t=>has x t).isEmpty:=by
 rw [Bool.eq_iff_iff,lwB_iff]
 unfold lws
 rw [if_pos h,Bool.not_eq_true',List.isEmpty_eq_false_iff_exists_mem]
 constructor
 ·rintro ⟨t,h1,h2⟩;exact ⟨t,mem_filter.mpr ⟨(V.iff t).mpr h1,h2⟩⟩
 ·rintro ⟨t,ht⟩;rw [mem_filter] at ht;exact ⟨t,(V.iff t).mp ht.1,ht.2⟩
theorem sl_to {x:Str} {n:Nat} (h:n<=x.length):Txt.slice x none (some (n:Int))=sT (x.cps.toList.take n):=by
 have:=slice_closes_toL (x:=x) (j:=(n:Int)) (by omega) (by omega)
 rw [beq_iff_eq] at this
 rw [this]
 unfold sT
 congr 2
theorem sl_from {x:Str} {n:Nat} (h:n<=x.length):Txt.slice x (some ((x.length:Int) - (n:Int))) none=sT (x.cps.toList.drop (x.length - n)):=by
 rw [slice_from_eq (b:=(x.length:Int)) (by omega) (by omega) rfl]
 unfold sT
 congr 1
 rw [show ((x.length:Int) - (n:Int)).toNat=x.length - n from by omega,List.take_of_length_le]
 rw [length_drop,len_tl]
 omega
abbrev s_l_stands:Stmt:=top 39
theorem sc_l_stands:FnScope ["_law_bars_here","_law_world_here","_law_word_here","_law_size"] ["_law_bars_here","_law_world_here","_law_word_here"] (defScope s_l_stands):=by walk_at "sc"
def sp_ls:SpD:=fun ds Q _=>∃ (k n:Nat) (l1 l0 bs:List Str) (x:Str),ds=[bD bs,wldD l1 l0,.str x]/\Wld k bs n l1 l0/\x.length<=100/\Q (.bool (lwB k bs n x)) true
theorem ok_l_stands {f:Addr} {fd:FuncData} (F:Fun K "_law_stands" "_law_stands" s_l_stands f fd) (T:Blt mg) (D_l_width:Df P w K mg base "_law_width" ["_law_bars_here"] 1 (SpL K sp_width)) (D_l_windows:Df P w K mg base "_law_windows" ["_law_world_here"] 1 (SpL K sp_lwin)) (D_l_free:Df P w K mg base "_law_free" ["_law_word_here","_law_bars_here"] 1 (SpL K sp_free)):FnOk P w K mg base CX0 2 f fd ["_law_bars_here","_law_world_here","_law_word_here"] (SpL K sp_ls):=by
 refine ok0 F sc_l_stands (fun ds Q X h=>?_) (fun cdv A outer s H E hr=>?_) fun ds Qd Xd h=>h
 ·obtain ⟨k,n,l1,l0,bs,x,rfl,_⟩:=h;rfl
 refine ⟨_,(zB (dpset 3 sc_l_stands.nd (zK (by exact D_l_width) (by exact hr.mono (by omega)) (zA (dpv 0) zC)))
   (zB (zR (zS dop_lt (zG dcl_lenS (by rfl) (by exact T.len) (by decide +kernel) (zA (dpv 2) zC)) (dpv 3) (nomark _)) (zE (zI (dpe_cmp (dop_ne (by rfl) (by exact hr.units)) (dpe_lc ["_law_window"] [("_law_word_here",2)] rfl (LcScope.of (by kernel_rfl)) (dpi_list (by rfl) (zK (by exact D_l_windows) (by exact hr.mono (by omega)) (zA (dpv 1) zC))) (fun _ _ _ _=>⟨(dpgn 0 (nd_of (by kernel_rfl))),(dpts_one (zS dop_inS (dpv 1) (dpv 0) rfl)),(dpb_emit (by rfl) (by rfl) (dpv 0))⟩)) (dpe_lst zC) (nomark _)))) zO)
   (zE (zI (dpe_and (zK (by exact D_l_free) (by exact hr.mono (by omega)) (zA (dpv 2) (zA (dpv 0) zC))) (dpe_and (dpe_din (by exact Nat.lt_of_le_of_lt (Nat.add_le_add_left (by decide) _) hr.units) (dky_of (zL (dpv 2) zN (zM (dpv 3)))) (dpe_ix (dix (by rfl)) (dpv 1) zD (fun _ _=>rfl)) (by rfl)) (dpe_one (dpe_din (by exact Nat.lt_of_le_of_lt (Nat.add_le_add_left (by decide) _) hr.units) (dky_of (zL (dpv 2) (zM (zF dop_sub (zG dcl_lenS (by rfl) (by exact T.len) (by decide +kernel) (zA (dpv 2) zC)) (dpv 3))) zN)) (dpe_ix (dix (by rfl)) (dpv 1) zD (fun _ _=>rfl)) (by rfl))))))))),fun ds Qd h=>?_⟩
 obtain ⟨k,n,l1,l0,bs,x,rfl,W,hx,q⟩:=h
 show (_:TSD) _ [some (false,bD bs),some (false,.tuple [dKD (tD l1),dKD (tD l0)]),some (false,.str x),none] _
 walk_at "d"
 refine ⟨bs,rfl,W.sb,?_⟩
 rw [W.wd]
 walk_at "d"
 refine ite2 (fun h1=>?_) fun h1=>?_
 ·have h1:x.length < n:=by simp at h1;omega
  walk_at "d"
  refine ⟨l1,l0,rfl,W.nd,W.s1,W.sm,fun us u1 u2 u3=>?_⟩
  have V:=W.wnd u1 u2 u3
  have uA:∀ t∈us.filter fun t=>has x t,Asc t:=fun t ht=>win_asc W.k4 ((V.iff t).mp (mem_filter.mp ht).1)
  unfold wD
  walk_at "d"
  refine lc_fltA (L:=us) PyData.str PyData.str (fun t=>has x t) (fun t ht es Q' hl q'=>?_) (by omega) ?_
  ·walk_at "d"
   refine iteb (fun h2=>?_) fun h2=>?_
   ·have h2:has x t=true:=h2
    rw [if_pos h2] at q'
    walk_at "d"
    exact q'
   ·have h2:has x t=false:=h2
    rw [if_neg (by rw [h2];decide)] at q'
    exact q'
  walk_at "d"
  refine ⟨⟨lay_b uA,by simp [PyData.canLay0,PyData.canLayAll0],depth_b _⟩,?_⟩
  rw [eqv_nil]
  walk_at "d"
  rw [lwB_short V h1] at q
  exact q
 have h1:n<=x.length:=by simp at h1;omega
 walk_at "d"
 refine ⟨x,bs,rfl,W.sb.1,?_⟩
 walk_at "d"
 refine iteb (fun h2=>?_) fun h2=>?_
 rotate_left
 ·rw [lwB_no fun z=>by unfold lws at z;rw [if_neg (by omega),h2] at z;exact absurd z.1 (by decide)] at q
  exact q
 walk_at "d"
 refine ⟨_,atI_nat (xs:=[dKD (tD l1),dKD (tD l0)]) (j:=0) rfl,?_⟩
 walk_at "d"
 rw [look_tD,sl_to h1]
 refine iteb (fun h3=>?_) fun h3=>?_
 rotate_left
 ·have h3:decide (sT (x.cps.toList.take n)∈l1)=false:=h3
  rw [lwB_no fun z=>by
   unfold lws at z
   rw [if_neg (by omega)] at z
   exact of_decide_eq_false h3 ((W.bk _).mpr z.2.1)] at q
  exact q
 have h3:decide (sT (x.cps.toList.take n)∈l1)=true:=h3
 walk_at "d"
 refine ⟨_,atI_nat (xs:=[dKD (tD l1),dKD (tD l0)]) (j:=1) rfl,?_⟩
 walk_at "d"
 rw [look_tD,sl_from h1]
 have e:lwB k bs n x=decide (sT (x.cps.toList.drop (x.length - n))∈l0):=by
  rw [Bool.eq_iff_iff,lwB_iff,decide_eq_true_eq]
  unfold lws
  rw [if_neg (by omega),W.on]
  exact ⟨fun z=>z.2.2,fun z=>⟨h2,(W.bk _).mp (of_decide_eq_true h3),z⟩⟩
 rw [e] at q
 exact q
abbrev s_l_gone:Stmt:=top 41
theorem sc_l_gone:FnScope ["_law_bars_here","_law_world_here","_law_letters","_law_big_here","_law_windows_here","_law_word_here","_law_k","_law_some"] ["_law_bars_here","_law_world_here","_law_letters","_law_big_here"] (defScope s_l_gone):=by walk_at "sc"
def sp_gone:SpD:=fun ds Q _=>∃ (k n:Nat) (l1 l0 bs:List Str) (z:Str) (b:Int),ds=[bD bs,wldD l1 l0,.str z,.int b]/\Wld k bs n l1 l0/\(∀ b∈bs,b.length<=n+1)/\z.cps.toList=letters k/\0<=b/\∀ y:Str,y.length<=10->Ok k y.cps.toList->Q (.str y) true
theorem ok_l_gone {f:Addr} {fd:FuncData} (F:Fun K "_law_gone" "_law_gone" s_l_gone f fd) (T:Blt mg) (D_l_windows:Df P w K mg base "_law_windows" ["_law_world_here"] 1 (SpL K sp_lwin)) (D_l_stands:Df P w K mg base "_law_stands" ["_law_bars_here","_law_world_here","_law_word_here"] 2 (SpL K sp_ls)):FnOk P w K mg base CX0 3 f fd ["_law_bars_here","_law_world_here","_law_letters","_law_big_here"] (SpL K sp_gone):=by
 refine ok0 F sc_l_gone (fun ds Q X h=>?_) (fun cdv A outer s H E hr=>?_) fun ds Qd Xd h=>h
 ·obtain ⟨k,n,l1,l0,bs,z,b,rfl,_⟩:=h;rfl
 refine ⟨_,(zB (dpset 4 sc_l_gone.nd (zK (by exact D_l_windows) (by exact hr.mono (by omega)) (zA (dpv 1) zC)))
   (zB (zR (zS (dop_eq (by rfl) (by exact hr.units)) (dpv 4) (dpe_lst zC) (nomark _)) (zE (zI zQ)) zO)
   (zB (dpset 5 sc_l_gone.nd (dpe_ix (dix (by rfl)) (dpv 4) (zF zP (dpv 3) (zG (dcl_len (by rfl)) (by rfl) (by exact T.len) (by decide +kernel) (zA (dpv 4) zC))) (fun _ _=>rfl)))
   (zB (dpset 3 sc_l_gone.nd (zF zT (dpv 3) zD))
   (zB (dps_for PassesOwn.never rfl (dpi_range1 (by rfl) (by exact T.range) (zA (zF dop_sub zD (zG dcl_lenS (by rfl) (by exact T.len) (by decide +kernel) (zA (dpv 5) zC))) zC)) (dpgn 6 sc_l_gone.nd) (zB (dps_setlc (i:=7) (hN:=sc_l_gone.nd) (hyi:=rfl) (hy:=rfl) (hc:=rfl) (own:=["_law_sign"]) (cap:=[("_law_bars_here",0),("_law_world_here",1),("_law_word_here",5)]) (L:=LcScope.of (by kernel_rfl)) (hi:=(dpi_str (dpv 2))) (hin:=(fun _ _ _ _=>⟨(dpgn 0 (nd_of (by kernel_rfl))),(dpts_one (dpt_val (zK (by exact D_l_stands) (by exact hr.mono (by omega)) (zA (dpv 1) (zA (dpv 2) (zA (zF zJ (dpv 3) (dpv 0)) zC)))))),(dpb_emit (by rfl) (by rfl) (zF zJ (dpv 3) (dpv 0)))⟩)))
   (zB (dpset 5 sc_l_gone.nd (dpe_ix (dix (by rfl)) (dpv 7) (zF zP (dpv 3) (zG (dcl_len (by rfl)) (by rfl) (by exact T.len) (by decide +kernel) (zA (dpv 7) zC))) (fun _ _=>rfl)))
   (zE (dpset 3 sc_l_gone.nd (zF zT (dpv 3) zD))))))
   (zE (zI (zL (dpv 5) (zM (zF zP (dpv 3) zD)) zN)))))))),fun ds Qd h=>?_⟩
 obtain ⟨k,n,l1,l0,bs,z,b,rfl,W,hbl,hz,hb,q⟩:=h
 show (_:TSD) _ [some (false,bD bs),some (false,.tuple [dKD (tD l1),dKD (tD l0)]),some (false,.str z),some (false,.int b),none,none,none,none] _
 walk_at "d"
 refine ⟨l1,l0,rfl,W.nd,W.s1,W.sm,fun us u1 u2 u3=>?_⟩
 have V:=W.wnd u1 u2 u3
 have uA:∀ t∈us,Asc t:=fun t ht=>win_asc W.k4 ((V.iff t).mp ht)
 have hn5:=W.n5
 unfold wD
 walk_at "d"
 refine ⟨⟨lay_b uA,by simp [PyData.canLay0,PyData.canLayAll0],depth_b _⟩,?_⟩
 rw [eqv_nil]
 walk_at "d"
 refine iteb (fun h1=>?_) fun h1=>?_
 ·walk_at "d"
  exact q _ (by decide +kernel) (by
   have e:Str.ofString ""=⟨#[]⟩:=by decide +kernel
   rw [e];exact fun c hc=>by simp at hc)
 have hp:(0:Int) < (us.length:Int):=by
  cases us with
  | nil=>cases h1
  | cons a r=>rw [length_cons];omega
 walk_at "d"
 rw [length_map]
 refine ⟨hp,?_⟩
 obtain ⟨d,hd,ed⟩:=cat_at (l:=us.map PyData.str) (z:=b % (us.length:Int)) (Int.emod_nonneg _ (Int.ne_of_gt hp)) (by rw [length_map];exact Int.emod_lt_of_pos b hp)
 obtain ⟨u,hu,rfl⟩:=mem_map.mp hd
 have hwu:=(V.iff u).mp hu
 have hul:=(win_w hwu).1
 walk_at "d"
 refine ⟨_,ed,?_⟩
 have hb1:0<=b / 128:=Int.ediv_nonneg hb (by decide)
 walk_at "d"
 revert hb1
 generalize b / 128=b1
 intro hb1
 rw [hul]
 refine lp_rng (fun i ρ=>∃ (bb:Int) (x:Str) (y1 y2:Option (Bool × D)),ρ=[some (false,bD bs),some (false,.tuple [dKD (tD l1),dKD (tD l0)]),some (false,.str z),some (false,.int bb),some (true,.list (us.map .str)),some (false,.str x),y1,y2]/\0<=bb/\x.length=n+i/\Ok k x.cps.toList/\lws k bs n x) ⟨b1,u,_,_,rfl,hb1,hul,(win_w hwu).2,win_lws hwu⟩ ?_ ?_
 ·rintro i ρ hi ⟨bb,x,y1,y2,rfl,hbb,hxl,hok,hx⟩
  have hi':i < 10 - n:=by omega
  walk_at "d"
  unfold DL.signs
  rw [hz]
  obtain ⟨c0,hc0,hc0'⟩:=lws_on hbl (by omega) hx
  refine lc_fltA (L:=letters k) (fun c=>PyData.str ⟨#[c]⟩) (fun c=>.str (x++chr c)) (fun c=>lwB k bs n (x++chr c)) (fun c hc es Q' hl q'=>?_) (by rw [len_let];have:=W.k4;omega) ?_
  ·walk_at "d"
   refine ⟨by show x.length+1<=_;omega,?_⟩
   walk_at "d"
   refine ⟨k,n,l1,l0,bs,x++chr c,rfl,W,by rw [len_app];show x.length+1<=_;omega,?_⟩
   walk_at "d"
   refine iteb (fun h2=>?_) fun h2=>?_
   ·rw [if_pos h2] at q'
    walk_at "d"
    refine ⟨by show x.length+1<=_;omega,?_⟩
    first|exact q'|(walk_at "d";first|exact q'|exact ⟨hl,rfl,q'⟩)
   ·rw [if_neg (by rw [h2];decide)] at q'
    exact q'
  have hm0:c0∈(letters k).filter fun c=>lwB k bs n (x++chr c):=mem_filter.mpr ⟨hc0,lwB_iff.mpr hc0'⟩
  have hm:∀ c∈(letters k).filter fun c=>lwB k bs n (x++chr c),c∈letters k/\lws k bs n (x++chr c):=fun c hc=>⟨(mem_filter.mp hc).1,lwB_iff.mp (mem_filter.mp hc).2⟩
  have hlc:((letters k).filter fun c=>lwB k bs n (x++chr c)).length<=1000:=Nat.le_trans (length_filter_le _ _) (by rw [len_let];have:=W.k4;omega)
  revert hm0 hm hlc
  generalize (letters k).filter (fun c=>lwB k bs n (x++chr c))=cs
  intro hm0 hm hlc
  have hcp:(0:Int) < (cs.length:Int):=by have:=List.length_pos_of_mem hm0;omega
  walk_at "d"
  rw [length_map]
  refine ⟨hcp,?_⟩
  obtain ⟨d,hd,ed⟩:=cat_at (l:=cs.map fun c=>PyData.str (x++chr c)) (z:=bb % (cs.length:Int)) (Int.emod_nonneg _ (Int.ne_of_gt hcp)) (by rw [length_map];exact Int.emod_lt_of_pos bb hcp)
  obtain ⟨c,hc,rfl⟩:=mem_map.mp hd
  walk_at "d"
  refine ⟨_,ed,?_⟩
  walk_at "d"
  obtain ⟨hc1,hc2⟩:=hm c hc
  refine ⟨_,x++chr c,_,_,rfl,Int.ediv_nonneg hbb (by decide),by rw [len_app,hxl];rfl,fun d hd=>?_,hc2⟩
  rw [cps_app] at hd
  rcases mem_append.mp hd with hd|hd
  ·exact hok d hd
  ·have:d=c:=by simpa [chr] using hd
   rw [this];exact hc1
 ·rintro ρ ⟨bb,x,y1,y2,rfl,hbb,hxl,hok,hx⟩
  walk_at "d"
  refine q _ (Nat.le_trans (Txt.slice_le _ _ _) (by omega)) fun c hc=>hok c (slice_mem hc)
theorem mul_a {n:Int} (h1:1<=n) (h6:n<=6):MulOk (Str.ofString "a") n/\((Txt.mul (Str.ofString "a") n).length:Int)=n/\Asc (Txt.mul (Str.ofString "a") n):=by
 have c:n=1\/n=2\/n=3\/n=4\/n=5\/n=6:=by omega
 rcases c with rfl|rfl|rfl|rfl|rfl|rfl<;>(refine ⟨?_,?_,?_⟩<;>first|(unfold MulOk;decide +kernel)|decide +kernel|(unfold Asc;decide +kernel))
theorem odd_at {k:Nat} (hk:k=2\/k=3\/k=4) {i:Int} (h0:0<=i) (h4:i < 4):(Txt.slice (Str.ofString "cdeA z-") (some ((k:Int) - 2)) none).length<=100/\∃ c,atI (Txt.slice (Str.ofString "cdeA z-") (some ((k:Int) - 2)) none).cps.toList i=some c/\c < 128/\¬ (97<=c/\(c:Int) < 97+k):=by
 have c4:i=0\/i=1\/i=2\/i=3:=by omega
 rcases hk with rfl|rfl|rfl
 ·have e:Txt.slice (Str.ofString "cdeA z-") (some (((2:Nat):Int) - 2)) none=⟨#[99,100,101,65,32,122,45]⟩:=by decide +kernel
  rw [e]
  refine ⟨by decide,?_⟩
  rcases c4 with rfl|rfl|rfl|rfl<;>exact ⟨_,rfl,by decide,by decide⟩
 ·have e:Txt.slice (Str.ofString "cdeA z-") (some (((3:Nat):Int) - 2)) none=⟨#[100,101,65,32,122,45]⟩:=by decide +kernel
  rw [e]
  refine ⟨by decide,?_⟩
  rcases c4 with rfl|rfl|rfl|rfl<;>exact ⟨_,rfl,by decide,by decide⟩
 ·have e:Txt.slice (Str.ofString "cdeA z-") (some (((4:Nat):Int) - 2)) none=⟨#[101,65,32,122,45]⟩:=by decide +kernel
  rw [e]
  refine ⟨by decide,?_⟩
  rcases c4 with rfl|rfl|rfl|rfl<;>exact ⟨_,rfl,by decide,by decide⟩
theorem bad_bar {k:Int} {bs:List Str} {b:Str} (hb:b∈bs) (h:¬ GB k b):St k bs 1:=fun g=>h (g.2.2 b hb)
theorem asc_app {a b:Str} (h:Asc a) (h':Asc b):Asc (a++b):=fun c hc=>by
 rw [cps_app] at hc
 rcases mem_append.mp hc with hc|hc
 ·exact h c hc
 ·exact h' c hc
abbrev s_l_bad:Stmt:=top 32
theorem sc_l_bad:FnScope ["_law_big_here","_law_signs","_law_way","_law_bar","_law_rest","_law_size","_law_spot","_law_odd"] ["_law_big_here"] (defScope s_l_bad):=by walk_at "sc"
def sp_bad:SpD:=fun ds Q _=>∃ (b:Int),ds=[.int b]/\0<=b/\∀ (k:Int) (bs:List Str) (m:Bool),Sml bs->(∀ x∈bs,Asc x)->St k bs (if m=true then 2 else 1)->Q (.tuple [.int k,bD bs,.bool m]) true
theorem ok_l_bad {f:Addr} {fd:FuncData} (F:Fun K "_law_bad" "_law_bad" s_l_bad f fd) (T:Blt mg) (D_l_word:Df P w K mg base "_law_word" ["_law_big_here","_law_letters","_law_many"] 1 (SpL K sp_word)):FnOk P w K mg base CX0 2 f fd ["_law_big_here"] (SpL K sp_bad):=by
 refine ok0 F sc_l_bad (fun ds Q X h=>?_) (fun cdv A outer s H E hr=>?_) fun ds Qd Xd h=>h
 ·obtain ⟨b,rfl,_⟩:=h;rfl
 refine ⟨_,(zB (dpset 1 sc_l_bad.nd (zF zJ zD (zF zP (dpv 0) zD)))
   (zB (dpset 2 sc_l_bad.nd (zF zP (zF zT (dpv 0) zD) zD))
   (zB (dps_unp [3,4] 2 rfl (by rfl) (by rfl) (qpgs_cons (qpgn 3 sc_l_bad.nd) (qpgs_cons (qpgn 4 sc_l_bad.nd) qpgs_nil)) (by rfl) (by rfl) (zK (by exact D_l_word) (by exact hr.mono (by omega)) (zA (zF zT (dpv 0) zD) (zA (zL zQ zN (zM (dpv 1))) (zA (zF dop_sub zD (dpv 1)) zC)))))
   (zB (zR (zS (dop_eq (by rfl) (by exact hr.units)) (dpv 2) zD (nomark _)) (zB (dpset 1 sc_l_bad.nd (zF zJ zD (zF zP (dpv 4) zD)))
   (zB (dpset 5 sc_l_bad.nd (zF dop_sub zD (zF dop_mul (zF dop_sub (dpv 1) zD) (zF zP (zF zT (dpv 4) zD) zD))))
   (zE (zI (dpe_tup (zA (dpv 1) (zA (dpe_lst (zA (dpe_ix (dix (by rfl)) (zK (by exact D_l_word) (by exact hr.mono (by omega)) (zA (zF zT (dpv 4) zD) (zA (zL zQ zN (zM (dpv 1))) (zA (dpv 5) zC)))) zD (fun _ _=>rfl)) zC)) (zA dpe_bl zC)))))))) zO)
   (zB (zR (zS (dop_eq (by rfl) (by exact hr.units)) (dpv 2) zD (nomark _)) (zE (zI (dpe_tup (zA (dpe_ix (dix (by rfl)) (dpe_tup (zA zD (zA zD (zA zD (zA (dpe_neg zD) zC))))) (zF zP (dpv 4) zD) (fun _ _=>rfl)) (zA (dpe_lst zC) (zA dpe_bl zC)))))) zO)
   (zB (zR (zS (dop_eq (by rfl) (by exact hr.units)) (dpv 2) zD (nomark _)) (zE (zI (dpe_tup (zA (dpv 1) (zA (dpe_lst (zA (dpv 3) (zA (zF zJ (dpv 3) (zF dop_mulS zQ (zF dop_sub (dpv 1) zD))) zC))) (zA dpe_bl zC)))))) zO)
   (zB (zR (zS (dop_eq (by rfl) (by exact hr.units)) (dpv 2) zD (nomark _)) (zE (zI (dpe_tup (zA (dpv 1) (zA (dpe_lst (zA (dpv 3) (zA zQ (zA (dpv 3) zC)))) (zA dpe_bl zC)))))) zO)
   (zB (zR (zS (dop_eq (by rfl) (by exact hr.units)) (dpv 2) zD (nomark _)) (zE (zI (dpe_tup (zA (dpv 1) (zA (dpe_lc ["_law_k"] [("_law_bar",3)] rfl (LcScope.of (by kernel_rfl)) (dpi_range1 (by rfl) (by exact T.range) (zA zD zC)) (fun _ _ _ _=>⟨(dpgn 0 (nd_of (by kernel_rfl))),dpts_nil,(dpb_emit (by rfl) (by rfl) (dpv 1))⟩)) (zA dpe_bl zC)))))) zO)
   (zB (dpset 6 sc_l_bad.nd (zF zP (zF zT (dpv 4) zD) (zG dcl_lenS (by rfl) (by exact T.len) (by decide +kernel) (zA (dpv 3) zC))))
   (zB (dpset 7 sc_l_bad.nd (zF zJ (zF zJ (zL (dpv 3) zN (zM (dpv 6))) (dpe_ix dixS (zL zQ (zM (zF dop_sub (dpv 1) zD)) zN) (zF zP (dpv 4) zD) (fun _ _=>rfl))) (zL (dpv 3) (zM (zF zJ (dpv 6) zD)) zN)))
   (zE (zI (dpe_tup (zA (dpv 1) (zA (dpe_lst (zA (dpv 3) (zA (dpv 7) (zA (zF dop_mulS zQ (zF dop_sub zD (zF dop_mul (zF zP (zF zT (dpv 4) zD) zD) zD))) zC)))) (zA dpe_bl zC)))))))))))))))),fun ds Qd h=>?_⟩
 obtain ⟨b,rfl,hb,q⟩:=h
 show (_:TSD) _ [some (false,.int b),none,none,none,none,none,none,none] _
 have h3:=Int.emod_nonneg b (show (3:Int)≠0 by decide)
 have h3':=Int.emod_lt_of_pos b (show (0:Int) < 3 by decide)
 obtain ⟨k,ek,hk⟩:∃ k:Nat,2+b % 3=(k:Int)/\(k=2\/k=3\/k=4):=⟨(2+b % 3).toNat,by omega,by omega⟩
 walk_at "d"
 rw [ek]
 obtain ⟨n,en,hn⟩:∃ n:Nat,8 - (k:Int)=(n:Int)/\n+k=8:=⟨8 - k,by omega,by omega⟩
 rw [en]
 refine ⟨_,_,k,n,rfl,Int.ediv_nonneg hb (by decide),let_of hk,by omega,by omega,by omega,fun x r hx1 hx2 hr0=>?_⟩
 have hxa:Asc x:=fun c hc=>(hx2 c hc).asc (by omega)
 walk_at "d"
 refine iteb (fun hw=>?_) fun hw=>?_
 ·have r2:r % 2=0\/r % 2=1:=by omega
  have r3:r / 2 % 2=0\/r / 2 % 2=1:=by omega
  obtain ⟨k2,z,ek2,ez,hz⟩:∃ k2 z:Nat,3+r % 2=(k2:Int)/\6 - ((k2:Int) - 3)*(r / 2 % 2)=(z:Int)/\(k2=3/\z=6\/k2=4/\z=6\/k2=4/\z=5):=by
   rcases r2 with e|e<;>rcases r3 with e'|e'<;>rw [e,e']
   ·exact ⟨3,6,rfl,rfl,.inl ⟨rfl,rfl⟩⟩
   ·exact ⟨3,6,rfl,rfl,.inl ⟨rfl,rfl⟩⟩
   ·exact ⟨4,6,rfl,rfl,.inr (.inl ⟨rfl,rfl⟩)⟩
   ·exact ⟨4,5,rfl,rfl,.inr (.inr ⟨rfl,rfl⟩)⟩
  walk_at "d"
  rw [ek2]
  refine ⟨CMul.ok (.inl ⟨by omega,by omega⟩),?_⟩
  walk_at "d"
  rw [ez]
  refine ⟨_,_,k2,z,rfl,Int.ediv_nonneg hr0 (by decide),let_of (by omega),by omega,by omega,by omega,fun y r' hy1 hy2 _=>?_⟩
  walk_at "d"
  refine ⟨.str y,rfl,?_⟩
  walk_at "d"
  have hwid:wid [y]=(z:Int) - 1:=by
   unfold wid mx2 lens
   simp only [map_cons,List.map_nil,List.foldl_cons,List.foldl_nil,hy1]
   rw [if_pos (by omega)]
  refine q (k2:Int) [y] true ⟨Nat.le_of_ble_eq_true rfl,fun b hb=>by rw [mem_singleton.mp hb];omega⟩ (fun b hb=>by rw [mem_singleton.mp hb];exact fun c hc=>(hy2 c hc).asc (by omega)) ⟨⟨by omega,Nat.le_of_ble_eq_true rfl,fun b hb=>by rw [mem_singleton.mp hb];exact ⟨by omega,by omega,fun c hc=>by have:=hy2 c hc;unfold InL at this;omega⟩⟩,?_⟩
  unfold wds
  rw [hwid]
  rcases hz with ⟨rfl,rfl⟩|⟨rfl,rfl⟩|⟨rfl,rfl⟩<;>decide
 walk_at "d"
 refine iteb (fun hw=>?_) fun hw=>?_
 ·walk_at "d"
  have c4:r % 4=0\/r % 4=1\/r % 4=2\/r % 4=3:=by omega
  rcases c4 with e|e|e|e<;>(rw [e];refine ⟨_,rfl,?_⟩;walk_at "d";exact q _ [] false ⟨by decide,fun _ z=>by cases z⟩ (fun _ z=>by cases z) (fun g=>by have:=g.1;omega))
 walk_at "d"
 refine iteb (fun hw=>?_) fun hw=>?_
 ·walk_at "d"
  obtain ⟨m1,m2,m3⟩:=mul_a (n:=(k:Int) - 1) (by omega) (by omega)
  refine ⟨m1,?_⟩
  revert m2 m3
  generalize Txt.mul (Str.ofString "a") ((k:Int) - 1)=y
  intro m2 m3
  walk_at "d"
  refine q (k:Int) [x,x++y] false ⟨Nat.le_of_ble_eq_true rfl,fun b hb=>?_⟩ (fun b hb=>?_) (bad_bar (b:=x++y) (by simp) fun g=>?_)
  ·simp only [mem_cons,List.not_mem_nil,or_false] at hb
   rcases hb with rfl|rfl
   ·omega
   ·rw [len_app];omega
  ·simp only [mem_cons,List.not_mem_nil,or_false] at hb
   rcases hb with rfl|rfl
   ·exact hxa
   ·exact asc_app hxa m3
  ·have:=g.2.1
   rw [len_app] at this
   omega
 walk_at "d"
 refine iteb (fun hw=>?_) fun hw=>?_
 ·walk_at "d"
  refine q (k:Int) [x,Str.ofString "",x] false ⟨Nat.le_of_ble_eq_true rfl,fun b hb=>?_⟩ (fun b hb=>?_) (bad_bar (b:=Str.ofString "") (by simp) fun g=>absurd g.1 (by decide +kernel))
  ·simp only [mem_cons,List.not_mem_nil,or_false] at hb
   rcases hb with rfl|rfl|rfl
   ·omega
   ·decide +kernel
   ·omega
  ·simp only [mem_cons,List.not_mem_nil,or_false] at hb
   rcases hb with rfl|rfl|rfl
   ·exact hxa
   ·unfold Asc;decide +kernel
   ·exact hxa
 walk_at "d"
 refine iteb (fun hw=>?_) fun hw=>?_
 ·walk_at "d"
  refine lc_mapA (L:=List.range 13) (fun x:Nat=>.int (0+(x:Int))) (fun _=>.str x) (fun i hi es Q' hl q'=>?_) (by decide) ?_
  ·walk_at "d"
   exact q'
  ·walk_at "d"
   refine q (k:Int) ((List.range 13).map fun _=>x) false ⟨(by rw [length_map,length_range];decide),fun b hb=>?_⟩ (fun b hb=>?_) (fun g=>absurd g.2.1 (by rw [length_map,length_range];decide))
   ·obtain ⟨_,_,rfl⟩:=mem_map.mp hb;omega
   ·obtain ⟨_,_,rfl⟩:=mem_map.mp hb;exact hxa
 have hxp:(0:Int) < (x.length:Int):=by omega
 walk_at "d"
 obtain ⟨o1,c,o2,o3,o4⟩:=odd_at hk (i:=r % 4) (by omega) (by omega)
 refine ⟨by omega,c,o2,?_⟩
 have e1:Str.length ⟨#[c]⟩=1:=rfl
 have s1:=Txt.slice_le x none (some (r / 4 % (x.length:Int)))
 have t1:∀ d∈(Txt.slice x none (some (r / 4 % (x.length:Int)))).cps.toList,d∈x.cps.toList:=fun d hd=>slice_mem hd
 revert s1 t1
 generalize Txt.slice x none (some (r / 4 % (x.length:Int)))=A
 intro s1 t1
 walk_at "d"
 have s2:=Txt.slice_le x (some (r / 4 % (x.length:Int)+1)) none
 have t2:∀ d∈(Txt.slice x (some (r / 4 % (x.length:Int)+1)) none).cps.toList,d∈x.cps.toList:=fun d hd=>slice_mem hd
 revert s2 t2
 generalize Txt.slice x (some (r / 4 % (x.length:Int)+1)) none=B
 intro s2 t2
 have lo:(A++{ cps:=#[c] }++B).length<=100:=by rw [len_app,len_app,e1];omega
 have ao:Asc (A++{ cps:=#[c] }++B):=asc_app (asc_app (fun d hd=>hxa d (t1 d hd)) fun d hd=>by
  have:d=c:=by simpa using hd
  omega) fun d hd=>hxa d (t2 d hd)
 have bo:¬ GB (k:Int) (A++{ cps:=#[c] }++B):=fun g=>o4 (g.2.2 c (by rw [cps_app,cps_app];simp))
 refine ⟨by rw [len_app,e1];omega,?_⟩
 revert lo ao bo
 generalize A++{ cps:=#[c] }++B=o
 intro lo ao bo
 walk_at "d"
 have r5:r / 32 % 2=0\/r / 32 % 2=1:=by omega
 obtain ⟨m1,m2,m3⟩:=mul_a (n:=6 - r / 32 % 2*3) (by omega) (by omega)
 refine ⟨m1,?_⟩
 have m2':(Txt.mul (Str.ofString "a") (6 - r / 32 % 2*3)).length<=100:=by omega
 revert m2' m3
 generalize Txt.mul (Str.ofString "a") (6 - r / 32 % 2*3)=y
 intro m3 m2'
 walk_at "d"
 have fin:∀ bs:List Str,bs.length=3->(∀ b∈bs,b=x\/b=o\/b=y)->o∈bs->Qd (.tuple [.int (k:Int),bD bs,.bool false]) true:=fun bs hl hm ho=>q (k:Int) bs false ⟨by omega,fun b hb=>by rcases hm b hb with rfl|rfl|rfl<;>omega⟩ (fun b hb=>by
  rcases hm b hb with rfl|rfl|rfl
  ·exact hxa
  ·exact ao
  ·exact m3) (bad_bar ho bo)
 exact fin [x,o,y] rfl (by simp) (by simp)
theorem sub_len {l m:List Str} (h1:l.Nodup) (h2:∀ x∈l,x∈m):l.length<=m.length:=by
 induction l generalizing m with
 | nil=>exact Nat.zero_le _
 | cons a l ih =>
  have ha:=h2 a mem_cons_self
  have hl:=List.length_erase_of_mem ha
  have hp:=List.length_pos_of_mem ha
  rw [nodup_cons] at h1
  have:=ih h1.2 (m:=m.erase a) (fun y hy=>(List.mem_erase_of_ne (fun e:y=a=>h1.1 (by rw [<-e];exact hy))).mpr (h2 y (mem_cons_of_mem _ hy)))
  rw [length_cons];omega
abbrev s_l_told:Stmt:=top 43
theorem sc_l_told:FnScope ["_law_signs","_law_bars_here","_law_word_here","_law_found","_law_e"] ["_law_signs","_law_bars_here","_law_word_here"] (defScope s_l_told):=by walk_at "sc"
def refD (b:Bool):D:=.tuple [.str "refused",.bool b]
def toldD (b:Bool):D:=.tuple [.str "told",.bool true,.bool b]
def sp_told:SpD:=fun ds Q _=>∃ (k:Int) (bs:List Str) (x:Str),ds=[.int k,bD bs,.str x]/\Sml bs/\x.length<=100/\(St k bs 0->Q (toldD (stB k.toNat bs (wid bs).toNat x)) true)/\(St k bs 1->Q (refD false) true)/\(St k bs 2->Q (refD true) true)
theorem ok_l_told {f cA cN3 cE0 cG cT cWd cRd:Addr} {fd:FuncData} (F:Fun K "_law_told" "_law_told" s_l_told f fd) (T:Blt mg) (C_RowError:ExC K mg "RowError" cE0) (C_NoBars:ExC K mg "NoBars" cA) (C_TooMany:ExC K mg "TooMany" cN3) (fitA:Fits K cA cE0) (fitN:Fits K cN3 cE0) (exkA:ExK K cA) (exkN:ExK K cN3)
  (xA:∀ Q:D->Prop,Q (.bool false)->sx_class K cG cT cWd cRd cN3 cA cA Q) (xN:∀ Q:D->Prop,Q (.bool true)->sx_class K cG cT cWd cRd cN3 cA cN3 Q)
  (D_l_class:DfX P w K mg base "_law_class" "_law_e" 1 (sx_class K cG cT cWd cRd cN3 cA)) (D_stands:DfE P w K mg base "stands" ["signs","bars","word"] 6 (SpL K (sp_st cA cN3))):FnOk P w K mg base CX0 7 f fd ["_law_signs","_law_bars_here","_law_word_here"] (SpL K sp_told):=by
 refine ok0 F sc_l_told (fun ds Q X h=>?_) (fun cdv A outer s H E hr=>?_) fun ds Qd Xd h=>h
 ·obtain ⟨k,bs,x,rfl,_⟩:=h;rfl
 refine ⟨_,(zB (dps_tryN 4 (by rfl) (by rfl) ⟨rfl,rfl,rfl⟩ sc_l_told.nd (by rfl) (by exact C_RowError.mgx) (dsxs_one (dsx_set 3 sc_l_told.nd (dex_call (by exact D_stands) ⟨rfl,rfl,rfl⟩ (by exact hr.mono (by omega)) (zA (dpv 0) (zA (dpv 1) (zA (dpv 2) zC)))))) (fun ea oe cE yE hoe hCE hKE=>(zE (zI (dpe_tup (zA zQ (zA (dpe_dfX (by exact D_l_class) (by rfl) (by exact ⟨(hr.mono (j:=1) (by omega)).dp,(hr.mono (j:=1) (by omega)).un⟩) (by exact mem_append_right _ mem_cons_self) (by rfl) (by exact hoe) (by exact hCE) (by exact hKE) (dpv 4) ⟨rfl,rfl⟩) zC)))))))
   (zE (zI (dpe_tup (zA zQ (zA (dpe_isi (by rfl) kit_bool (by rfl) (by exact T.isinstance) (dpv 3) (by rfl) (by exact T.bool) (by decide +kernel)) (zA (dpv 3) zC))))))),fun ds Qd h=>?_⟩
 obtain ⟨k,bs,x,rfl,hs,hx,q0,q1,q2⟩:=h
 show (_:TSD) _ [some (false,.int k),some (false,bD bs),some (false,.str x),none,none] _
 walk_at "d"
 refine ⟨k,bs,x,rfl,hs,hx,fun hg hw=>?_,fun hg=>?_,fun hg hw=>?_⟩
 ·have q:=q0 ⟨hg,hw⟩
  walk_at "d"
  exact q
 ·refine ⟨fitA,⟨_,C_NoBars⟩,exkA,fun ea=>?_⟩
  walk_at "d"
  refine xA _ ?_
  exact ⟨by decide,q1 hg⟩
 ·refine ⟨fitN,⟨_,C_TooMany⟩,exkN,fun ea=>?_⟩
  walk_at "d"
  refine xN _ ?_
  exact ⟨by decide,q2 ⟨hg,hw⟩⟩
theorem lay_t (b:Bool):(toldD b).canLay0=true:=by
 have a:PyData.strOk (Str.ofString "told")=true:=by decide +kernel
 simp [toldD,PyData.canLay0,PyData.canLayAll0,a]
theorem depth_t (b:Bool):(toldD b).depth<=32:=by simp [toldD,PyData.depth,PyData.depthAll]
theorem has_let {k c:Nat} (h:K3 k):has ⟨#[c]⟩ (Txt.slice (Str.ofString "abcd") none (some (k:Int)))=decide (c∈letters k):=by
 rw [Bool.eq_iff_iff,has_iff,let_txt h,decide_eq_true_eq]
 show [c] <:+: letters k ↔ _
 constructor
 ·intro z;exact z.subset (by simp)
 ·intro z
  obtain ⟨s,t,e⟩:=List.append_of_mem z
  exact ⟨s,t,by rw [e];simp⟩
abbrev s_l_right:Stmt:=top 44
theorem sc_l_right:FnScope ["_law_signs","_law_bars_here","_law_world_here","_law_word_here","_law_handed","_law_due"] ["_law_signs","_law_bars_here","_law_world_here","_law_word_here"] (defScope s_l_right):=by walk_at "sc"
def sp_right:SpD:=fun ds Q _=>∃ (k:Int) (n:Nat) (l1 l0 bs:List Str) (x:Str),ds=[.int k,bD bs,wldD l1 l0,.str x]/\St k bs 0/\(∀ b∈bs,Asc b)/\Wld k.toNat bs n l1 l0/\x.length<=100/\Asc x/\Q (.bool true) true
theorem ok_l_right {f:Addr} {fd:FuncData} (F:Fun K "_law_right" "_law_right" s_l_right f fd) (T:Blt mg) (D_l_told:Df P w K mg base "_law_told" ["_law_signs","_law_bars_here","_law_word_here"] 7 (SpL K sp_told)) (D_l_stands:Df P w K mg base "_law_stands" ["_law_bars_here","_law_world_here","_law_word_here"] 2 (SpL K sp_ls)):FnOk P w K mg base CX0 8 f fd ["_law_signs","_law_bars_here","_law_world_here","_law_word_here"] (SpL K sp_right):=by
 refine ok0 F sc_l_right (fun ds Q X h=>?_) (fun cdv A outer s H E hr=>?_) fun ds Qd Xd h=>h
 ·obtain ⟨k,n,l1,l0,bs,x,rfl,_⟩:=h;rfl
 refine ⟨_,(zB (dpset 4 sc_l_right.nd (zH (dcl_list (by rfl)) (by rfl) (by exact T.list) (by decide +kernel) (zA (dpv 1) zC)))
   (zB (dpset 5 sc_l_right.nd (dpe_cmp (dop_eq (by rfl) (by exact hr.units)) (dpe_lc ["_law_sign"] [("_law_signs",0)] rfl (LcScope.of (by kernel_rfl)) (dpi_str (dpv 3)) (fun _ _ _ _=>⟨(dpgn 0 (nd_of (by kernel_rfl))),(dpts_one (zS dop_notinS (dpv 0) (zL zQ zN (zM (dpv 1))) rfl)),(dpb_emit (by rfl) (by rfl) (dpv 0))⟩)) (dpe_lst zC) (nomark _)))
   (zB (dps_jn (zR (dpt_truth (by rfl) (dpv 5)) (zE (dpset 5 sc_l_right.nd (zK (by exact D_l_stands) (by exact hr.mono (by omega)) (zA (dpv 1) (zA (dpv 2) (zA (dpv 3) zC)))))) zO))
   (zE (zI (dpe_and (dpe_cmp (dop_eq (by rfl) (by exact hr.units)) (zK (by exact D_l_told) (by exact hr.mono (by omega)) (zA (dpv 0) (zA (dpv 4) (zA (dpv 3) zC)))) (dpe_tup (zA zQ (zA dpe_bl (zA (dpv 5) zC)))) (nomark _)) (dpe_one (dpe_cmp (dop_eq (by rfl) (by exact hr.units)) (dpv 4) (dpv 1) (nomark _))))))))),fun ds Qd h=>?_⟩
 obtain ⟨k,n,l1,l0,bs,x,rfl,hst,ha,W,hx,hxa,q⟩:=h
 show (_:TSD) _ [some (false,.int k),some (false,.list (bs.map .str)),some (false,.tuple [dKD (tD l1),dKD (tD l0)]),some (false,.str x),none,none] _
 have hlb:=W.sb.1
 obtain ⟨kk,rfl⟩:∃ kk:Nat,k=(kk:Int):=⟨k.toNat,by have:=hst.1.1;omega⟩
 rw [Int.toNat_natCast] at W
 walk_at "d"
 unfold DL.signs
 refine lc_fltA (L:=x.cps.toList) (fun c=>PyData.str ⟨#[c]⟩) (fun c=>.str ⟨#[c]⟩) (fun c=>!decide (c∈letters kk)) (fun c hc es Q' hl q'=>?_) (by rw [len_tl];omega) ?_
 ·walk_at "d"
  have e:=has_let (c:=c) W.k3
  unfold has at e
  rw [e]
  refine iteb (fun h2=>?_) fun h2=>?_
  ·rw [if_pos h2] at q'
   walk_at "d"
   first|exact q'|exact ⟨hl,rfl,q'⟩
  ·rw [if_neg (by rw [h2];decide)] at q'
   exact q'
 have eF:((x.cps.toList.filter fun c=>!decide (c∈letters kk)).map fun c=>PyData.str ⟨#[c]⟩)=((x.cps.toList.filter fun c=>!decide (c∈letters kk)).map fun c=>(⟨#[c]⟩:Str)).map PyData.str:=by rw [map_map];rfl
 rw [eF]
 have fA:∀ t∈(x.cps.toList.filter fun c=>!decide (c∈letters kk)).map fun c=>(⟨#[c]⟩:Str),Asc t:=fun t ht=>by
  obtain ⟨c,hc,rfl⟩:=mem_map.mp ht
  intro d hd
  have:d=c:=by simpa using hd
  rw [this];exact hxa c (mem_filter.mp hc).1
 walk_at "d"
 refine ⟨⟨lay_b fA,by simp [PyData.canLay0,PyData.canLayAll0],depth_b _⟩,?_⟩
 rw [eqv_nil,List.isEmpty_map]
 have ew:(wid bs).toNat=n:=by have:=W.wd;omega
 walk_at "d"
 refine w_jn (fun ρ=>ρ=[some (false,.int (kk:Int)),some (false,.list (bs.map .str)),some (false,.tuple [dKD (tD l1),dKD (tD l0)]),some (false,.str x),some (true,.list (bs.map .str)),some (false,.bool (stB kk bs n x))]) (fun N hN=>?_) ?_
 ·walk_at "d"
  refine iteb (fun h2=>?_) fun h2=>?_
  ·have ok:Ok kk x.cps.toList:=fun c hc=>by
    apply Classical.byContradiction
    intro z
    have h2:=List.isEmpty_iff.mp h2
    have:c∈x.cps.toList.filter fun c=>!decide (c∈letters kk):=mem_filter.mpr ⟨hc,by simp [z]⟩
    rw [h2] at this;cases this
   walk_at "d"
   refine ⟨kk,n,l1,l0,bs,x,rfl,W,hx,?_⟩
   walk_at "d"
   refine hN _ ?_
   have e:lwB kk bs n x=stB kk bs n x:=by rw [Bool.eq_iff_iff,lwB_iff,stB_iff];exact (same ok).symm
   rw [e]
  ·walk_at "d"
   refine hN _ ?_
   have e:stB kk bs n x=false:=stB_no fun z=>by
    have ok:=sts_ok W.n1 z
    have:x.cps.toList.filter (fun c=>!decide (c∈letters kk))=[]:=List.filter_eq_nil_iff.mpr fun c hc=>by simp [ok c hc]
    rw [this] at h2;cases h2
   rw [e,h2]
 rintro ρ rfl
 walk_at "d"
 refine ⟨(kk:Int),bs,x,rfl,W.sb,hx,fun _=>?_,fun z=>absurd hst.1 z,fun z=>absurd hst.2 z.2⟩
 rw [Int.toNat_natCast,ew]
 walk_at "d"
 refine ⟨⟨lay_t _,lay_t _,depth_t _⟩,?_⟩
 rw [show PyData.eqv (toldD (stB kk bs n x)) (PyData.tuple [PyData.str (Str.ofString "told"),PyData.bool true,PyData.bool (stB kk bs n x)])=true from SeqAt.eqv_refl _ (lay_t _)]
 walk_at "d"
 rw [if_pos (show id true=true from rfl)]
 walk_at "d"
 refine ⟨⟨lay_b ha,lay_b ha,depth_b bs⟩,?_⟩
 rw [SeqAt.eqv_refl _ (lay_b ha)]
 walk_at "d"
 exact q
theorem lay_ref (b:Bool):(refD b).canLay0=true:=by
 have a:PyData.strOk (Str.ofString "refused")=true:=by decide +kernel
 simp [refD,PyData.canLay0,PyData.canLayAll0,a]
theorem depth_ref (b:Bool):(refD b).depth<=32:=by simp [refD,PyData.depth,PyData.depthAll]
def Dw (k:Int) (bs:List Str):Bool->Prop
 | false=>¬ GoodR k bs
 | true=>GoodR k bs/\¬ wds k bs<=128
theorem dw_of {k:Int} {bs:List Str} {m:Bool} (h:St k bs (if m=true then 2 else 1)):Dw k bs m:=by
 cases m with
 | false=>exact h
 | true=>exact h
abbrev s_l_drawn_words:Stmt:=top 42
theorem sc_l_drawn_words:FnScope ["_law_signs","_law_bars_here","_law_world_here","_law_big_here","_law_letters","_law_word_here","_law_more","_law_gone_here","_law_spot","_law_beyond","_law_odd"] ["_law_signs","_law_bars_here","_law_world_here","_law_big_here"] (defScope s_l_drawn_words):=by walk_at "sc"
def sp_drawn:SpD:=fun ds Q _=>∃ (k n:Nat) (l1 l0 bs:List Str) (b:Int),ds=[.int k,bD bs,wldD l1 l0,.int b]/\Wld k bs n l1 l0/\(∀ b∈bs,b.length<=n+1)/\0<=b/\∀ ws:List Str,ws.length=6->(∀ x∈ws,x.length<=100/\Asc x)->Q (wD ws) true
theorem ok_l_drawn_words {f:Addr} {fd:FuncData} (F:Fun K "_law_drawn_words" "_law_drawn_words" s_l_drawn_words f fd) (T:Blt mg) (D_l_word:Df P w K mg base "_law_word" ["_law_big_here","_law_letters","_law_many"] 1 (SpL K sp_word)) (D_l_gone:Df P w K mg base "_law_gone" ["_law_bars_here","_law_world_here","_law_letters","_law_big_here"] 3 (SpL K sp_gone)):FnOk P w K mg base CX0 4 f fd ["_law_signs","_law_bars_here","_law_world_here","_law_big_here"] (SpL K sp_drawn):=by
 refine ok0 F sc_l_drawn_words (fun ds Q X h=>?_) (fun cdv A outer s H E hr=>?_) fun ds Qd Xd h=>h
 ·obtain ⟨k,n,l1,l0,bs,b,rfl,_⟩:=h;rfl
 refine ⟨_,(zB (dpset 4 sc_l_drawn_words.nd (zL zQ zN (zM (dpv 0))))
   (zB (dps_unp [5,3] 2 rfl (by rfl) (by rfl) (qpgs_cons (qpgn 5 sc_l_drawn_words.nd) (qpgs_cons (qpgn 3 sc_l_drawn_words.nd) qpgs_nil)) (by rfl) (by rfl) (zK (by exact D_l_word) (by exact hr.mono (by omega)) (zA (zF zT (dpv 3) zD) (zA (dpv 4) (zA (zF zP (dpv 3) zD) zC)))))
   (zB (dps_unp [6,3] 2 rfl (by rfl) (by rfl) (qpgs_cons (qpgn 6 sc_l_drawn_words.nd) (qpgs_cons (qpgn 3 sc_l_drawn_words.nd) qpgs_nil)) (by rfl) (by rfl) (zK (by exact D_l_word) (by exact hr.mono (by omega)) (zA (zF zT (dpv 3) zD) (zA (dpv 4) (zA (zF zJ zD (zF zP (dpv 3) zD)) zC)))))
   (zB (dpset 7 sc_l_drawn_words.nd (zK (by exact D_l_gone) (by exact hr.mono (by omega)) (zA (dpv 1) (zA (dpv 2) (zA (dpv 4) (zA (dpv 3) zC))))))
   (zB (dpset 3 sc_l_drawn_words.nd (zF zT (dpv 3) (zF dop_pow zD zD)))
   (zB (dpset 8 sc_l_drawn_words.nd (zF zP (dpv 3) (zF zJ (zG dcl_lenS (by rfl) (by exact T.len) (by decide +kernel) (zA (dpv 7) zC)) zD)))
   (zB (dpset 9 sc_l_drawn_words.nd (dpe_ix dixS (zL zQ (zM (zF dop_sub (dpv 0) zD)) zN) (zF zP (zF zT (dpv 3) zD) zD) (fun _ _=>rfl)))
   (zB (dpset 10 sc_l_drawn_words.nd (zF zJ (zF zJ (zL (dpv 7) zN (zM (dpv 8))) (dpv 9)) (zL (dpv 7) (zM (zF zJ (dpv 8) zD)) zN)))
   (zE (zI (dpe_lst (zA (dpv 5) (zA (dpv 7) (zA (dpv 6) (zA (zL (dpv 10) zN (zM zD)) (zA zQ (zA (zF zJ (dpv 7) (zL (dpv 6) zN (zM (zF dop_sub zD (zG dcl_lenS (by rfl) (by exact T.len) (by decide +kernel) (zA (dpv 7) zC)))))) zC))))))))))))))))),fun ds Qd h=>?_⟩
 obtain ⟨k,n,l1,l0,bs,b,rfl,W,hbl,hb,q⟩:=h
 show (_:TSD) _ [some (false,.int (k:Int)),some (false,bD bs),some (false,.tuple [dKD (tD l1),dKD (tD l0)]),some (false,.int b),none,none,none,none,none,none,none] _
 have hk:=W.k3
 have hk4:=W.k4
 have hk1:1<=k:=by rcases hk with rfl|rfl|rfl<;>decide
 have ia:∀ {c:Nat},InL k c->c < 128:=fun h=>h.asc hk4
 walk_at "d"
 obtain ⟨m,em,hm⟩:∃ m:Nat,b % 11=(m:Int)/\m<=10:=⟨(b % 11).toNat,by omega,by omega⟩
 rw [em]
 refine ⟨_,_,k,m,rfl,Int.ediv_nonneg hb (by decide),let_of hk,hk1,hk4,hm,fun x b1 hx1 hx2 hb1=>?_⟩
 walk_at "d"
 obtain ⟨m',em',hm'⟩:∃ m:Nat,1+b1 % 5=(m:Int)/\m<=10:=⟨(1+b1 % 5).toNat,by omega,by omega⟩
 rw [em']
 refine ⟨_,_,k,m',rfl,Int.ediv_nonneg hb1 (by decide),let_of hk,hk1,hk4,hm',fun y b2 hy1 hy2 hb2=>?_⟩
 walk_at "d"
 refine ⟨k,n,l1,l0,bs,_,b2,rfl,W,hbl,let_txt hk,hb2,fun g hg1 hg2=>?_⟩
 have xa:Asc x:=fun c hc=>ia (hx2 c hc)
 have ya:Asc y:=fun c hc=>ia (hy2 c hc)
 have ga:Asc g:=fun c hc=>let_asc hk4 (hg2 c hc)
 walk_at "d"
 obtain ⟨o1,c,o2,o3,o4⟩:=odd_at hk (i:=b2 / 10 ^ Int.toNat 9 / 16 % 4) (by omega) (by omega)
 refine ⟨by omega,c,o2,?_⟩
 have e1:Str.length ⟨#[c]⟩=1:=rfl
 have s1:=Txt.slice_le g none (some (b2 / 10 ^ Int.toNat 9 % ((g.length:Int)+1)))
 have t1:Asc (Txt.slice g none (some (b2 / 10 ^ Int.toNat 9 % ((g.length:Int)+1)))):=fun d hd=>ga d (slice_mem hd)
 have s2:=Txt.slice_le g (some (b2 / 10 ^ Int.toNat 9 % ((g.length:Int)+1)+1)) none
 have t2:Asc (Txt.slice g (some (b2 / 10 ^ Int.toNat 9 % ((g.length:Int)+1)+1)) none):=fun d hd=>ga d (slice_mem hd)
 have s3:=Txt.slice_le y none (some (10 - (g.length:Int)))
 have t3:Asc (Txt.slice y none (some (10 - (g.length:Int)))):=fun d hd=>ya d (slice_mem hd)
 walk_at "d"
 revert s1 t1 s2 t2
 generalize Txt.slice g none (some (b2 / 10 ^ Int.toNat 9 % ((g.length:Int)+1)))=A
 generalize Txt.slice g (some (b2 / 10 ^ Int.toNat 9 % ((g.length:Int)+1)+1)) none=B
 intro s1 t1 s2 t2
 have lo:(A++{ cps:=#[c] }++B).length<=100:=by rw [len_app,len_app,e1];omega
 have ao:Asc (A++{ cps:=#[c] }++B):=asc_app (asc_app t1 fun d hd=>by
  have:d=c:=by simpa using hd
  omega) t2
 refine ⟨by rw [len_app,e1];omega,?_⟩
 revert lo ao
 generalize A++{ cps:=#[c] }++B=o
 intro lo ao
 walk_at "d"
 have s4:=Txt.slice_le o none (some 10)
 have t4:Asc (Txt.slice o none (some 10)):=fun d hd=>ao d (slice_mem hd)
 revert s3 t3 s4 t4
 generalize Txt.slice y none (some (10 - (g.length:Int)))=Y
 generalize Txt.slice o none (some 10)=O
 intro s3 t3 s4 t4
 refine q [x,g,y,O,Str.ofString "",g++Y] rfl fun z hz=>?_
 simp only [mem_cons,List.not_mem_nil,or_false] at hz
 rcases hz with rfl|rfl|rfl|rfl|rfl|rfl
 ·exact ⟨by omega,xa⟩
 ·exact ⟨by omega,ga⟩
 ·exact ⟨by omega,ya⟩
 ·exact ⟨by omega,t4⟩
 ·exact ⟨by decide +kernel,by unfold Asc;decide +kernel⟩
 ·exact ⟨by rw [len_app];omega,asc_app ga t3⟩
theorem wld_of {k:Int} {bs l1 l0:List Str} (hs:Sml bs) (hst:St k bs 0) (a1:l1.Nodup) (a2:∀ t,t∈l1 ↔ Last (steps k.toNat bs (wid bs).toNat) true t) (b2:∀ t,t∈l0 ↔ Last (steps k.toNat bs (wid bs).toNat) false t) (a3:l1.length<=5000) (b3:l0.length<=5000):Wld k.toNat bs (wid bs).toNat l1 l0/\∀ b∈bs,b.length<=(wid bs).toNat+1:=by
 have hg:=hst.1
 obtain ⟨n,en,hn1,hn5⟩:=wid5 hg
 obtain ⟨kk,rfl,hk⟩:∃ kk:Nat,k=(kk:Int)/\K3 kk:=⟨k.toNat,by have:=hg.1;omega,by have:=hg.1;unfold K3;omega⟩
 have hp:kk ^ n < 128:=by
  refine w128 hk hn5 ?_
  have hw:=hst.2
  unfold wds at hw
  rw [en] at hw
  have e:((n:Nat):Int).toNat=n:=rfl
  rw [e] at hw
  exact_mod_cast hw
 have enn:(wid bs).toNat=n:=by omega
 rw [enn,Int.toNat_natCast] at a2 b2
 rw [enn,Int.toNat_natCast]
 have wi:∀ t,(t∈l1/\t∈l0) ↔ Win kk bs n t:=fun t=>by rw [win_iff,a2,b2]
 refine ⟨⟨a1,a2,b2,a3,b3,?_,hk,en,hn1,hn5,hs⟩,fun b hb=>?_⟩
 ·refine Nat.lt_of_le_of_lt (sub_len (a1.filter _) (m:=W kk n) fun t ht=>?_) (by rw [len_W];exact hp)
  rw [mem_filter,decide_eq_true_eq] at ht
  exact (Kp.start kk bs n).sub t ((Kp.start kk bs n).win t ((wi t).mp ht))
 ·have:=(fold_ge (lens bs) 2).2 (b.length:Int) (mem_map.mpr ⟨b,hb,rfl⟩)
  unfold wid mx2 at en
  omega
abbrev s_law:Stmt:=top 45
theorem sc_law:FnScope ["_law_script","_law_signs","_law_bars_here","_law_big_here","_law_world_here","_law_words_here","_law_word_here","_law_less","_law_bad_here","_law_many","_law_more","_law_others","_law_rest"] ["_law_script"] (defScope s_law):=by walk_at "sc"
def sp_lawD:SpD:=fun ds Q _=>∃ (ns:List Int),ds=[scr ns]/\∀ o,Q (.bool true) o
theorem ok_lawD {f:Addr} {fd:FuncData} (F:Fun K "law" "law" s_law f fd) (T:Blt mg) (D_l_big:Df P w K mg base "_law_big" ["_law_script","_law_at"] 2 (SpL K sp_big)) (D_l_bars:Df P w K mg base "_law_bars" ["_law_big_here"] 2 (SpL K sp_bars)) (D_l_world:Df P w K mg base "_law_world" ["_law_signs","_law_bars_here"] 2 (SpL K sp_world)) (D_l_drawn_words:Df P w K mg base "_law_drawn_words" ["_law_signs","_law_bars_here","_law_world_here","_law_big_here"] 4 (SpL K sp_drawn)) (D_l_right:Df P w K mg base "_law_right" ["_law_signs","_law_bars_here","_law_world_here","_law_word_here"] 8 (SpL K sp_right)) (D_l_bad:Df P w K mg base "_law_bad" ["_law_big_here"] 2 (SpL K sp_bad)) (D_l_told:Df P w K mg base "_law_told" ["_law_signs","_law_bars_here","_law_word_here"] 7 (SpL K sp_told)):FnOk P w K mg base CX0 9 f fd ["_law_script"] (SpL K sp_lawD):=by
 refine ok0 F sc_law (fun ds Q X h=>?_) (fun cdv A outer s H E hr=>?_) fun ds Qd Xd h=>h
 ·obtain ⟨ns,rfl,_⟩:=h;rfl
 refine ⟨_,(zB (dps_unp [1,2,3] 3 rfl (by rfl) (by rfl) (qpgs_cons (qpgn 1 sc_law.nd) (qpgs_cons (qpgn 2 sc_law.nd) (qpgs_cons (qpgn 3 sc_law.nd) qpgs_nil))) (by rfl) (by rfl) (zK (by exact D_l_bars) (by exact hr.mono (by omega)) (zA (zK (by exact D_l_big) (by exact hr.mono (by omega)) (zA (dpv 0) (zA zD zC))) zC)))
   (zB (dpset 4 sc_law.nd (zK (by exact D_l_world) (by exact hr.mono (by omega)) (zA (dpv 1) (zA (dpv 2) zC))))
   (zB (dpset 5 sc_law.nd (zK (by exact D_l_drawn_words) (by exact hr.mono (by omega)) (zA (dpv 1) (zA (dpv 2) (zA (dpv 4) (zA (zK (by exact D_l_big) (by exact hr.mono (by omega)) (zA (dpv 0) (zA zD zC))) zC))))))
   (zB (dps_for PassesOwn.never rfl (dpi_list (by rfl) (zF zJ (dpv 5) (dpe_slice (by rfl) (dpv 5) zN (zM zD)))) (dpgn 6 sc_law.nd) (zE (zR (dpt_not (dpt_val (zK (by exact D_l_right) (by exact hr.mono (by omega)) (zA (dpv 1) (zA (dpv 2) (zA (dpv 4) (zA (dpv 6) zC))))))) (zE (zI dpe_bl)) zO)))
   (zB (dps_jn (zR (zS (dop_eq (by rfl) (by exact hr.units)) (zF zP (dpv 3) zD) zD (nomark _)) (zB (dps_unp [7,8,9] 3 rfl (by rfl) (by rfl) (qpgs_cons (qpgn 7 sc_law.nd) (qpgs_cons (qpgn 8 sc_law.nd) (qpgs_cons (qpgn 9 sc_law.nd) qpgs_nil))) (by rfl) (by rfl) (zK (by exact D_l_bad) (by exact hr.mono (by omega)) (zA (zK (by exact D_l_big) (by exact hr.mono (by omega)) (zA (dpv 0) (zA zD zC))) zC)))
   (zE (zR (zS (dop_ne (by rfl) (by exact hr.units)) (zK (by exact D_l_told) (by exact hr.mono (by omega)) (zA (dpv 7) (zA (zH (dcl_list (by rfl)) (by rfl) (by exact T.list) (by decide +kernel) (zA (dpv 8) zC)) (zA (dpe_ix (dix (by rfl)) (dpv 5) zD (fun _ _=>rfl)) zC)))) (dpe_tup (zA zQ (zA (dpv 9) zC))) (nomark _)) (zE (zI dpe_bl)) zO))) zO))
   (zB (dps_unp [10,11,12] 3 rfl (by rfl) (by rfl) (qpgs_cons (qpgn 10 sc_law.nd) (qpgs_cons (qpgn 11 sc_law.nd) (qpgs_cons (qpgn 12 sc_law.nd) qpgs_nil))) (by rfl) (by rfl) (zK (by exact D_l_bars) (by exact hr.mono (by omega)) (zA (zK (by exact D_l_big) (by exact hr.mono (by omega)) (zA (dpv 0) (zA zD zC))) zC)))
   (zB (zR (dpt_not (dpt_val (zK (by exact D_l_right) (by exact hr.mono (by omega)) (zA (dpv 10) (zA (dpv 11) (zA (zK (by exact D_l_world) (by exact hr.mono (by omega)) (zA (dpv 10) (zA (dpv 11) zC))) (zA (dpe_ix (dix (by rfl)) (dpv 5) zD (fun _ _=>rfl)) zC))))))) (zE (zI dpe_bl)) zO)
   (zE (zI (zK (by exact D_l_right) (by exact hr.mono (by omega)) (zA (dpv 1) (zA (dpv 2) (zA (dpv 4) (zA (dpe_ix (dix (by rfl)) (dpv 5) zD (fun _ _=>rfl)) zC)))))))))))))),fun ds Qd h=>?_⟩
 obtain ⟨ns,rfl,q⟩:=h
 show (_:TSD) _ [some (false,scr ns),none,none,none,none,none,none,none,none,none,none,none,none] _
 walk_at "d"
 refine ⟨ns,0,rfl,by omega,fun z hz=>?_⟩
 walk_at "d"
 refine ⟨z,rfl,hz,fun k bs b' hs ha hst=>?_⟩
 have f1:∀ b,flat (bD b)=false:=fun _=>rfl
 walk_at "d"
 simp only [f1,Bool.not_false]
 walk_at "d"
 refine ⟨k,bs,rfl,hs,hst.1,fun l1 l0 a1 b1 a2 b2 a3 b3=>?_⟩
 obtain ⟨W,hbl⟩:=wld_of hs hst a1 a2 b2 a3 b3
 obtain ⟨kk,rfl⟩:∃ kk:Nat,k=(kk:Int):=⟨k.toNat,by have:=hst.1.1;omega⟩
 rw [Int.toNat_natCast] at W
 walk_at "d"
 have eS:∀ (a b c d:Option (Bool × D)) (r:Ren),setK (a::b::c::d::none::r) 4 (PyData.tuple [dKD (tD l1),dKD (tD l0)]) (Kd.own [])=a::b::c::d::some (true,PyData.tuple [dKD (tD l1),dKD (tD l0)])::r:=fun _ _ _ _ _=>rfl
 rw [eS]
 walk_at "d"
 refine ⟨ns,1,rfl,by omega,fun z' hz'=>?_⟩
 walk_at "d"
 refine ⟨kk,(wid bs).toNat,l1,l0,bs,z',rfl,W,hbl,hz',fun ws w6 wA=>?_⟩
 have e0:∃ w0 w1 w2 w3 w4 w5,ws=[w0,w1,w2,w3,w4,w5]:=by
  match ws,w6 with
  | [w0,w1,w2,w3,w4,w5],_=>exact ⟨_,_,_,_,_,_,rfl⟩
 have e1:DL.cutD (ws.map PyData.str) none (some 1)=(ws.take 1).map PyData.str:=by
  obtain ⟨w0,w1,w2,w3,w4,w5,rfl⟩:=e0;rfl
 obtain ⟨y,hy,hyA⟩:∃ y,(ws.map PyData.str)[1]?=some (.str y)/\y.length<=100/\Asc y:=by
  obtain ⟨w0,w1,w2,w3,w4,w5,rfl⟩:=e0
  exact ⟨w1,rfl,wA w1 (by simp)⟩
 have rt:∀ x:Str,x∈ws++ws.take 1->x.length<=100/\Asc x:=fun x hx=>by
  rcases mem_append.mp hx with hx|hx
  ·exact wA x hx
  ·exact wA x (mem_of_mem_take hx)
 have hst':((wid bs).toNat:Nat)=(wid bs).toNat:=rfl
 unfold wD
 walk_at "d"
 rw [e1]
 refine ⟨by rw [length_map,length_map,length_take];omega,?_⟩
 rw [<-map_append]
 walk_at "d"
 refine ⟨by unfold kels2;rw [flats_txt,flats_txt];rfl,?_⟩
 refine lp_list (fun j ρ=>∃ x6:Option (Bool × D),ρ=[some (false,scr ns),some (false,PyData.int (kk:Int)),some (true,bD bs),some (false,PyData.int b'),some (true,PyData.tuple [dKD (tD l1),dKD (tD l0)]),some (true,PyData.list (List.map PyData.str ws)),x6,none,none,none,none,none,none]) ⟨_,rfl⟩ ?_ ?_
 ·rintro j d ρ hd ⟨x6,rfl⟩
  obtain ⟨x,hx,rfl⟩:∃ x,(ws++ws.take 1)[j]?=some x/\d=.str x:=by
   rw [List.getElem?_map] at hd
   cases e:(ws++ws.take 1)[j]? with
   | none=>rw [e] at hd;cases hd
   | some r=>rw [e] at hd;cases hd;exact ⟨r,rfl,rfl⟩
  obtain ⟨x1,x2⟩:=rt x (List.mem_of_getElem? hx)
  walk_at "d"
  refine ⟨(kk:Int),(wid bs).toNat,l1,l0,bs,x,rfl,hst,ha,W,x1,x2,?_⟩
  walk_at "d"
  exact ⟨_,rfl⟩
 rintro ρ ⟨x6,rfl⟩
 walk_at "d"
 refine w_jn (fun ρ=>∃ x6 x7 x8 x9,ρ=[some (false,scr ns),some (false,PyData.int (kk:Int)),some (true,bD bs),some (false,PyData.int b'),some (true,PyData.tuple [dKD (tD l1),dKD (tD l0)]),some (true,PyData.list (List.map PyData.str ws)),x6,x7,x8,x9,none,none,none]) (fun N hN=>?_) ?_
 ·walk_at "d"
  refine ite2 (fun _=>?_) fun _=>?_
  ·walk_at "d"
   refine ⟨ns,2,rfl,by omega,fun z2 hz2=>?_⟩
   walk_at "d"
   refine ⟨z2,rfl,hz2,fun k2 bs2 m2 hs2 ha2 hst2=>?_⟩
   walk_at "d"
   simp only [f1,Bool.not_false]
   unfold bD
   walk_at "d"
   refine ⟨_,atI_nat (j:=1) hy,?_⟩
   walk_at "d"
   refine ⟨k2,bs2,y,rfl,hs2,hyA.1,?_⟩
   have fin:Dw k2 bs2 m2:=dw_of hst2
   cases m2 with
   | false =>
    have fin:¬ GoodR k2 bs2:=fin
    refine ⟨fun z=>absurd z.1 fin,fun _=>?_,fun z=>absurd z.1 fin⟩
    unfold refD
    walk_at "d"
    refine ⟨⟨lay_ref false,lay_ref false,depth_ref false⟩,?_⟩
    rw [show PyData.eqv (PyData.tuple [PyData.str (Str.ofString "refused"),PyData.bool false]) (PyData.tuple [PyData.str (Str.ofString "refused"),PyData.bool false])=true from SeqAt.eqv_refl _ (lay_ref false)]
    walk_at "d"
    exact hN _ ⟨_,_,_,_,rfl⟩
   | true =>
    have fin:GoodR k2 bs2/\¬ wds k2 bs2<=128:=fin
    refine ⟨fun z=>absurd z.2 fin.2,fun z=>absurd fin.1 z,fun _=>?_⟩
    unfold refD
    walk_at "d"
    refine ⟨⟨lay_ref true,lay_ref true,depth_ref true⟩,?_⟩
    rw [show PyData.eqv (PyData.tuple [PyData.str (Str.ofString "refused"),PyData.bool true]) (PyData.tuple [PyData.str (Str.ofString "refused"),PyData.bool true])=true from SeqAt.eqv_refl _ (lay_ref true)]
    walk_at "d"
    exact hN _ ⟨_,_,_,_,rfl⟩
  ·walk_at "d"
   exact hN _ ⟨_,_,_,_,rfl⟩
 rintro ρ ⟨x6,x7,x8,x9,rfl⟩
 walk_at "d"
 refine ⟨ns,3,rfl,by omega,fun z3 hz3=>?_⟩
 walk_at "d"
 refine ⟨z3,rfl,hz3,fun k3 bs3 m3 hs3 ha3 hst3=>?_⟩
 walk_at "d"
 simp only [f1,Bool.not_false]
 walk_at "d"
 refine ⟨k3,bs3,rfl,hs3,hst3.1,fun l1' l0' a1' b1' a2' b2' a3' b3'=>?_⟩
 obtain ⟨W',_⟩:=wld_of hs3 hst3 a1' a2' b2' a3' b3'
 walk_at "d"
 refine ⟨_,atI_nat (j:=1) hy,?_⟩
 walk_at "d"
 refine ⟨k3,(wid bs3).toNat,l1',l0',bs3,y,rfl,hst3,ha3,W',hyA.1,hyA.2,?_⟩
 walk_at "d"
 refine ⟨_,atI_nat (j:=1) hy,?_⟩
 walk_at "d"
 refine ⟨(kk:Int),(wid bs).toNat,l1,l0,bs,y,rfl,hst,ha,W,hyA.1,hyA.2,?_⟩
 walk_at "d"
 exact q _
def sp_lawH (K:W.Frag):Sp:=fun vs H Q _=>∃ (a:Addr) (ns:List Int),vs=[.ref a]/\SqL K H a (ns.map V.int)/\∀ H',Q (.bl true) H'
theorem law_of {vs:List V} {H:Hp} {Q:VK} {E:XK} (h:sp_lawH K vs H Q E):SpL K sp_lawD vs H Q E:=by
 obtain ⟨a,ns,rfl,hS,q⟩:=h
 refine ⟨[scr ns],fun d _=>d=.bool true,Xf,.cons (.scr ns hS) .nil,⟨ns,rfl,fun _=>rfl⟩,fun d o v H' e _ r=>?_,fun _ _ z _=>z.elim⟩
 subst e
 have hv:Dn K H' v (.bool true):=by
  cases o with
  | true=>obtain ⟨ms,h1,_⟩:=r;exact h1.den
  | false=>exact r
 cases hv
 exact q H'
theorem ok_law {f:Addr} {fd:FuncData} (F:Fun K "law" "law" s_law f fd) (T:Blt mg) (D_l_big:Df P w K mg base "_law_big" ["_law_script","_law_at"] 2 (SpL K sp_big)) (D_l_bars:Df P w K mg base "_law_bars" ["_law_big_here"] 2 (SpL K sp_bars)) (D_l_world:Df P w K mg base "_law_world" ["_law_signs","_law_bars_here"] 2 (SpL K sp_world)) (D_l_drawn_words:Df P w K mg base "_law_drawn_words" ["_law_signs","_law_bars_here","_law_world_here","_law_big_here"] 4 (SpL K sp_drawn)) (D_l_right:Df P w K mg base "_law_right" ["_law_signs","_law_bars_here","_law_world_here","_law_word_here"] 8 (SpL K sp_right)) (D_l_bad:Df P w K mg base "_law_bad" ["_law_big_here"] 2 (SpL K sp_bad)) (D_l_told:Df P w K mg base "_law_told" ["_law_signs","_law_bars_here","_law_word_here"] 7 (SpL K sp_told)):FnOk P w K mg base CX0 9 f fd ["_law_script"] (sp_lawH K):=(ok_lawD F T D_l_big D_l_bars D_l_world D_l_drawn_words D_l_right D_l_bad D_l_told).imp fun _ _ _ _ h=>law_of h
theorem ok_l_toldF {f cA cN3 cE0 cG cT cWd cRd:Addr} {fd:FuncData} (F:Fun K "_law_told" "_law_told" s_l_told f fd) (T:Blt mg) (C_RowError:ExC K mg "RowError" cE0) (C_NoBars:ExC K mg "NoBars" cA) (C_TooMany:ExC K mg "TooMany" cN3) (fitA:Fits K cA cE0) (fitN:Fits K cN3 cE0) (exkA:ExK K cA) (exkN:ExK K cN3) (i_a:PySem.W.kitOne K (.ref cA) (.ref cG)=some false) (i_b:PySem.W.kitOne K (.ref cA) (.ref cT)=some false) (i_c:PySem.W.kitOne K (.ref cA) (.ref cWd)=some false) (i_d:PySem.W.kitOne K (.ref cA) (.ref cRd)=some false) (i_e:PySem.W.kitOne K (.ref cA) (.type "ValueError")=some true) (i_f:PySem.W.kitOne K (.ref cA) (.ref cN3)=some false) (i_g:PySem.W.kitOne K (.ref cA) (.ref cA)=some true) (i_h:PySem.W.kitOne K (.ref cN3) (.ref cG)=some false) (i_i:PySem.W.kitOne K (.ref cN3) (.ref cT)=some false) (i_j:PySem.W.kitOne K (.ref cN3) (.ref cWd)=some false) (i_k:PySem.W.kitOne K (.ref cN3) (.ref cRd)=some false) (i_l:PySem.W.kitOne K (.ref cN3) (.type "ValueError")=some true) (i_m:PySem.W.kitOne K (.ref cN3) (.ref cN3)=some true) (i_n:PySem.W.kitOne K (.ref cN3) (.ref cA)=some false) (D_l_class:DfX P w K mg base "_law_class" "_law_e" 1 (sx_class K cG cT cWd cRd cN3 cA)) (D_stands:DfE P w K mg base "stands" ["signs","bars","word"] 6 (SpL K (sp_st cA cN3))):FnOk P w K mg base CX0 7 f fd ["_law_signs","_law_bars_here","_law_word_here"] (SpL K sp_told):=ok_l_told F T C_RowError C_NoBars C_TooMany fitA fitN exkA exkN (fun Q h=>⟨false,true,i_a,i_b,i_c,i_d,i_e,i_f,i_g,rfl,h⟩) (fun Q h=>⟨true,false,i_h,i_i,i_j,i_k,i_l,i_m,i_n,rfl,h⟩) D_l_class D_stands
end
def tupIn (K:W.Frag) (a:Addr):Option (List DL.D):=match K.lookup a with
 | some o=>match o.data with
  | .seq its _=>if o.cls==.type "tuple"&&Nat.ble its.size 1000 then DL.scDs its.toList else none
  | _=>none
 | none=>none
theorem gtup_in {K:W.Frag} {mg:Str->Option Value} {x:Str} {a:Addr} {ds:List DL.D} (hm:mg x=some (.ref a)) (h:tupIn K a=some ds):DL.GTup K mg x ds:=by
 unfold tupIn at h
 split at h
 ·split at h
  ·split at h
   ·rename_i o e1 _ its n e2 e3
    rw [Bool.and_eq_true] at e3
    exact DL.gtup_of hm e1 (eq_of_beq e3.1) e2 (Nat.le_of_ble_eq_true e3.2) h
   ·cases h
  ·cases h
 ·cases h
theorem len0 (us:List Value) (h:us.length=0):us=[]:=List.eq_nil_of_length_eq_zero h
theorem len1 (us:List Value) (h:us.length=1):∃ a0,us=[a0]:=by
 cases us with
 | nil=>exact absurd h.symm (Nat.succ_ne_zero _)
 | cons a r =>
  have e:=len0 r (Nat.succ.inj h)
  subst e
  exact ⟨a,rfl⟩
theorem len2 (us:List Value) (h:us.length=2):∃ a0 a1,us=[a0,a1]:=by
 cases us with
 | nil=>exact absurd h.symm (Nat.succ_ne_zero _)
 | cons a r =>
  obtain ⟨a1,e⟩:=len1 r (Nat.succ.inj h)
  subst e
  exact ⟨a,a1,rfl⟩
theorem len3 (us:List Value) (h:us.length=3):∃ a0 a1 a2,us=[a0,a1,a2]:=by
 cases us with
 | nil=>exact absurd h.symm (Nat.succ_ne_zero _)
 | cons a r =>
  obtain ⟨a1,a2,e⟩:=len2 r (Nat.succ.inj h)
  subst e
  exact ⟨a,a1,a2,rfl⟩
theorem len4 (us:List Value) (h:us.length=4):∃ a0 a1 a2 a3,us=[a0,a1,a2,a3]:=by
 cases us with
 | nil=>exact absurd h.symm (Nat.succ_ne_zero _)
 | cons a r =>
  obtain ⟨a1,a2,a3,e⟩:=len3 r (Nat.succ.inj h)
  subst e
  exact ⟨a,a1,a2,a3,rfl⟩
theorem all_mk {l:PySem.W.OpenLaw} {w:World} {K:W.Frag} {h:Heap} {mg:Str->Option Value} {fa:Addr} (X:K.In h) (G:h.Ns mainGlobals mg) (hfa:mg "law"=some (.ref fa))
  {od1 an1:Option Addr} {sl1:Array (Option Value)} {oc1 kV1 dc1 pm1 cd1 ct1:Value} {f1:Addr}
  {od2 an2:Option Addr} {sl2:Array (Option Value)} {oc2 kV2 dc2 pm2 cd2 ct2:Value} {f2:Addr}
  {od3 an3:Option Addr} {sl3:Array (Option Value)} {oc3 kV3 dc3 pm3 cd3 ct3:Value} {f3:Addr}
  {od4 an4:Option Addr} {sl4:Array (Option Value)} {oc4 kV4 dc4 pm4 cd4 ct4:Value} {f4:Addr}
  {od5 an5:Option Addr} {sl5:Array (Option Value)} {oc5 kV5 dc5 pm5 cd5 ct5:Value} {f5:Addr}
  {od6 an6:Option Addr} {sl6:Array (Option Value)} {oc6 kV6 dc6 pm6 cd6 ct6:Value} {f6:Addr}
  {od7 an7:Option Addr} {sl7:Array (Option Value)} {oc7 kV7 dc7 pm7 cd7 ct7:Value} {f7:Addr}
  {od8 an8:Option Addr} {sl8:Array (Option Value)} {oc8 kV8 dc8 pm8 cd8 ct8:Value} {f8:Addr}
  {od9 an9:Option Addr} {sl9:Array (Option Value)} {oc9 kV9 dc9 pm9 cd9 ct9:Value} {f9:Addr}
  {od10 an10:Option Addr} {sl10:Array (Option Value)} {oc10 kV10 dc10 pm10 cd10 ct10:Value} {f10:Addr}
  {od11 an11:Option Addr} {sl11:Array (Option Value)} {oc11 kV11 dc11 pm11 cd11 ct11:Value} {f11:Addr}
  {od12 an12:Option Addr} {sl12:Array (Option Value)} {oc12 kV12 dc12 pm12 cd12 ct12:Value} {f12:Addr}
  {od13 an13:Option Addr} {sl13:Array (Option Value)} {oc13 kV13 dc13 pm13 cd13 ct13:Value} {f13:Addr}
  {od14 an14:Option Addr} {sl14:Array (Option Value)} {oc14 kV14 dc14 pm14 cd14 ct14:Value} {f14:Addr}
  {od15 an15:Option Addr} {sl15:Array (Option Value)} {oc15 kV15 dc15 pm15 cd15 ct15:Value} {f15:Addr}
  {od16 an16:Option Addr} {sl16:Array (Option Value)} {oc16 kV16 dc16 pm16 cd16 ct16:Value} {f16:Addr}
  {od17 an17:Option Addr} {sl17:Array (Option Value)} {oc17 kV17 dc17 pm17 cd17 ct17:Value} {f17:Addr}
  {od18 an18:Option Addr} {sl18:Array (Option Value)} {oc18 kV18 dc18 pm18 cd18 ct18:Value} {f18:Addr}
  {od19 an19:Option Addr} {sl19:Array (Option Value)} {oc19 kV19 dc19 pm19 cd19 ct19:Value} {f19:Addr}
  {od20 an20:Option Addr} {sl20:Array (Option Value)} {oc20 kV20 dc20 pm20 cd20 ct20:Value} {f20:Addr}
  {od21 an21:Option Addr} {sl21:Array (Option Value)} {oc21 kV21 dc21 pm21 cd21 ct21:Value} {f21:Addr}
  {od22 an22:Option Addr} {sl22:Array (Option Value)} {oc22 kV22 dc22 pm22 cd22 ct22:Value} {f22:Addr}
  {od23 an23:Option Addr} {sl23:Array (Option Value)} {oc23 kV23 dc23 pm23 cd23 ct23:Value} {f23:Addr}
  {od24 an24:Option Addr} {sl24:Array (Option Value)} {oc24 kV24 dc24 pm24 cd24 ct24:Value} {f24:Addr}
  {od25 an25:Option Addr} {sl25:Array (Option Value)} {oc25 kV25 dc25 pm25 cd25 ct25:Value} {f25:Addr}
  {od26 an26:Option Addr} {sl26:Array (Option Value)} {oc26 kV26 dc26 pm26 cd26 ct26:Value} {f26:Addr}
  {od27 an27:Option Addr} {sl27:Array (Option Value)} {oc27 kV27 dc27 pm27 cd27 ct27:Value} {f27:Addr}
  {od28 an28:Option Addr} {sl28:Array (Option Value)} {oc28 kV28 dc28 pm28 cd28 ct28:Value} {f28:Addr}
  {od29 an29:Option Addr} {sl29:Array (Option Value)} {oc29 kV29 dc29 pm29 cd29 ct29:Value} {f29:Addr}
  (a1:PySem.W.nsIn K mainGlobals "is_whole"=some (some (.ref f1))) (l1:K.lookup f1=some ⟨oc1,od1,.func (PySem.W.fnOf "is_whole" "is_whole" (defArgs s_is_whole) (defBody s_is_whole) (defScope s_is_whole) .none kV1 dc1 pm1 an1 cd1 ct1),sl1⟩) (c1:PySem.W.codeIn K cd1 "is_whole"=true) (k1:PySem.W.keepIn K (.ref f1)=true)
  (a2:PySem.W.nsIn K mainGlobals "plain_width"=some (some (.ref f2))) (l2:K.lookup f2=some ⟨oc2,od2,.func (PySem.W.fnOf "plain_width" "plain_width" (defArgs s_plain_width) (defBody s_plain_width) (defScope s_plain_width) .none kV2 dc2 pm2 an2 cd2 ct2),sl2⟩) (c2:PySem.W.codeIn K cd2 "plain_width"=true) (k2:PySem.W.keepIn K (.ref f2)=true)
  (a3:PySem.W.nsIn K mainGlobals "require_bars"=some (some (.ref f3))) (l3:K.lookup f3=some ⟨oc3,od3,.func (PySem.W.fnOf "require_bars" "require_bars" (defArgs s_require_bars) (defBody s_require_bars) (defScope s_require_bars) .none kV3 dc3 pm3 an3 cd3 ct3),sl3⟩) (c3:PySem.W.codeIn K cd3 "require_bars"=true) (k3:PySem.W.keepIn K (.ref f3)=true)
  (a4:PySem.W.nsIn K mainGlobals "vet_bars"=some (some (.ref f4))) (l4:K.lookup f4=some ⟨oc4,od4,.func (PySem.W.fnOf "vet_bars" "vet_bars" (defArgs s_vet_bars) (defBody s_vet_bars) (defScope s_vet_bars) .none kV4 dc4 pm4 an4 cd4 ct4),sl4⟩) (c4:PySem.W.codeIn K cd4 "vet_bars"=true) (k4:PySem.W.keepIn K (.ref f4)=true)
  (a5:PySem.W.nsIn K mainGlobals "width_of"=some (some (.ref f5))) (l5:K.lookup f5=some ⟨oc5,od5,.func (PySem.W.fnOf "width_of" "width_of" (defArgs s_width_of) (defBody s_width_of) (defScope s_width_of) .none kV5 dc5 pm5 an5 cd5 ct5),sl5⟩) (c5:PySem.W.codeIn K cd5 "width_of"=true) (k5:PySem.W.keepIn K (.ref f5)=true)
  (a6:PySem.W.nsIn K mainGlobals "words_of"=some (some (.ref f6))) (l6:K.lookup f6=some ⟨oc6,od6,.func (PySem.W.fnOf "words_of" "words_of" (defArgs s_words_of) (defBody s_words_of) (defScope s_words_of) .none kV6 dc6 pm6 an6 cd6 ct6),sl6⟩) (c6:PySem.W.codeIn K cd6 "words_of"=true) (k6:PySem.W.keepIn K (.ref f6)=true)
  (a7:PySem.W.nsIn K mainGlobals "is_free"=some (some (.ref f7))) (l7:K.lookup f7=some ⟨oc7,od7,.func (PySem.W.fnOf "is_free" "is_free" (defArgs s_is_free) (defBody s_is_free) (defScope s_is_free) .none kV7 dc7 pm7 an7 cd7 ct7),sl7⟩) (c7:PySem.W.codeIn K cd7 "is_free"=true) (k7:PySem.W.keepIn K (.ref f7)=true)
  (a8:PySem.W.nsIn K mainGlobals "goes_on_both_ways"=some (some (.ref f8))) (l8:K.lookup f8=some ⟨oc8,od8,.func (PySem.W.fnOf "goes_on_both_ways" "goes_on_both_ways" (defArgs s_goes_on_both_ways) (defBody s_goes_on_both_ways) (defScope s_goes_on_both_ways) .none kV8 dc8 pm8 an8 cd8 ct8),sl8⟩) (c8:PySem.W.codeIn K cd8 "goes_on_both_ways"=true) (k8:PySem.W.keepIn K (.ref f8)=true)
  (a9:PySem.W.nsIn K mainGlobals "windows_of"=some (some (.ref f9))) (l9:K.lookup f9=some ⟨oc9,od9,.func (PySem.W.fnOf "windows_of" "windows_of" (defArgs s_windows_of) (defBody s_windows_of) (defScope s_windows_of) .none kV9 dc9 pm9 an9 cd9 ct9),sl9⟩) (c9:PySem.W.codeIn K cd9 "windows_of"=true) (k9:PySem.W.keepIn K (.ref f9)=true)
  (a10:PySem.W.nsIn K mainGlobals "stands_by"=some (some (.ref f10))) (l10:K.lookup f10=some ⟨oc10,od10,.func (PySem.W.fnOf "stands_by" "stands_by" (defArgs s_stands_by) (defBody s_stands_by) (defScope s_stands_by) .none kV10 dc10 pm10 an10 cd10 ct10),sl10⟩) (c10:PySem.W.codeIn K cd10 "stands_by"=true) (k10:PySem.W.keepIn K (.ref f10)=true)
  (a11:PySem.W.nsIn K mainGlobals "stands"=some (some (.ref f11))) (l11:K.lookup f11=some ⟨oc11,od11,.func (PySem.W.fnOf "stands" "stands" (defArgs s_stands) (defBody s_stands) (defScope s_stands) .none kV11 dc11 pm11 an11 cd11 ct11),sl11⟩) (c11:PySem.W.codeIn K cd11 "stands"=true) (k11:PySem.W.keepIn K (.ref f11)=true)
  (a12:PySem.W.nsIn K mainGlobals "_law_cell_at"=some (some (.ref f12))) (l12:K.lookup f12=some ⟨oc12,od12,.func (PySem.W.fnOf "_law_cell_at" "_law_cell_at" (defArgs s_l_cell_at) (defBody s_l_cell_at) (defScope s_l_cell_at) .none kV12 dc12 pm12 an12 cd12 ct12),sl12⟩) (c12:PySem.W.codeIn K cd12 "_law_cell_at"=true) (k12:PySem.W.keepIn K (.ref f12)=true)
  (a13:PySem.W.nsIn K mainGlobals "_law_big"=some (some (.ref f13))) (l13:K.lookup f13=some ⟨oc13,od13,.func (PySem.W.fnOf "_law_big" "_law_big" (defArgs s_l_big) (defBody s_l_big) (defScope s_l_big) .none kV13 dc13 pm13 an13 cd13 ct13),sl13⟩) (c13:PySem.W.codeIn K cd13 "_law_big"=true) (k13:PySem.W.keepIn K (.ref f13)=true)
  (a14:PySem.W.nsIn K mainGlobals "_law_word"=some (some (.ref f14))) (l14:K.lookup f14=some ⟨oc14,od14,.func (PySem.W.fnOf "_law_word" "_law_word" (defArgs s_l_word) (defBody s_l_word) (defScope s_l_word) .none kV14 dc14 pm14 an14 cd14 ct14),sl14⟩) (c14:PySem.W.codeIn K cd14 "_law_word"=true) (k14:PySem.W.keepIn K (.ref f14)=true)
  (a15:PySem.W.nsIn K mainGlobals "_law_bars"=some (some (.ref f15))) (l15:K.lookup f15=some ⟨oc15,od15,.func (PySem.W.fnOf "_law_bars" "_law_bars" (defArgs s_l_bars) (defBody s_l_bars) (defScope s_l_bars) .none kV15 dc15 pm15 an15 cd15 ct15),sl15⟩) (c15:PySem.W.codeIn K cd15 "_law_bars"=true) (k15:PySem.W.keepIn K (.ref f15)=true)
  (a16:PySem.W.nsIn K mainGlobals "_law_bad"=some (some (.ref f16))) (l16:K.lookup f16=some ⟨oc16,od16,.func (PySem.W.fnOf "_law_bad" "_law_bad" (defArgs s_l_bad) (defBody s_l_bad) (defScope s_l_bad) .none kV16 dc16 pm16 an16 cd16 ct16),sl16⟩) (c16:PySem.W.codeIn K cd16 "_law_bad"=true) (k16:PySem.W.keepIn K (.ref f16)=true)
  (a17:PySem.W.nsIn K mainGlobals "_law_width"=some (some (.ref f17))) (l17:K.lookup f17=some ⟨oc17,od17,.func (PySem.W.fnOf "_law_width" "_law_width" (defArgs s_l_width) (defBody s_l_width) (defScope s_l_width) .none kV17 dc17 pm17 an17 cd17 ct17),sl17⟩) (c17:PySem.W.codeIn K cd17 "_law_width"=true) (k17:PySem.W.keepIn K (.ref f17)=true)
  (a18:PySem.W.nsIn K mainGlobals "_law_free"=some (some (.ref f18))) (l18:K.lookup f18=some ⟨oc18,od18,.func (PySem.W.fnOf "_law_free" "_law_free" (defArgs s_l_free) (defBody s_l_free) (defScope s_l_free) .none kV18 dc18 pm18 an18 cd18 ct18),sl18⟩) (c18:PySem.W.codeIn K cd18 "_law_free"=true) (k18:PySem.W.keepIn K (.ref f18)=true)
  (a19:PySem.W.nsIn K mainGlobals "_law_words"=some (some (.ref f19))) (l19:K.lookup f19=some ⟨oc19,od19,.func (PySem.W.fnOf "_law_words" "_law_words" (defArgs s_l_words) (defBody s_l_words) (defScope s_l_words) .none kV19 dc19 pm19 an19 cd19 ct19),sl19⟩) (c19:PySem.W.codeIn K cd19 "_law_words"=true) (k19:PySem.W.keepIn K (.ref f19)=true)
  (a20:PySem.W.nsIn K mainGlobals "_law_lasting"=some (some (.ref f20))) (l20:K.lookup f20=some ⟨oc20,od20,.func (PySem.W.fnOf "_law_lasting" "_law_lasting" (defArgs s_l_lasting) (defBody s_l_lasting) (defScope s_l_lasting) .none kV20 dc20 pm20 an20 cd20 ct20),sl20⟩) (c20:PySem.W.codeIn K cd20 "_law_lasting"=true) (k20:PySem.W.keepIn K (.ref f20)=true)
  (a21:PySem.W.nsIn K mainGlobals "_law_world"=some (some (.ref f21))) (l21:K.lookup f21=some ⟨oc21,od21,.func (PySem.W.fnOf "_law_world" "_law_world" (defArgs s_l_world) (defBody s_l_world) (defScope s_l_world) .none kV21 dc21 pm21 an21 cd21 ct21),sl21⟩) (c21:PySem.W.codeIn K cd21 "_law_world"=true) (k21:PySem.W.keepIn K (.ref f21)=true)
  (a22:PySem.W.nsIn K mainGlobals "_law_windows"=some (some (.ref f22))) (l22:K.lookup f22=some ⟨oc22,od22,.func (PySem.W.fnOf "_law_windows" "_law_windows" (defArgs s_l_windows) (defBody s_l_windows) (defScope s_l_windows) .none kV22 dc22 pm22 an22 cd22 ct22),sl22⟩) (c22:PySem.W.codeIn K cd22 "_law_windows"=true) (k22:PySem.W.keepIn K (.ref f22)=true)
  (a23:PySem.W.nsIn K mainGlobals "_law_stands"=some (some (.ref f23))) (l23:K.lookup f23=some ⟨oc23,od23,.func (PySem.W.fnOf "_law_stands" "_law_stands" (defArgs s_l_stands) (defBody s_l_stands) (defScope s_l_stands) .none kV23 dc23 pm23 an23 cd23 ct23),sl23⟩) (c23:PySem.W.codeIn K cd23 "_law_stands"=true) (k23:PySem.W.keepIn K (.ref f23)=true)
  (a24:PySem.W.nsIn K mainGlobals "_law_class"=some (some (.ref f24))) (l24:K.lookup f24=some ⟨oc24,od24,.func (PySem.W.fnOf "_law_class" "_law_class" (defArgs s_l_class) (defBody s_l_class) (defScope s_l_class) .none kV24 dc24 pm24 an24 cd24 ct24),sl24⟩) (c24:PySem.W.codeIn K cd24 "_law_class"=true) (k24:PySem.W.keepIn K (.ref f24)=true)
  (a25:PySem.W.nsIn K mainGlobals "_law_gone"=some (some (.ref f25))) (l25:K.lookup f25=some ⟨oc25,od25,.func (PySem.W.fnOf "_law_gone" "_law_gone" (defArgs s_l_gone) (defBody s_l_gone) (defScope s_l_gone) .none kV25 dc25 pm25 an25 cd25 ct25),sl25⟩) (c25:PySem.W.codeIn K cd25 "_law_gone"=true) (k25:PySem.W.keepIn K (.ref f25)=true)
  (a26:PySem.W.nsIn K mainGlobals "_law_drawn_words"=some (some (.ref f26))) (l26:K.lookup f26=some ⟨oc26,od26,.func (PySem.W.fnOf "_law_drawn_words" "_law_drawn_words" (defArgs s_l_drawn_words) (defBody s_l_drawn_words) (defScope s_l_drawn_words) .none kV26 dc26 pm26 an26 cd26 ct26),sl26⟩) (c26:PySem.W.codeIn K cd26 "_law_drawn_words"=true) (k26:PySem.W.keepIn K (.ref f26)=true)
  (a27:PySem.W.nsIn K mainGlobals "_law_told"=some (some (.ref f27))) (l27:K.lookup f27=some ⟨oc27,od27,.func (PySem.W.fnOf "_law_told" "_law_told" (defArgs s_l_told) (defBody s_l_told) (defScope s_l_told) .none kV27 dc27 pm27 an27 cd27 ct27),sl27⟩) (c27:PySem.W.codeIn K cd27 "_law_told"=true) (k27:PySem.W.keepIn K (.ref f27)=true)
  (a28:PySem.W.nsIn K mainGlobals "_law_right"=some (some (.ref f28))) (l28:K.lookup f28=some ⟨oc28,od28,.func (PySem.W.fnOf "_law_right" "_law_right" (defArgs s_l_right) (defBody s_l_right) (defScope s_l_right) .none kV28 dc28 pm28 an28 cd28 ct28),sl28⟩) (c28:PySem.W.codeIn K cd28 "_law_right"=true) (k28:PySem.W.keepIn K (.ref f28)=true)
  (a29:PySem.W.nsIn K mainGlobals "law"=some (some (.ref f29))) (l29:K.lookup f29=some ⟨oc29,od29,.func (PySem.W.fnOf "law" "law" (defArgs s_law) (defBody s_law) (defScope s_law) .none kV29 dc29 pm29 an29 cd29 ct29),sl29⟩) (c29:PySem.W.codeIn K cd29 "law"=true) (k29:PySem.W.keepIn K (.ref f29)=true)
  {cG cT cA cN3 cWd cRd cE0:Addr} {t_FEWEST_SIGNS:Nat} {t_MOST_BARS:Nat} {t_LONGEST_BAR:Nat} {t_MOST_WORDS:Nat} {a_SIGNS:Addr}
  (x_NoGrid:PySem.W.nsIn K mainGlobals "NoGrid"=some (some (.ref cG))) (y_NoGrid:PySem.W.excIn K cG bmV "ValueError.__new__"=true) (x_NoTable:PySem.W.nsIn K mainGlobals "NoTable"=some (some (.ref cT))) (y_NoTable:PySem.W.excIn K cT bmV "ValueError.__new__"=true) (x_NoBars:PySem.W.nsIn K mainGlobals "NoBars"=some (some (.ref cA))) (y_NoBars:PySem.W.excIn K cA bmV "ValueError.__new__"=true) (x_TooMany:PySem.W.nsIn K mainGlobals "TooMany"=some (some (.ref cN3))) (y_TooMany:PySem.W.excIn K cN3 bmV "ValueError.__new__"=true) (x_NoWord:PySem.W.nsIn K mainGlobals "NoWord"=some (some (.ref cWd))) (y_NoWord:PySem.W.excIn K cWd bmV "ValueError.__new__"=true) (x_NoReader:PySem.W.nsIn K mainGlobals "NoReader"=some (some (.ref cRd))) (y_NoReader:PySem.W.excIn K cRd bmV "ValueError.__new__"=true) (x_RowError:PySem.W.nsIn K mainGlobals "RowError"=some (some (.ref cE0))) (y_RowError:PySem.W.excIn K cE0 bmV "ValueError.__new__"=true) (u_fitA:PySem.W.kitCls K (.ref cA) (.ref cE0)=some true) (v_fitA:PySem.W.subIn K (.ref cE0) (.type "BaseException")=some true) (u_fitN:PySem.W.kitCls K (.ref cN3) (.ref cE0)=some true) (v_fitN:PySem.W.subIn K (.ref cE0) (.type "BaseException")=some true) (i_gaNoBars:PySem.W.findIn K (.ref cA) "__getattribute__"=some (some (.builtin "BaseException.__getattribute__"))) (i_clNoBars:PySem.W.findIn K (.ref cA) "__class__"=some (some (.builtin "object.__class__"))) (i_ggNoBars:PySem.W.findIn K (.ref cA) "__getattr__"=some none) (i_obNoBars:PySem.W.subIn K (.ref cA) (.type "object")=some true) (i_beNoBars:PySem.W.subIn K (.ref cA) (.type "BaseException")=some true) (i_seNoBars:PySem.W.kitCls K (.ref cA) (.ref cA)=some true) (i_gaTooMany:PySem.W.findIn K (.ref cN3) "__getattribute__"=some (some (.builtin "BaseException.__getattribute__"))) (i_clTooMany:PySem.W.findIn K (.ref cN3) "__class__"=some (some (.builtin "object.__class__"))) (i_ggTooMany:PySem.W.findIn K (.ref cN3) "__getattr__"=some none) (i_obTooMany:PySem.W.subIn K (.ref cN3) (.type "object")=some true) (i_beTooMany:PySem.W.subIn K (.ref cN3) (.type "BaseException")=some true) (i_seTooMany:PySem.W.kitCls K (.ref cN3) (.ref cN3)=some true) (i_a:PySem.W.kitOne K (.ref cA) (.ref cG)=some false) (i_b:PySem.W.kitOne K (.ref cA) (.ref cT)=some false) (i_c:PySem.W.kitOne K (.ref cA) (.ref cWd)=some false) (i_d:PySem.W.kitOne K (.ref cA) (.ref cRd)=some false) (i_e:PySem.W.kitOne K (.ref cA) (.type "ValueError")=some true) (i_f:PySem.W.kitOne K (.ref cA) (.ref cN3)=some false) (i_g:PySem.W.kitOne K (.ref cA) (.ref cA)=some true) (i_h:PySem.W.kitOne K (.ref cN3) (.ref cG)=some false) (i_i:PySem.W.kitOne K (.ref cN3) (.ref cT)=some false) (i_j:PySem.W.kitOne K (.ref cN3) (.ref cWd)=some false) (i_k:PySem.W.kitOne K (.ref cN3) (.ref cRd)=some false) (i_l:PySem.W.kitOne K (.ref cN3) (.type "ValueError")=some true) (i_m:PySem.W.kitOne K (.ref cN3) (.ref cN3)=some true) (i_n:PySem.W.kitOne K (.ref cN3) (.ref cA)=some false) (g_FEWEST_SIGNS:PySem.W.nsIn K mainGlobals "FEWEST_SIGNS"=some (some (.int 2 t_FEWEST_SIGNS))) (g_MOST_BARS:PySem.W.nsIn K mainGlobals "MOST_BARS"=some (some (.int 12 t_MOST_BARS))) (g_LONGEST_BAR:PySem.W.nsIn K mainGlobals "LONGEST_BAR"=some (some (.int 6 t_LONGEST_BAR))) (g_MOST_WORDS:PySem.W.nsIn K mainGlobals "MOST_WORDS"=some (some (.int 128 t_MOST_WORDS))) (g_SIGNS:PySem.W.nsIn K mainGlobals "SIGNS"=some (some (.ref a_SIGNS))) (i_sSIGNS:tupIn K a_SIGNS=some [.str "a",.str "b",.str "c",.str "d"])
  (z_len:PySem.W.nsIn K mainGlobals "len"=some none) (z_range:PySem.W.nsIn K mainGlobals "range"=some none) (z_list:PySem.W.nsIn K mainGlobals "list"=some none) (z_int:PySem.W.nsIn K mainGlobals "int"=some none) (z_bool:PySem.W.nsIn K mainGlobals "bool"=some none) (z_isinstance:PySem.W.nsIn K mainGlobals "isinstance"=some none) (z_any:PySem.W.nsIn K mainGlobals "any"=some none) (z_all:PySem.W.nsIn K mainGlobals "all"=some none) (z_sorted:PySem.W.nsIn K mainGlobals "sorted"=some none) (z_max:PySem.W.nsIn K mainGlobals "max"=some none) (z_ValueError:PySem.W.nsIn K mainGlobals "ValueError"=some none) :
  ∃ fd:FuncData,(∀ (s:Shared) (v:Value),BindsTo s fd ⟨[v],[]⟩ [("_law_script",v)])/\∀ base:Heap,K.In base->base.Ns mainGlobals mg->FnOk l.prog w K mg base CX0 9 fa fd ["_law_script"] (sp_lawH K):=by
 have e:=hfa.symm.trans (PySem.W.mg_of X G a29)
 cases e
 have T:Blt mg:=⟨PySem.W.mg_none_of X G z_len,PySem.W.mg_none_of X G z_range,PySem.W.mg_none_of X G z_list,PySem.W.mg_none_of X G z_int,PySem.W.mg_none_of X G z_bool,PySem.W.mg_none_of X G z_isinstance,PySem.W.mg_none_of X G z_any,PySem.W.mg_none_of X G z_all,PySem.W.mg_none_of X G z_sorted,PySem.W.mg_none_of X G z_max,PySem.W.mg_none_of X G z_ValueError⟩
 have F1:=fun_mk (st:=s_is_whole) l1 c1 k1
 have b1:=F1.binds (ps:=["thing"]) fun _ _ _ _ _ _ us hl=>by obtain ⟨_,e⟩:=len1 us hl;subst e;rfl
 have F2:=fun_mk (st:=s_plain_width) l2 c2 k2
 have b2:=F2.binds (ps:=["bars"]) fun _ _ _ _ _ _ us hl=>by obtain ⟨_,e⟩:=len1 us hl;subst e;rfl
 have F3:=fun_mk (st:=s_require_bars) l3 c3 k3
 have b3:=F3.binds (ps:=["signs","bars"]) fun _ _ _ _ _ _ us hl=>by obtain ⟨_,_,e⟩:=len2 us hl;subst e;rfl
 have F4:=fun_mk (st:=s_vet_bars) l4 c4 k4
 have b4:=F4.binds (ps:=["signs","bars"]) fun _ _ _ _ _ _ us hl=>by obtain ⟨_,_,e⟩:=len2 us hl;subst e;rfl
 have F5:=fun_mk (st:=s_width_of) l5 c5 k5
 have b5:=F5.binds (ps:=["signs","bars"]) fun _ _ _ _ _ _ us hl=>by obtain ⟨_,_,e⟩:=len2 us hl;subst e;rfl
 have F6:=fun_mk (st:=s_words_of) l6 c6 k6
 have b6:=F6.binds (ps:=["signs","width"]) fun _ _ _ _ _ _ us hl=>by obtain ⟨_,_,e⟩:=len2 us hl;subst e;rfl
 have F7:=fun_mk (st:=s_is_free) l7 c7 k7
 have b7:=F7.binds (ps:=["word","bars"]) fun _ _ _ _ _ _ us hl=>by obtain ⟨_,_,e⟩:=len2 us hl;subst e;rfl
 have F8:=fun_mk (st:=s_goes_on_both_ways) l8 c8 k8
 have b8:=F8.binds (ps:=["signs","bars","kept","word"]) fun _ _ _ _ _ _ us hl=>by obtain ⟨_,_,_,_,e⟩:=len4 us hl;subst e;rfl
 have F9:=fun_mk (st:=s_windows_of) l9 c9 k9
 have b9:=F9.binds (ps:=["signs","bars"]) fun _ _ _ _ _ _ us hl=>by obtain ⟨_,_,e⟩:=len2 us hl;subst e;rfl
 have F10:=fun_mk (st:=s_stands_by) l10 c10 k10
 have b10:=F10.binds (ps:=["windows","bars","word"]) fun _ _ _ _ _ _ us hl=>by obtain ⟨_,_,_,e⟩:=len3 us hl;subst e;rfl
 have F11:=fun_mk (st:=s_stands) l11 c11 k11
 have b11:=F11.binds (ps:=["signs","bars","word"]) fun _ _ _ _ _ _ us hl=>by obtain ⟨_,_,_,e⟩:=len3 us hl;subst e;rfl
 have F12:=fun_mk (st:=s_l_cell_at) l12 c12 k12
 have b12:=F12.binds (ps:=["_law_script","_law_k"]) fun _ _ _ _ _ _ us hl=>by obtain ⟨_,_,e⟩:=len2 us hl;subst e;rfl
 have F13:=fun_mk (st:=s_l_big) l13 c13 k13
 have b13:=F13.binds (ps:=["_law_script","_law_at"]) fun _ _ _ _ _ _ us hl=>by obtain ⟨_,_,e⟩:=len2 us hl;subst e;rfl
 have F14:=fun_mk (st:=s_l_word) l14 c14 k14
 have b14:=F14.binds (ps:=["_law_big_here","_law_letters","_law_many"]) fun _ _ _ _ _ _ us hl=>by obtain ⟨_,_,_,e⟩:=len3 us hl;subst e;rfl
 have F15:=fun_mk (st:=s_l_bars) l15 c15 k15
 have b15:=F15.binds (ps:=["_law_big_here"]) fun _ _ _ _ _ _ us hl=>by obtain ⟨_,e⟩:=len1 us hl;subst e;rfl
 have F16:=fun_mk (st:=s_l_bad) l16 c16 k16
 have b16:=F16.binds (ps:=["_law_big_here"]) fun _ _ _ _ _ _ us hl=>by obtain ⟨_,e⟩:=len1 us hl;subst e;rfl
 have F17:=fun_mk (st:=s_l_width) l17 c17 k17
 have b17:=F17.binds (ps:=["_law_bars_here"]) fun _ _ _ _ _ _ us hl=>by obtain ⟨_,e⟩:=len1 us hl;subst e;rfl
 have F18:=fun_mk (st:=s_l_free) l18 c18 k18
 have b18:=F18.binds (ps:=["_law_word_here","_law_bars_here"]) fun _ _ _ _ _ _ us hl=>by obtain ⟨_,_,e⟩:=len2 us hl;subst e;rfl
 have F19:=fun_mk (st:=s_l_words) l19 c19 k19
 have b19:=F19.binds (ps:=["_law_letters","_law_size"]) fun _ _ _ _ _ _ us hl=>by obtain ⟨_,_,e⟩:=len2 us hl;subst e;rfl
 have F20:=fun_mk (st:=s_l_lasting) l20 c20 k20
 have b20:=F20.binds (ps:=["_law_steps","_law_side"]) fun _ _ _ _ _ _ us hl=>by obtain ⟨_,_,e⟩:=len2 us hl;subst e;rfl
 have F21:=fun_mk (st:=s_l_world) l21 c21 k21
 have b21:=F21.binds (ps:=["_law_signs","_law_bars_here"]) fun _ _ _ _ _ _ us hl=>by obtain ⟨_,_,e⟩:=len2 us hl;subst e;rfl
 have F22:=fun_mk (st:=s_l_windows) l22 c22 k22
 have b22:=F22.binds (ps:=["_law_world_here"]) fun _ _ _ _ _ _ us hl=>by obtain ⟨_,e⟩:=len1 us hl;subst e;rfl
 have F23:=fun_mk (st:=s_l_stands) l23 c23 k23
 have b23:=F23.binds (ps:=["_law_bars_here","_law_world_here","_law_word_here"]) fun _ _ _ _ _ _ us hl=>by obtain ⟨_,_,_,e⟩:=len3 us hl;subst e;rfl
 have F24:=fun_mk (st:=s_l_class) l24 c24 k24
 have b24:=F24.binds (ps:=["_law_e"]) fun _ _ _ _ _ _ us hl=>by obtain ⟨_,e⟩:=len1 us hl;subst e;rfl
 have F25:=fun_mk (st:=s_l_gone) l25 c25 k25
 have b25:=F25.binds (ps:=["_law_bars_here","_law_world_here","_law_letters","_law_big_here"]) fun _ _ _ _ _ _ us hl=>by obtain ⟨_,_,_,_,e⟩:=len4 us hl;subst e;rfl
 have F26:=fun_mk (st:=s_l_drawn_words) l26 c26 k26
 have b26:=F26.binds (ps:=["_law_signs","_law_bars_here","_law_world_here","_law_big_here"]) fun _ _ _ _ _ _ us hl=>by obtain ⟨_,_,_,_,e⟩:=len4 us hl;subst e;rfl
 have F27:=fun_mk (st:=s_l_told) l27 c27 k27
 have b27:=F27.binds (ps:=["_law_signs","_law_bars_here","_law_word_here"]) fun _ _ _ _ _ _ us hl=>by obtain ⟨_,_,_,e⟩:=len3 us hl;subst e;rfl
 have F28:=fun_mk (st:=s_l_right) l28 c28 k28
 have b28:=F28.binds (ps:=["_law_signs","_law_bars_here","_law_world_here","_law_word_here"]) fun _ _ _ _ _ _ us hl=>by obtain ⟨_,_,_,_,e⟩:=len4 us hl;subst e;rfl
 have F29:=fun_mk (st:=s_law) l29 c29 k29
 refine ⟨PySem.W.fnOf "law" "law" (defArgs s_law) (defBody s_law) (defScope s_law) .none kV29 dc29 pm29 an29 cd29 ct29,fun s v=>.of_eq rfl,fun base _ _=>?_⟩
 have C_NoGrid:ExC K mg "NoGrid" cG:=⟨PySem.W.mg_of X G x_NoGrid,y_NoGrid⟩
 have C_NoTable:ExC K mg "NoTable" cT:=⟨PySem.W.mg_of X G x_NoTable,y_NoTable⟩
 have C_NoBars:ExC K mg "NoBars" cA:=⟨PySem.W.mg_of X G x_NoBars,y_NoBars⟩
 have C_TooMany:ExC K mg "TooMany" cN3:=⟨PySem.W.mg_of X G x_TooMany,y_TooMany⟩
 have C_NoWord:ExC K mg "NoWord" cWd:=⟨PySem.W.mg_of X G x_NoWord,y_NoWord⟩
 have C_NoReader:ExC K mg "NoReader" cRd:=⟨PySem.W.mg_of X G x_NoReader,y_NoReader⟩
 have C_RowError:ExC K mg "RowError" cE0:=⟨PySem.W.mg_of X G x_RowError,y_RowError⟩
 have fitA:Fits K cA cE0:=⟨u_fitA,v_fitA⟩
 have fitN:Fits K cN3 cE0:=⟨u_fitN,v_fitN⟩
 have fitK_NoBars:ExK K cA:=⟨i_gaNoBars,i_clNoBars,i_ggNoBars,i_obNoBars,i_beNoBars,i_seNoBars⟩
 have fitK_TooMany:ExK K cN3:=⟨i_gaTooMany,i_clTooMany,i_ggTooMany,i_obTooMany,i_beTooMany,i_seTooMany⟩
 have G_FEWEST_SIGNS:DL.GInt mg "FEWEST_SIGNS" 2:=⟨_,PySem.W.mg_of X G g_FEWEST_SIGNS⟩
 have G_MOST_BARS:DL.GInt mg "MOST_BARS" 12:=⟨_,PySem.W.mg_of X G g_MOST_BARS⟩
 have G_LONGEST_BAR:DL.GInt mg "LONGEST_BAR" 6:=⟨_,PySem.W.mg_of X G g_LONGEST_BAR⟩
 have G_MOST_WORDS:DL.GInt mg "MOST_WORDS" 128:=⟨_,PySem.W.mg_of X G g_MOST_WORDS⟩
 have G_SIGNS:DL.GTup K mg "SIGNS" [.str "a",.str "b",.str "c",.str "d"]:=gtup_in (PySem.W.mg_of X G g_SIGNS) i_sSIGNS
 have D_is_whole:Df l.prog w K mg base "is_whole" ["thing"] 1 (DL.SpL K sp_whole):=⟨_,_,ok_is_whole F1 T ,PySem.W.mg_of X G a1,k1,b1⟩
 have D_plain_width:Df l.prog w K mg base "plain_width" ["bars"] 1 (DL.SpL K sp_pw):=⟨_,_,ok_plain_width F2 T ,PySem.W.mg_of X G a2,k2,b2⟩
 have D_require_bars:DfE l.prog w K mg base "require_bars" ["signs","bars"] 2 (DL.SpL K (sp_req cA)):=⟨_,_,ok_require_bars F3 T C_NoBars G_SIGNS G_FEWEST_SIGNS G_MOST_BARS G_LONGEST_BAR D_is_whole,PySem.W.mg_of X G a3,k3,b3⟩
 have D_vet_bars:DfE l.prog w K mg base "vet_bars" ["signs","bars"] 3 (DL.SpL K (sp_vet cA cN3)):=⟨_,_,ok_vet_bars F4 T C_TooMany G_MOST_WORDS D_require_bars D_plain_width,PySem.W.mg_of X G a4,k4,b4⟩
 have D_width_of:DfE l.prog w K mg base "width_of" ["signs","bars"] 4 (DL.SpL K (sp_wof cA cN3)):=⟨_,_,ok_width_of F5 T D_vet_bars D_plain_width,PySem.W.mg_of X G a5,k5,b5⟩
 have D_words_of:Df l.prog w K mg base "words_of" ["signs","width"] 1 (DL.SpL K sp_words):=⟨_,_,ok_words_of F6 T G_SIGNS,PySem.W.mg_of X G a6,k6,b6⟩
 have D_is_free:Df l.prog w K mg base "is_free" ["word","bars"] 1 (DL.SpL K sp_free):=⟨_,_,ok_is_free F7 T ,PySem.W.mg_of X G a7,k7,b7⟩
 have D_goes_on_both_ways:Df l.prog w K mg base "goes_on_both_ways" ["signs","bars","kept","word"] 2 (DL.SpL K sp_gb):=⟨_,_,ok_goes_on_both_ways F8 T G_SIGNS D_is_free,PySem.W.mg_of X G a8,k8,b8⟩
 have D_windows_of:DfE l.prog w K mg base "windows_of" ["signs","bars"] 5 (DL.SpL K (sp_win cA cN3)):=⟨_,_,ok_windows_of F9 T D_width_of D_words_of D_is_free D_goes_on_both_ways,PySem.W.mg_of X G a9,k9,b9⟩
 have D_stands_by:Df l.prog w K mg base "stands_by" ["windows","bars","word"] 2 (DL.SpL K sp_by):=⟨_,_,ok_stands_by F10 T D_is_free,PySem.W.mg_of X G a10,k10,b10⟩
 have D_stands:DfE l.prog w K mg base "stands" ["signs","bars","word"] 6 (DL.SpL K (sp_st cA cN3)):=⟨_,_,ok_stands F11 T D_windows_of D_stands_by,PySem.W.mg_of X G a11,k11,b11⟩
 have D_l_cell_at:Df l.prog w K mg base "_law_cell_at" ["_law_script","_law_k"] 1 (DL.SpL K sp_cell):=⟨_,_,ok_l_cell_at F12 T ,PySem.W.mg_of X G a12,k12,b12⟩
 have D_l_big:Df l.prog w K mg base "_law_big" ["_law_script","_law_at"] 2 (DL.SpL K sp_big):=⟨_,_,ok_l_big F13 T D_l_cell_at,PySem.W.mg_of X G a13,k13,b13⟩
 have D_l_word:Df l.prog w K mg base "_law_word" ["_law_big_here","_law_letters","_law_many"] 1 (DL.SpL K sp_word):=⟨_,_,ok_l_word F14 T ,PySem.W.mg_of X G a14,k14,b14⟩
 have D_l_bars:Df l.prog w K mg base "_law_bars" ["_law_big_here"] 2 (DL.SpL K sp_bars):=⟨_,_,ok_l_bars F15 T D_l_word,PySem.W.mg_of X G a15,k15,b15⟩
 have D_l_bad:Df l.prog w K mg base "_law_bad" ["_law_big_here"] 2 (DL.SpL K sp_bad):=⟨_,_,ok_l_bad F16 T D_l_word,PySem.W.mg_of X G a16,k16,b16⟩
 have D_l_width:Df l.prog w K mg base "_law_width" ["_law_bars_here"] 1 (DL.SpL K sp_width):=⟨_,_,ok_l_width F17 T ,PySem.W.mg_of X G a17,k17,b17⟩
 have D_l_free:Df l.prog w K mg base "_law_free" ["_law_word_here","_law_bars_here"] 1 (DL.SpL K sp_free):=⟨_,_,ok_l_free F18 T ,PySem.W.mg_of X G a18,k18,b18⟩
 have D_l_words:Df l.prog w K mg base "_law_words" ["_law_letters","_law_size"] 1 (DL.SpL K sp_lwords):=⟨_,_,ok_l_words F19 T ,PySem.W.mg_of X G a19,k19,b19⟩
 have D_l_lasting:Df l.prog w K mg base "_law_lasting" ["_law_steps","_law_side"] 1 (DL.SpL K sp_last):=⟨_,_,ok_l_lasting F20 T ,PySem.W.mg_of X G a20,k20,b20⟩
 have D_l_world:Df l.prog w K mg base "_law_world" ["_law_signs","_law_bars_here"] 2 (DL.SpL K sp_world):=⟨_,_,ok_l_world F21 T D_l_words D_l_width D_l_free D_l_lasting,PySem.W.mg_of X G a21,k21,b21⟩
 have D_l_windows:Df l.prog w K mg base "_law_windows" ["_law_world_here"] 1 (DL.SpL K sp_lwin):=⟨_,_,ok_l_windows F22 T ,PySem.W.mg_of X G a22,k22,b22⟩
 have D_l_stands:Df l.prog w K mg base "_law_stands" ["_law_bars_here","_law_world_here","_law_word_here"] 2 (DL.SpL K sp_ls):=⟨_,_,ok_l_stands F23 T D_l_width D_l_windows D_l_free,PySem.W.mg_of X G a23,k23,b23⟩
 have D_l_class:DL.DfX l.prog w K mg base "_law_class" "_law_e" 1 (sx_class K cG cT cWd cRd cN3 cA):=⟨_,_,ok_l_class F24 T C_NoGrid C_NoTable C_NoWord C_NoReader C_TooMany C_NoBars,PySem.W.mg_of X G a24,k24,b24⟩
 have D_l_gone:Df l.prog w K mg base "_law_gone" ["_law_bars_here","_law_world_here","_law_letters","_law_big_here"] 3 (DL.SpL K sp_gone):=⟨_,_,ok_l_gone F25 T D_l_windows D_l_stands,PySem.W.mg_of X G a25,k25,b25⟩
 have D_l_drawn_words:Df l.prog w K mg base "_law_drawn_words" ["_law_signs","_law_bars_here","_law_world_here","_law_big_here"] 4 (DL.SpL K sp_drawn):=⟨_,_,ok_l_drawn_words F26 T D_l_word D_l_gone,PySem.W.mg_of X G a26,k26,b26⟩
 have D_l_told:Df l.prog w K mg base "_law_told" ["_law_signs","_law_bars_here","_law_word_here"] 7 (DL.SpL K sp_told):=⟨_,_,ok_l_toldF F27 T C_RowError C_NoBars C_TooMany fitA fitN fitK_NoBars fitK_TooMany i_a i_b i_c i_d i_e i_f i_g i_h i_i i_j i_k i_l i_m i_n D_l_class D_stands,PySem.W.mg_of X G a27,k27,b27⟩
 have D_l_right:Df l.prog w K mg base "_law_right" ["_law_signs","_law_bars_here","_law_world_here","_law_word_here"] 8 (DL.SpL K sp_right):=⟨_,_,ok_l_right F28 T D_l_told D_l_stands,PySem.W.mg_of X G a28,k28,b28⟩
 exact ok_law F29 T D_l_big D_l_bars D_l_world D_l_drawn_words D_l_right D_l_bad D_l_told
theorem walk {l:PySem.W.OpenLaw} {q:Program} {loose:List Str} {XP:(Str->Option Value)->Heap->Prop} {YP:World->Heap->Prop} {d:DefRec} {K:Params->W.Frag} (hn:l.most=some 63) (hdf:d.params.defaults=[]) (hi:importsNone q=true)
  (hY:∀ (w:World) (h:Heap),YP w h->(K w.params).In h)
  (F:∀ (w:World) (mg:Str->Option Value) (fa:Addr) (h:Heap),(K w.params).In h->h.Ns mainGlobals mg->mg d.name=some (.ref fa) ->
   ∃ fd:FuncData,(∀ (s:Shared) (u:Value),BindsTo s fd ⟨[u],[]⟩ [("_law_script",u)])/\∀ base:Heap,(K w.params).In base->base.Ns mainGlobals mg->FnOk l.prog w (K w.params) mg base CX0 9 fa fd ["_law_script"] (sp_lawH (K w.params))) :
  PySem.W.WalkO q loose XP YP l.row.toRowW d [] (fun f vs=>PySem.call f vs) :=
 L2.walk_of (n:=63) (k:=9) (x:="_law_script") (CX:=fun _=>CX0) (sp:=fun w=>sp_lawH (K w.params)) hn (by decide) hdf ⟨rfl,by decide,by decide,rfl⟩ hi hY F (fun _ _ a ns hl _ hS=>⟨a,ns,rfl,hS,fun _=>rfl⟩) fun _ _ _ _ _ z=>z
end K22
namespace PySem.W.Fast
def tw2521310046798687924:=()
def tw11887487610899555434:=()
def tw17508408622564821326:=()
def tw6088249659703717761:=()
def tw15001790075908779854:=()
def tw3022432691375466267:=()
def tw8326117260965868996:=()
def tw14597209847226055533:=()
def tw17805338086081821078:=()
def tw13288348028084019780:=()
def tw8345910301644489963:=()
def tw6435432034405151217:=()
def tw5977734325022583138:=()
def tw14364257281425620362:=()
def tw18317684387744273374:=()
def tw5164890964995884842:=()
def tw2757394427334316855:=()
def tw4291617941977838515:=()
def tw13109379416329469385:=()
def tw14013222890406972722:=()
def tw5894873036969842152:=()
def tw16356758412203866342:=()
def tw4207476196043714009:=()
def tw11676429207005962141:=()
def tw8181387742571716715:=()
def tw2368809106493701363:=()
def tw5529647991544766181:=()
def tw9462990934107937085:=()
def tw7996257049322694055:=()
def tw1836023383905267980:=()
def tw2868607300244247619:=()
def tw13725918819799133901:=()
def tw15763872271139477978:=()
def tw12869376652823290681:=()
def tw7005037335601262570:=()
def tw5596219939459795035:=()
def tw11683069490135559614:=()
def tw2528938906389165826:=()
def tw13394120322965426369:=()
def tw359546082051342640:=()
def tw17448731072260420640:=()
def tw1385043562136044937:=()
def tw2301479847999751878:=()
def tw11525644308870124890:=()
def tw2267568611641388105:=()
def tw14317934881207400817:=()
def tw581259239308884443:=()
def tw11439382278463534286:=()
def tw9610458594910550275:=()
def tw780184215395070846:=()
def tw16201941062375372191:=()
def tw8260720105371864878:=()
def tw7914367074566297167:=()
def tw12219129357422099486:=()
def tw13299333477203130630:=()
def tw7025955628123007301:=()
def tw17151954005261376327:=()
def tw14408463413809806801:=()
def tw9107373694033268997:=()
def tw4917868655403826412:=()
def tw12252491561327255962:=()
def tw4700532125574206465:=()
def tw11391822296299320489:=()
def tw11357044266618265654:=()
def tw4319672908906930179:=()
def tw4472925937469694837:=()
def tw9659332106096588684:=()
def tw16930555848888089065:=()
def tw16902871321658281115:=()
def tw16002263037806449580:=()
def tw4913226184350374820:=()
def tw5426040937155848434:=()
def tw12011808658896090176:=()
def tw16985582849108950747:=()
def tw10512075829743882280:=()
def tw3903092566986790079:=()
def tw13044132142859258940:=()
def tw2726475679564097763:=()
def tw15677735531833017388:=()
def tw6379749809842415607:=()
def tw10394994494697623773:=()
def tw2522027095956226024:=()
def tw18144284856089498805:=()
def tw12338473768991115816:=()
def tw17456045111101629404:=()
def tw15248329568531003946:=()
def tw10628129458845294612:=()
def tw13202149865132042649:=()
def tw2885966875324693146:=()
def tw12478032557791313308:=()
def tw8443490090218935695:=()
def tw6917530060547172930:=()
def tw1010007546851954157:=()
def tw6351312468243881488:=()
def tw6183916156058032886:=()
def tw12470580058332775558:=()
def tw15417600679839014882:=()
def tw10433412239894330745:=()
def tw15295310134432317257:=()
def tw8210073349819093411:=()
def tw15777282563998930045:=()
def tw2628619416749048047:=()
def tw12457423149631325255:=()
def tw16878979863841618422:=()
def tw4037396696961474767:=()
def tw3298962124635684199:=()
def tw12463378304061435616:=()
def tw2083400125641127503:=()
def tw14452878725289785822:=()
def tw9980132714465946876:=()
def tw5227377220186139473:=()
def tw574578178360158089:=()
def tw14081519978671609709:=()
def tw1193192175600464361:=()
def tw6992218706183610042:=()
def tw12754494662496293123:=()
def tw7447819658614598500:=()
def tw3832656983336517446:=()
def tw16366840423718800713:=()
def tw1298849627544332718:=()
def tw10472274613310904103:=()
def tw10344807354101005467:=()
def tw12770868033138030404:=()
def tw15856277151419650698:=()
def tw12172511443991826799:=()
def tw17807120604908111431:=()
def tw15382200288491997828:=()
def tw10618795526929898820:=()
def tw13439676575387058033:=()
def tw17822648408260605863:=()
def tw13318289448899100701:=()
def tw9229135413206990412:=()
def tw5270322258676201208:=()
def tw16779108907642321395:=()
def tw9246580329983651734:=()
def tw12525843525510135151:=()
def tw13286753094679404:=()
def tw10227748504977682697:=()
def tw9348525695654210152:=()
def tw2700382514484794092:=()
def tw13595532656794866034:=()
def tw11498377636205705300:=()
def tw8029631876770376254:=()
def tw9504777561875413650:=()
def tw4832300750660527713:=()
def tw1139166896952343978:=()
def tw11559487989503555583:=()
def tw14333071658888861270:=()
def tw6745418004287948119:=()
def tw15170644758288039062:=()
def tw4754132882849705522:=()
def tw9016413269419185633:=()
def tw11773615594057539647:=()
def tw7203492783610535407:=()
def tw16019963320796755775:=()
def tw17145820966234372003:=()
def tw5088891560288333583:=()
def tw5375103767216415718:=()
def tw2990821325480640391:=()
def tw10998745487837135847:=()
def tw7220495947084774356:=()
def tw2270395984548613469:=()
def tw4119752232522620565:=()
def tw12084991387086841661:=()
def tw9639460616262107556:=()
def tw1286331936240652545:=()
def tw14385695262646021379:=()
def tw5461447385222863409:=()
def tw12617130792172865905:=()
def tw13718743724423848089:=()
def tw17959116072747548390:=()
def tw3269888281367814892:=()
def tw12885935611613239657:=()
def tw3960027453630127881:=()
def tw17788065147988300799:=()
def tw3170746458253352003:=()
def tw1759735492478301949:=()
def tw3734207962422662102:=()
def tw8213271719878096014:=()
def tw10585434889405998931:=()
def tw4956491241782119310:=()
def tw3787406515860633460:=()
def tw3354844812809010863:=()
def tw17305884935231265432:=()
def tw9998160609221696864:=()
def tw4021119976232810601:=()
def tw17647813039106428056:=()
def tw15576725642133917680:=()
def tw14880311768598177543:=()
def tw3076348655692410127:=()
def tw9844933125016058505:=()
def tw12405610874268657102:=()
def tw7137703560839847914:=()
def tw3916496193792617976:=()
def tw6368408192666410540:=()
def tw13260471172279386190:=()
def tw4378696883024071919:=()
def tw391435866679496735:=()
def tw15423195928200556078:=()
def tw10138500571026463462:=()
def tw6867310383304164631:=()
def tw177705524822047865:=()
def tw15905918911356051513:=()
def tw8526133188410989546:=()
def tw7729968151115695080:=()
def tw13996554858250150838:=()
def tw2240803550345265382:=()
def tw7792877714949787927:=()
def tw3086497101478787837:=()
def tw9265355925760553229:=()
def tw4562610232921318663:=()
def tw17923479943645595996:=()
def tw12329374534615413701:=()
def tw263247467180057899:=()
def tw3952701123706886615:=()
def tw10281221059444841219:=()
def tw1041507756107886322:=()
def tw13472166896954931321:=()
def tw9816922082366148225:=()
def tw32939675900155306:=()
def tw6532753251663148373:=()
def tw7414281932681509734:=()
def tw8219789103215325796:=()
def tw11812113173298313482:=()
def tw8664130630718145511:=()
def tw8914783621365038357:=()
def tw13906331159700563674:=()
def tw16708787048617104777:=()
def tw4478947454758148023:=()
def tw6919729302630065466:=()
def tw12260539027768237670:=()
def tw3396298426969967331:=()
def tw671424116080495556:=()
def tw18440846101533031152:=()
def tw4638950299129812100:=()
def tw12481287473269962488:=()
def tw7216409302560477683:=()
def tw3331338656080258250:=()
def tw1768471467741044195:=()
def tw17980486665515377498:=()
def tw9112558425199486504:=()
def tw16274021714274265804:=()
def tw2331908203758877088:=()
def tw9359111121047753668:=()
def tw1064921558892914357:=()
def tw3492420099944527541:=()
def tw17667718641447754473:=()
def tw2718442194931367919:=()
def tw2551547092733569495:=()
def tw2524995215869092476:=()
def tw5818426356670744211:=()
def tw5184999671712147156:=()
def tw14984005364020754350:=()
def tw11528792650161013186:=()
def tw8403103364237648911:=()
def tw17932510995043881168:=()
def tw13837061127293742344:=()
def tw8983240657774228096:=()
def tw167045597799446863:=()
def tw16133590372827367544:=()
def tw9702493232861180528:=()
def tw16446871901697888997:=()
def tw4000505607645554769:=()
def tw2298160161781360911:=()
def tw8602544328377028644:=()
def tw16384579106037301233:=()
def tw14558148418936731533:=()
def tw11192672302870250327:=()
def tw17192667635370947536:=()
def tw6568185706204432598:=()
def tw15485600755216236035:=()
end PySem.W.Fast
open PySem PySem.W PyProof.Rows
set_option maxRecDepth 100000 in
set_option maxHeartbeats 0 in
theorem PySem.Challenge.cw_foreverrows_k22_words_that_stand_holds : PySem.Challenge.rw_foreverrows_k22_words_that_stand.Holds := by
 w_on;o_law;k_head;(case hw=>w_witness2)
 k_fill
 refine K22.walk (l := PySem.Challenge.rw_foreverrows_k22_words_that_stand) rfl rfl (by decide +kernel) (fun w h Y => PySem.W.kIn_of Y) ?F
 case F =>
  intro w mg fa h KX G hmg
  refine' K22.all_mk KX G hmg ?a1 ?l1 ?c1 ?k1 ?a2 ?l2 ?c2 ?k2 ?a3 ?l3 ?c3 ?k3 ?a4 ?l4 ?c4 ?k4 ?a5 ?l5 ?c5 ?k5 ?a6 ?l6 ?c6 ?k6 ?a7 ?l7 ?c7 ?k7 ?a8 ?l8 ?c8 ?k8 ?a9 ?l9 ?c9 ?k9 ?a10 ?l10 ?c10 ?k10 ?a11 ?l11 ?c11 ?k11 ?a12 ?l12 ?c12 ?k12 ?a13 ?l13 ?c13 ?k13 ?a14 ?l14 ?c14 ?k14 ?a15 ?l15 ?c15 ?k15 ?a16 ?l16 ?c16 ?k16 ?a17 ?l17 ?c17 ?k17 ?a18 ?l18 ?c18 ?k18 ?a19 ?l19 ?c19 ?k19 ?a20 ?l20 ?c20 ?k20 ?a21 ?l21 ?c21 ?k21 ?a22 ?l22 ?c22 ?k22 ?a23 ?l23 ?c23 ?k23 ?a24 ?l24 ?c24 ?k24 ?a25 ?l25 ?c25 ?k25 ?a26 ?l26 ?c26 ?k26 ?a27 ?l27 ?c27 ?k27 ?a28 ?l28 ?c28 ?k28 ?a29 ?l29 ?c29 ?k29 ?x_NoGrid ?y_NoGrid ?x_NoTable ?y_NoTable ?x_NoBars ?y_NoBars ?x_TooMany ?y_TooMany ?x_NoWord ?y_NoWord ?x_NoReader ?y_NoReader ?x_RowError ?y_RowError ?u_fitA ?v_fitA ?u_fitN ?v_fitN ?i_gaNoBars ?i_clNoBars ?i_ggNoBars ?i_obNoBars ?i_beNoBars ?i_seNoBars ?i_gaTooMany ?i_clTooMany ?i_ggTooMany ?i_obTooMany ?i_beTooMany ?i_seTooMany ?i_a ?i_b ?i_c ?i_d ?i_e ?i_f ?i_g ?i_h ?i_i ?i_j ?i_k ?i_l ?i_m ?i_n ?g_FEWEST_SIGNS ?g_MOST_BARS ?g_LONGEST_BAR ?g_MOST_WORDS ?g_SIGNS ?i_sSIGNS ?z_len ?z_range ?z_list ?z_int ?z_bool ?z_isinstance ?z_any ?z_all ?z_sorted ?z_max ?z_ValueError
  (case a1=>k_is)
  (case l1=>k_is)
  (case c1=>k_is)
  (case k1=>k_is)
  (case a2=>k_is)
  (case l2=>k_is)
  (case c2=>k_is)
  (case k2=>k_is)
  (case a3=>k_is)
  (case l3=>k_is)
  (case c3=>k_is)
  (case k3=>k_is)
  (case a4=>k_is)
  (case l4=>k_is)
  (case c4=>k_is)
  (case k4=>k_is)
  (case a5=>k_is)
  (case l5=>k_is)
  (case c5=>k_is)
  (case k5=>k_is)
  (case a6=>k_is)
  (case l6=>k_is)
  (case c6=>k_is)
  (case k6=>k_is)
  (case a7=>k_is)
  (case l7=>k_is)
  (case c7=>k_is)
  (case k7=>k_is)
  (case a8=>k_is)
  (case l8=>k_is)
  (case c8=>k_is)
  (case k8=>k_is)
  (case a9=>k_is)
  (case l9=>k_is)
  (case c9=>k_is)
  (case k9=>k_is)
  (case a10=>k_is)
  (case l10=>k_is)
  (case c10=>k_is)
  (case k10=>k_is)
  (case a11=>k_is)
  (case l11=>k_is)
  (case c11=>k_is)
  (case k11=>k_is)
  (case a12=>k_is)
  (case l12=>k_is)
  (case c12=>k_is)
  (case k12=>k_is)
  (case a13=>k_is)
  (case l13=>k_is)
  (case c13=>k_is)
  (case k13=>k_is)
  (case a14=>k_is)
  (case l14=>k_is)
  (case c14=>k_is)
  (case k14=>k_is)
  (case a15=>k_is)
  (case l15=>k_is)
  (case c15=>k_is)
  (case k15=>k_is)
  (case a16=>k_is)
  (case l16=>k_is)
  (case c16=>k_is)
  (case k16=>k_is)
  (case a17=>k_is)
  (case l17=>k_is)
  (case c17=>k_is)
  (case k17=>k_is)
  (case a18=>k_is)
  (case l18=>k_is)
  (case c18=>k_is)
  (case k18=>k_is)
  (case a19=>k_is)
  (case l19=>k_is)
  (case c19=>k_is)
  (case k19=>k_is)
  (case a20=>k_is)
  (case l20=>k_is)
  (case c20=>k_is)
  (case k20=>k_is)
  (case a21=>k_is)
  (case l21=>k_is)
  (case c21=>k_is)
  (case k21=>k_is)
  (case a22=>k_is)
  (case l22=>k_is)
  (case c22=>k_is)
  (case k22=>k_is)
  (case a23=>k_is)
  (case l23=>k_is)
  (case c23=>k_is)
  (case k23=>k_is)
  (case a24=>k_is)
  (case l24=>k_is)
  (case c24=>k_is)
  (case k24=>k_is)
  (case a25=>k_is)
  (case l25=>k_is)
  (case c25=>k_is)
  (case k25=>k_is)
  (case a26=>k_is)
  (case l26=>k_is)
  (case c26=>k_is)
  (case k26=>k_is)
  (case a27=>k_is)
  (case l27=>k_is)
  (case c27=>k_is)
  (case k27=>k_is)
  (case a28=>k_is)
  (case l28=>k_is)
  (case c28=>k_is)
  (case k28=>k_is)
  (case a29=>k_is)
  (case l29=>k_is)
  (case c29=>k_is)
  (case k29=>k_is)
  (case z_len=>k_is)
  (case z_range=>k_is)
  (case z_list=>k_is)
  (case z_int=>k_is)
  (case z_bool=>k_is)
  (case z_isinstance=>k_is)
  (case z_any=>k_is)
  (case z_all=>k_is)
  (case z_sorted=>k_is)
  (case z_max=>k_is)
  (case z_ValueError=>k_is)
  (case x_NoGrid=>k_is)
  (case y_NoGrid=>first|k_exc|k_is|kernel_rfl)
  (case x_NoTable=>k_is)
  (case y_NoTable=>first|k_exc|k_is|kernel_rfl)
  (case x_NoBars=>k_is)
  (case y_NoBars=>first|k_exc|k_is|kernel_rfl)
  (case x_TooMany=>k_is)
  (case y_TooMany=>first|k_exc|k_is|kernel_rfl)
  (case x_NoWord=>k_is)
  (case y_NoWord=>first|k_exc|k_is|kernel_rfl)
  (case x_NoReader=>k_is)
  (case y_NoReader=>first|k_exc|k_is|kernel_rfl)
  (case x_RowError=>k_is)
  (case y_RowError=>first|k_exc|k_is|kernel_rfl)
  (case u_fitA=>first|k_exc|k_is|kernel_rfl)
  (case v_fitA=>first|k_exc|k_is|kernel_rfl)
  (case u_fitN=>first|k_exc|k_is|kernel_rfl)
  (case v_fitN=>first|k_exc|k_is|kernel_rfl)
  (case i_gaNoBars=>first|k_exc|k_is|kernel_rfl)
  (case i_clNoBars=>first|k_exc|k_is|kernel_rfl)
  (case i_ggNoBars=>first|k_exc|k_is|kernel_rfl)
  (case i_obNoBars=>first|k_exc|k_is|kernel_rfl)
  (case i_beNoBars=>first|k_exc|k_is|kernel_rfl)
  (case i_seNoBars=>first|k_exc|k_is|kernel_rfl)
  (case i_gaTooMany=>first|k_exc|k_is|kernel_rfl)
  (case i_clTooMany=>first|k_exc|k_is|kernel_rfl)
  (case i_ggTooMany=>first|k_exc|k_is|kernel_rfl)
  (case i_obTooMany=>first|k_exc|k_is|kernel_rfl)
  (case i_beTooMany=>first|k_exc|k_is|kernel_rfl)
  (case i_seTooMany=>first|k_exc|k_is|kernel_rfl)
  (case i_a=>first|k_exc|k_is|kernel_rfl)
  (case i_b=>first|k_exc|k_is|kernel_rfl)
  (case i_c=>first|k_exc|k_is|kernel_rfl)
  (case i_d=>first|k_exc|k_is|kernel_rfl)
  (case i_e=>first|k_exc|k_is|kernel_rfl)
  (case i_f=>first|k_exc|k_is|kernel_rfl)
  (case i_g=>first|k_exc|k_is|kernel_rfl)
  (case i_h=>first|k_exc|k_is|kernel_rfl)
  (case i_i=>first|k_exc|k_is|kernel_rfl)
  (case i_j=>first|k_exc|k_is|kernel_rfl)
  (case i_k=>first|k_exc|k_is|kernel_rfl)
  (case i_l=>first|k_exc|k_is|kernel_rfl)
  (case i_m=>first|k_exc|k_is|kernel_rfl)
  (case i_n=>first|k_exc|k_is|kernel_rfl)
  (case g_FEWEST_SIGNS=>k_is)
  (case g_MOST_BARS=>k_is)
  (case g_LONGEST_BAR=>k_is)
  (case g_MOST_WORDS=>k_is)
  (case g_SIGNS=>k_is)
  (case i_sSIGNS=>first|k_exc|k_is|kernel_rfl)
