import PyProof.Rows.All
import Wide.All
import OpenK.AllK
import Wide.FinOn
import Lean
import PyProof.EqAt
import PyProof.EqKinds
import PyProof.TupleCall
import PyProof.NeData
import PyProof.P3Eq
import PyProof.EnumMake
import PyProof.EnumFor
import PyProof.ConsumeWalk
import PyProof.ListRange
import PyProof.ZipIter
import KE.IntBitsLaws
import KE.RegMulBits
import PyProof.ExcArgs
import PyProof.DictWalks
import KE.KRevSl
import PyProof.DictItems
import PyProof.DictDisplay
import PyProof.SeqI3
import PyProof.NsDelKeeps
import PyProof.StrWalks
import PyProof.StrBlockH
import PyProof.StrBlock2
import KE.KMinKey
import PyProof.Rows.CallKwBuiltin
import KE.KIntText
import PyProof.StrCalls2
import PyProof.StrLawsTight
import PyProof.Rows.StrItems
import PyProof.FactsAll.tuple_1
import PyProof.FactsAll.tuple_2
import PyProof.FString5
import PyProof.Rows.RuleC_int
import PyProof.Rows.SortRunsK
import PyProof.StrLawsOcc
import PyProof.StrLawsFirst
import PySem.Challenge.RW_foreverrows_k23_bridges
set_option Elab.async false
set_option linter.all false
set_option maxRecDepth 100000
set_option compiler.extract_closed false
open PySem PySem.Spec PyProof.Rows
abbrev stE (e:Expr) (es:List Expr) (v):=starEach (e::es) v=(false,eval e v)::starEach es v
abbrev stB (p) (es:List Expr) (v):=(backTo p (starEach es v)).any (·.1)=false
abbrev noD (x:Str):=(x==("__debug__":Str))=false
local macro_rules | `(tactic| cbv) => `(tactic| walk_at "d")
local macro_rules | `(tactic| lia) => `(tactic| omega)
local macro_rules | `(tactic| walk_at "g") => `(tactic| first | k_exc | k_is | kernel_rfl)
def qa:=@Heap.get?_push_of_some
def qb:=@wpAny_bind
def qc:=@wpAny_pure
def qd:=@wpS_bind
def qe:=@wpS_pure
def qf:=@List.length_map
def qh:=@List.getElem?_eq_some_iff
def qi:=@Heap.lt_size
def qj:=@Array.length_toList
def qk:=@List.getElem?_map
def ql:=@Heap.get?_push_size
def qm:=@if_pos
def qo:=@if_neg
def qp:=@Nat.le_refl
def qq:=@Nat.lt_of_le_of_lt
def qr:=@Nat.lt_of_lt_of_le
def qt:=@Bool.false_ne_true
def qu:=@List.mem_cons_self
def qv:=@List.mem_cons_of_mem
def qw:=@List.mem_append_right
def qz:=@List.mem_append_left
def zb:=@Bool.and_eq_true
def zc:=@List.mem_singleton
def zd:=@List.getElem?_eq_getElem
def ze:=@Nat.ne_of_lt
def zg:=@List.mem_map
def zh:=@Nat.add_le_add_left
def zi:=@Nat.le_of_lt
def zj:=@List.mem_append
def zk:=@List.mem_cons
def zl:=@Array.getElem?_eq_some_iff
def zm:=@Array.getElem?_toList
def zn:=@Nat.le_trans
def zo:=@Bool.false_eq_true
def zp:=@Option.some.inj
def zq:=@decide_eq_true_eq
def zr:=@List.mem_of_getElem?
def zt:=@Heap.get?_update_other
def zu:=@Bool.eq_iff_iff
def zw:=@PySem.mem_of_lookup
def zz:=@Nat.zero_le
def ja:=@List.length_take
def jc:=@wpAny_mono
open List (mem_filter mem_range mem_cons_self mem_cons_of_mem mem_cons mem_append mem_append_left mem_append_right size_toArray append_nil nodup_cons length_take mem_of_getElem? length_append length_map length_drop map_cons all_cons any_cons length_cons mem_map all_eq_true any_eq_true mem_singleton length_set nodup_nil nodup_append mem_of_mem_drop mem_of_mem_take length_range append_assoc map_append map_map find?_cons_of_neg drop_zero take_append_drop mem_iff_getElem? take_length pairwise_map take_add_one length_filter_le filter_append)
variable {pins:List (Addr × Obj)} {E:Value->Shared->Prop} {P:Program} {iter value target e0 ke ve:Expr} {body suite0 suite:List Stmt} {t' ep nrem src:Nat} {pos' spos cpos py np apos px cp hpos0 hpos np0:Pos} {fp ch Ds:List Addr} {osl:Array (Option Value)} {od:Option Addr} {op':CmpOp} {doc cdv cd oc vl vu cls a0:Value} {mA:Str->Option Value} {s':Shared} {d':Drawn} {name:Str} {items out:Array Value} {XP:(Str->Option Value)->Heap->Prop} {YP:World->Heap->Prop} {loose l0 l1:List Str} {h':Heap} {B:Prop} {fa ea R R0 cA cN3 cWd cRd cG cT cE0:Addr} {cap:List (Str × Nat)} {ifs:List Expr} {oe:Obj} {tn:Nat->Heap->Prop} {ν:Nat->List Addr} {Z:Addr->Prop} {Ui Tb:List Nat} {OK:Heap->Prop} {u' ar:Array Keyed} {ky:Keyed} {lf sd:Bool} {b0:Stmt} {ss:List (Str × Str)}
namespace L2
abbrev C1:=Sum Int Str
def A6l:C1->Value->Bool
 | .inl k,v=>Value.isInt k v
 | .inr x,v=>Value.isStrOf x v
def E17 (w:World):C1->Int
 | .inl k=>hashInt k
 | .inr x=>hashStr w x
theorem E9:∀ {k:C1} {v:Value},A6l k v=true->(∃ i t,k=Sum.inl i/\v=Value.int i t)\/(∃ x t,k=Sum.inr x/\v=Value.str x t)
 | .inl i,v,h=>by
  obtain ⟨t,e⟩:=Value.isInt_shape (k:=i) (v:=v) h;exact .inl ⟨i,t,rfl,e⟩
 | .inr x,v,h=>by
  obtain ⟨t,e⟩:=Value.isStrOf_shape (x:=x) (v:=v) h;exact .inr ⟨x,t,rfl,e⟩
theorem B87 (i:Int) (t:Tok):A6l (.inl i) (.int i t)=true:=by simp[A6l,Value.isInt]
theorem B83 (x:Str) (t:Tok):A6l (.inr x) (.str x t)=true:=by simp[A6l,Value.isStrOf]
theorem D54 (a b:Int):decide ((Sum.inl a:C1)=Sum.inl b)=(a==b):=by
 by_cases e:a=b
 ·subst e;simp
 ·have h:¬ (Sum.inl a:C1)=Sum.inl b:=λq=>e (Sum.inl.inj q);rw[decide_eq_false h];exact (beq_eq_false_iff_ne.mpr e).symm
theorem D3w (a b:Str):decide ((Sum.inr a:C1)=Sum.inr b)=decide (a=b):=by
 by_cases e:a=b
 ·subst e;simp
 ·have h:¬ (Sum.inr a:C1)=Sum.inr b:=λq=>e (Sum.inr.inj q);rw[decide_eq_false h,decide_eq_false e]
theorem D31 (a:Int) (b:Str):decide ((Sum.inl a:C1)=Sum.inr b)=false:=decide_eq_false (λq=>nomatch q)
theorem D0w (a:Str) (b:Int):decide ((Sum.inr a:C1)=Sum.inl b)=false:=decide_eq_false (λq=>nomatch q)
def J4 (prog:Program) (w:World):PySem.KeyKind prog w C1 where
 is:=A6l
 hash:=E17 w
 inj:=λv a b ha hb=>by
  rcases E9 ha with ⟨i,t,rfl,rfl⟩|⟨x,t,rfl,rfl⟩
  ·rcases E9 hb with ⟨j,u,rfl,e⟩|⟨y,u,rfl,e⟩
   ·injection e with e1 _;rw[e1]
   ·exact nomatch e
  ·rcases E9 hb with ⟨j,u,rfl,e⟩|⟨y,u,rfl,e⟩
   ·exact nomatch e
   ·injection e with e1 _;rw[e1]
 byValue:=λk v h=>by
  rcases E9 h with ⟨i,t,rfl,rfl⟩|⟨x,t,rfl,rfl⟩<;>rfl
 pyHash:=λhv h=>by
  rcases E9 hv with ⟨i,t,rfl,rfl⟩|⟨x,t,rfl,rfl⟩
  ·exact wpAny_pyHash_int h
  ·exact wpAny_pyHash_str h
 eqBool:=λhu hv h=>by
  rcases E9 hu with ⟨i,t,rfl,rfl⟩|⟨x,t,rfl,rfl⟩
  ·rcases E9 hv with ⟨j,u,rfl,rfl⟩|⟨y,u,rfl,rfl⟩
   ·rw[D54] at h;exact wpAny_eqBool_int h
   ·rw[D31] at h;exact SeqAt.EqAt.int_str i t y u _ _ _ _ h
  ·rcases E9 hv with ⟨j,u,rfl,rfl⟩|⟨y,u,rfl,rfl⟩
   ·rw[D0w] at h;exact SeqAt.EqAt.str_int x t j u _ _ _ _ h
   ·rw[D3w] at h;exact wpAny_eqBool_str h
 «strs»:=λk x t v h=>by
  rcases E9 h with ⟨i,u,rfl,e⟩|⟨y,u,rfl,e⟩
  ·exact nomatch e
  ·injection e with e1 _
   subst e1;cases v<;>rfl
theorem B28 (prog:Program) (w:World) (i:Int) (t:Tok):(J4 prog w).is (.inl i) (.int i t)=true:=B87 i t
theorem B0m (prog:Program) (w:World) (x:Str) (t:Tok):(J4 prog w).is (.inr x) (.str x t)=true:=B83 x t
inductive V where
 | non|bl (b:Bool)|int (i:Int)|str (x:Str)|byt (b:Array UInt8)|flt (b:UInt64)|ref (a:Addr)|ty (n:String)
 deriving DecidableEq
def D0:V->Value->Prop
 | .non,u=>u=Value.none
 | .bl b,u=>u=Value.bool b
 | .int i,u=>∃ t,u=Value.int i t
 | .str x,u=>∃ t,u=Value.str x t
 | .byt b,u=>∃ t,u=Value.bytes b t
 | .flt b,u=>∃ t,u=Value.float b t
 | .ref a,u=>u=Value.ref a
 | .ty n,u=>u=Value.type n
abbrev C6:List V->List Value->Prop:=Paired D0
variable {us:List Value} {xs vs:List V} {h:Heap} {M:Model} {g':Array GenState} {s:Shared} {Q:Value->Shared->Prop} {c tg l:Expr} {pos:Pos} {fd:FuncData} {scope:Scope} {qual:Str}
theorem C6.length (r:C6 xs us):xs.length=us.length:=Paired.length r
theorem C6.get:∀ {xs:List V} {us:List Value} {i:Nat} {x:V},C6 xs us->xs[i]?=some x->∃ u,us[i]?=some u/\D0 x u
 | _,_,_,_,.nil,e=>by simp at e
 | _,_,0,_,.cons r _,e=>by simp at e;subst e;exact ⟨_,rfl,r⟩
 | _,_,i+1,x,.cons _ t,e=>by
  obtain ⟨u,h1,h2⟩:=C6.get (i:=i) (x:=x) t (by simpa using e);exact ⟨u,by simpa using h1,h2⟩
theorem C6.set {x:V} {u:Value} (r:D0 x u):∀ {xs:List V} {us:List Value} (i:Nat),C6 xs us->C6 (xs.set i x) (us.set i u)
 | _,_,_,.nil=>.nil
 | _,_,0,.cons _ t=>.cons r t
 | _,_,i+1,.cons q t=>.cons q (C6.set r i t)
theorem C6.append:∀ {xs ys:List V} {us ws:List Value},C6 xs us->C6 ys ws->C6 (xs++ys) (us++ws)
 | _,_,_,_,.nil,s=>s
 | _,_,_,_,.cons r t,s=>.cons r (C6.append t s)
theorem C6.take:∀ {xs:List V} {us:List Value} (n:Nat),C6 xs us->C6 (xs.take n) (us.take n)
 | _,_,0,_=>.nil
 | _,_,_+1,.nil=>.nil
 | _,_,n+1,.cons r t=>.cons r (C6.take n t)
theorem C6.drop:∀ {xs:List V} {us:List Value} (n:Nat),C6 xs us->C6 (xs.drop n) (us.drop n)
 | _,_,0,r=>r
 | _,_,_+1,.nil=>.nil
 | _,_,n+1,.cons _ t=>C6.drop n t
def A5k:Option V->Option Value->Prop
 | some v,some u=>D0 v u
 | none,none=>True
 | _,_=>False
def KV {κ:Type}:List (κ × V)->List (κ × Value)->Prop:=Paired λ(p:κ × V) (q:κ × Value)=>p.1=q.1/\D0 p.2 q.2
def kV:C1->V
 | .inl i=>.int i
 | .inr x=>.str x
inductive HO where
 /-- a list -/
 | lst (xs:List V)
 /-- a tuple (never changes) -/
 | tup (xs:List V)
 /-- a dict whose keys are ints and texts;one whose keys are tuples of ints and texts (the empty one is both) -/
 | dK (kvs:List (C1 × V))|dT (kvs:List (List C1 × V))
 /-- a set of ints: its members,its size -/
 | set (S:Int->Bool) (n:Nat)
 /-- an instance of the class at C,its dict at dx,its attributes -/
 | ins (C dx:Addr) (fs:List (Str × V))
 /-- the dict of the instance at x -/
 | own (x:Addr)
 /-- the dict of an exception -/
 | xd (fs:List (Str × V))
 /-- a bound method,f of x -/
 | met (f x:Addr)
 /-- a range object lo,lo+1,.. below hi -/
 | rng (lo hi:Int)
 /-- a thing that is known to the object (the script;a dict while a loop walks it): read,never written while it is so -/
 | frz (o:Obj) (u:HO)
 /-- a code object's table -/
 | tbl (ps:Array Value)
 /-- any other thing,by what is true of its one object (a def of one's own: SetO a S n:=HO.ext λh=>..) -/
 | ext (φ:Heap->Prop)
abbrev Hp:=Addr->Option HO
def upd (H:Hp) (a:Addr) (o:HO):Hp:=λb=>if b=a then some o else H b
variable {o:HO}
theorem B2 {H:Hp} {a:Addr} :upd H a o a=some o:=by unfold upd;rw[qm rfl]
theorem B5 {H:Hp} {a b:Addr} (h:b≠a):upd H a o b=H b:=by unfold upd;rw[qo h]
theorem B20 {H:Hp} {a b:Addr} {u:HO} (h:H a=some o) (h':H b=some u) (d:o≠u):a≠b:=by
 intro e;subst e;rw[h] at h';exact d (zp h')
theorem P1 {H:Hp} {a b:Addr} (h:H a=some o) (h':H b=none):a≠b:=by
 intro e;subst e;rw[h] at h';cases h'
section
variable (P:Program) (w:World)
def E5 (H:Hp) (h:Heap) (a:Addr):HO->Prop
 | .lst xs=>xs.length<=sizeLine/\∃ (its:List Value) (n:Nat),C6 xs its/\h.get? a=some { cls:=.type "list",data:=.seq its.toArray n }
 | .tup xs=>xs.length<=sizeLine/\∃ its:List Value,C6 xs its/\IsTup h a its.toArray
 | .dK kvs=>kvs.length<=sizeLine/\(a==sysModules)=false/\∃ vs,KV kvs vs/\h.DictOf (J4 P w) a vs
 | .dT kvs=>kvs.length<=sizeLine/\(a==sysModules)=false/\∃ xs:List (List C1 × Addr × Value),
   Paired (λ(p:List C1 × V) (q:List C1 × Addr × Value)=>p.1=q.1/\H q.2.1=some (.tup (p.1.map kV))/\D0 p.2 q.2.2) kvs xs /\
   ∃ o es ep,h.get? a=some o/\o.ExactDict/\o.data=.dict es ep/\es.toList=xs.map (entryOfKey (tupleKind (J4 P w)))/\(xs.map (·.1)).Nodup
 | .set S n=>h.SetOf (intKind P w) a S n
 | .ins C dx fs=>H dx=some (.own a)/\fs.length<=1000/\dx≠a/\h.get? a=some (W.instObj C dx) /\
   ∃ mA,h.Ns1 dx mA/\(∀ f,A5k (fs.lookup f) (mA f))/\PySem.Within mA (fs.map (·.1))
 | .own _=>∃ o,h.get? a=some o
 | .xd fs=>∃ mA,h.Ns1 a mA/\∀ f,A5k (fs.lookup f) (mA f)
 | .rng lo hi=>∃ t u v,h.get? a=some { cls:=.type "range",data:=.fields #[.int lo t,.int hi u,.int 1 v] }
 | .frz o u=>h.get? a=some o/\E5 H h a u
 | .tbl ps=>h.get? a=some { cls:=.none,data:=.fields ps }
 | .met f x=>h.get? a=some (W.methodObj (.ref f) (.ref x))
 | .ext φ=>φ h/\(∃ o,h.get? a=some o)/\∀ h1 h2:Heap,φ h1->(∀ o,h1.get? a=some o->h2.get? a=some o)->φ h2
def HOk (H:Hp) (h:Heap):Prop:=∀ a o,H a=some o->E5 P w H h a o
end
section
variable {P:Program} {w:World} {H H':Hp} {h h':Heap} {a:Addr} {o:HO}
theorem E5.lt (x:E5 P w H h a o):a < h.objs.size:=by
 cases o with
 | lst xs=>obtain ⟨_,_,_,_,e⟩:=x;exact qi e
 | tup xs=>obtain ⟨_,_,_,p⟩:=x;exact p.lt
 | dK kvs=>obtain ⟨_,_,_,_,o,_,_,e,_⟩:=x;exact qi e
 | dT kvs=>obtain ⟨_,_,_,_,o,_,_,e,_⟩:=x;exact qi e
 | set S n=>obtain ⟨o,_,_,_,e,_⟩:=x;exact qi e
 | ins C dx fs=>obtain ⟨_,_,_,e,_⟩:=x;exact qi e
 | own y=>obtain ⟨_,e⟩:=x;exact qi e
 | xd fs=>obtain ⟨_,⟨_,_,_,e,_⟩,_⟩:=x;exact qi e
 | rng lo hi=>obtain ⟨_,_,_,e⟩:=x;exact qi e
 | frz ob u=>obtain ⟨e,_⟩:=x;exact qi e
 | tbl ps=>exact qi (show h.get? a=some _ from x)
 | met f y=>exact qi (show h.get? a=some _ from x)
 | ext φ=>obtain ⟨_,⟨_,e⟩,_⟩:=x;exact qi e
theorem Paired.mapP {α β:Type} {F G:α->β->Prop}:∀ {l₁:List α} {l₂:List β},Paired F l₁ l₂->(∀ a b,F a b->G a b)->Paired G l₁ l₂
 | _,_,.nil,_=>.nil
 | _,_,.cons r t,f=>.cons (f _ _ r) (Paired.mapP t f)
theorem E5.stay (x:E5 P w H h a o) (k:∀ b u,(b=a\/H b=some (.own a))->h.get? b=some u->h'.get? b=some u)
  (ho:∀ b,H b=some (.own a)->H' b=some (.own a)) (ht:∀ b xs,H b=some (.tup xs)->H' b=some (.tup xs)):E5 P w H' h' a o:=by
 induction o with
 | lst xs=>obtain ⟨z,its,n,r,e⟩:=x;exact ⟨z,its,n,r,k _ _ (.inl rfl) e⟩
 | tup xs=>obtain ⟨z,its,r,ob,e,c⟩:=x;exact ⟨z,its,r,ob,k _ _ (.inl rfl) e,c⟩
 | dK kvs=>obtain ⟨z,y,vs,r,ob,es,ep,e,c⟩:=x;exact ⟨z,y,vs,r,ob,es,ep,k _ _ (.inl rfl) e,c⟩
 | dT kvs =>
  obtain ⟨z,y,xs,r,ob,es,ep,e,c⟩:=x;exact ⟨z,y,xs,Paired.mapP r λp q z=>⟨z.1,ht _ _ z.2.1,z.2.2⟩,ob,es,ep,k _ _ (.inl rfl) e,c⟩
 | set S n=>obtain ⟨ob,es,ep,t,e,c⟩:=x;exact ⟨ob,es,ep,t,k _ _ (.inl rfl) e,c⟩
 | ins C dx fs =>
  obtain ⟨d,z,ne,e,mA,⟨od,es,ep,e2,c⟩,r⟩:=x;exact ⟨ho _ d,z,ne,k _ _ (.inl rfl) e,mA,⟨od,es,ep,k _ _ (.inr d) e2,c⟩,r⟩
 | own y=>obtain ⟨ob,e⟩:=x;exact ⟨ob,k _ _ (.inl rfl) e⟩
 | xd fs=>obtain ⟨mA,⟨od,es,ep,e,c⟩,r⟩:=x;exact ⟨mA,⟨od,es,ep,k _ _ (.inl rfl) e,c⟩,r⟩
 | rng lo hi=>obtain ⟨t,u,v,e⟩:=x;exact ⟨t,u,v,k _ _ (.inl rfl) e⟩
 | frz ob u ih=>obtain ⟨e,q⟩:=x;exact ⟨k _ _ (.inl rfl) e,ih q⟩
 | tbl ps =>
  have e:h.get? a=some { cls:=.none,data:=.fields ps }:=x;show h'.get? a=some { cls:=.none,data:=.fields ps };exact k a _ (.inl rfl) e
 | met f y =>
  have e:h.get? a=some (W.methodObj (.ref f) (.ref y)):=x;show h'.get? a=some (W.methodObj (.ref f) (.ref y));exact k a _ (.inl rfl) e
 | ext φ=>obtain ⟨p,⟨o,e⟩,st⟩:=x;exact ⟨st _ _ p λo q=>k _ _ (.inl rfl) q,⟨o,k _ _ (.inl rfl) e⟩,st⟩
theorem HOk.lt (x:HOk P w H h) (e:H a=some o):a < h.objs.size:=(x a o e).lt
theorem HOk.fresh (x:HOk P w H h) (e:h.objs.size<=a):H a=none:=by
 cases q:H a with
 | none=>rfl
 | some u=>exact absurd (qr (x.lt q) e) (Nat.lt_irrefl _)
theorem HOk.kept (x:HOk P w H h) (k:∀ b u,h.get? b=some u->h'.get? b=some u):HOk P w H h':=λa o e =>
 (x a o e).stay (λb u _ q=>k b u q) (λ_ q=>q) λ_ _ q=>q
theorem HOk.laid (x:HOk P w H h) (k:∀ b u,h.get? b=some u->h'.get? b=some u) (hp:h.objs.size<=a) (new:E5 P w (upd H a o) h' a o):HOk P w (upd H a o) h':=λb u e=>by
 have hn:=x.fresh hp;by_cases hb:b=a
 ·subst hb;rw[B2] at e;cases e;exact new
 ·rw[B5 hb] at e;exact (x b u e).stay (λc v _ q=>k c v q) (λc q=>by rw[B5 (P1 q hn)];exact q) λc xs q=>by rw[B5 (P1 q hn)];exact q
end
def Rd (H:Hp) (a:Addr) (u:HO):Prop:=H a=some u\/∃ o,H a=some (.frz o u)
theorem Rd.ok {w:World} {H:Hp} {a:Addr} {u:HO} (r:Rd H a u) (x:HOk P w H h):E5 P w H h a u:=by
 rcases r with r|⟨o,r⟩
 ·exact x a u r
 ·obtain ⟨_,q⟩:=x a _ r;exact q
def Mut:Option HO->Prop
 | some (.lst _)=>True
 | some (.dK _)=>True
 | some (.dT _)=>True
 | some (.set _ _)=>True
 | some (.ins _ _ _)=>True
 | some (.ext _)=>True
 | _=>False
section
variable {P:Program} {w:World} {H:Hp} {h h':Heap} {x e:Addr} {o':HO}
theorem HOk.write (ok:HOk P w H h) (mu:Mut (H x)) (he:e=x\/H e=some (.own x)) (k:∀ b u,b≠e->h.get? b=some u->h'.get? b=some u) (heo:∃ u,h'.get? e=some u)
  (new:E5 P w (upd H x o') h' x o'):HOk P w (upd H x o') h':=λb u q=>by
 have nown:∀ c y,H c=some (.own y)->c≠x:=λc y r z=>by subst z;rw[r] at mu;exact mu
 have ntup:∀ c xs,H c=some (.tup xs)->c≠x:=λc xs r z=>by subst z;rw[r] at mu;exact mu
 by_cases hb:b=x
 ·subst hb;rw[B2] at q;cases q;exact new
 ·rw[B5 hb] at q;by_cases hbe:b=e
  ·have q':H b=some (.own x):=by
    rcases he with z|z
    ·exact absurd (hbe.trans z) hb
    ·rw[hbe];exact z
   rw[q] at q';cases q';obtain ⟨v,hv⟩:=heo;exact ⟨v,by rw[hbe];exact hv⟩
  ·refine (ok b u q).stay (λc v hc r=>k c v ?_ r) (λc r=>by rw[B5 (nown c b r)];exact r) λc xs r=>by rw[B5 (ntup c xs r)];exact r
   rcases hc with rfl|hc
   ·exact hbe
   ·rintro rfl;rcases he with z|z
    ·exact nown c b hc z
    ·rw[hc] at z;cases z;exact hb rfl
end
structure Un (fs ex:List Addr) (H H':Hp) (h h':Heap):Prop where
 keep:∀ b o,h.get? b=some o->H b=none->b∉fs->b∉ex->h'.get? b=some o
 slot:∀ b o,h.get? b=some o->H b=none->b∈fs->b∉ex->∃ sl,h'.get? b=some { o with slots:=sl }
 free:∀ b o,h.get? b=some o->H b=none->b∉ex->H' b=none
 there:∀ b o,h.get? b=some o->b∉ex->∃ o',h'.get? b=some o'
 tups:∀ b xs,H b=some (.tup xs)->H' b=some (.tup xs)
 frzs:∀ b o u,H b=some (.frz o u)->H' b=some (.frz o u)
 tbls:∀ b ps,H b=some (.tbl ps)->∃ more,H' b=some (.tbl (ps++more))
section
variable {fs ex:List Addr} {H H1:Hp} {h h1 h':Heap} {a x e:Addr} {o:HO}
theorem Un.any (u:Un fs ex H H1 h h1) {b:Addr} {ob:Obj} (q:h.get? b=some ob) (n:H b=none) (hx:b∉ex):∃ sl,h1.get? b=some { ob with slots:=sl }:=by
 by_cases hb:b∈fs
 ·exact u.slot b ob q n hb hx
 ·exact ⟨ob.slots,u.keep b ob q n hb hx⟩
theorem Un.kept (k:∀ b u,h.get? b=some u->h'.get? b=some u):Un fs ex H H h h' :=
 ⟨λb ob q _ _ _=>k b ob q,λb ob q _ _ _=>⟨ob.slots,k b ob q⟩,λ_ _ _ n _=>n,λb ob q _=>⟨ob,k b ob q⟩,λ_ _ q=>q,λ_ _ _ q=>q,λ_ ps q=>⟨#[],by rw[q];simp⟩⟩
theorem Un.refl:Un fs ex H H h h:=Un.kept λ_ _ q=>q
theorem Un.laid (k:∀ b u,h.get? b=some u->h'.get? b=some u) (hp:h.objs.size<=a) (hn:H a=none):Un fs ex H (upd H a o) h h' where
 keep:=λb u q _ _ _=>k b u q
 slot:=λb u q _ _ _=>⟨u.slots,k b u q⟩
 free:=λb u q n _=>by rw[B5 (ze (qr (qi q) hp))];exact n
 there:=λb u q _=>⟨u,k b u q⟩
 tups:=λb xs q=>by rw[B5 (P1 q hn)];exact q
 frzs:=λb u xs q=>by rw[B5 (P1 q hn)];exact q
 tbls:=λb ps q=>⟨#[],by rw[B5 (P1 q hn),q];simp⟩
theorem Un.write (mu:Mut (H x)) (he:e=x\/H e=some (.own x)) (k:∀ b u,b≠e->h.get? b=some u->h'.get? b=some u) (heo:∃ u,h'.get? e=some u):Un fs ex H (upd H x o) h h':=by
 have hx:∀ b,H b=none->b≠x:=λb n z=>by subst z;rw[n] at mu;exact mu
 have hb:∀ b,H b=none->b≠e:=λb n z=>by
  subst z;rcases he with r|r
  ·exact hx b n r
  ·rw[n] at r;cases r
 have hm:∀ b u,H b=some u->¬ Mut (some u)->b≠x:=λb u q nm z=>by subst z;rw[q] at mu;exact nm mu
 refine ⟨λb u q n _ _=>k b u (hb b n) q,λb u q n _ _=>⟨u.slots,k b u (hb b n) q⟩,λb u q n _=>by rw[B5 (hx b n)];exact n,λb u q _=>?_,
  λb xs q=>by rw[B5 (hm b _ q λz=>z)];exact q,λb u xs q=>by rw[B5 (hm b _ q λz=>z)];exact q,λb ps q=>⟨#[],by rw[B5 (hm b _ q λz=>z),q];simp⟩⟩
 by_cases hbe:b=e
 ·subst hbe;exact heo
 ·exact ⟨u,k b u hbe q⟩
end
def trk (h:Heap) (H:Hp):List Addr:=(List.range h.objs.size).filter λa=>(H a).isSome
def A6b (h:Heap) (H:Hp):Heap:=W.hideAll h (trk h H)
theorem B79 (h:Heap) (H:Hp):(A6b h H).objs.size=h.objs.size:=W.hideAll_size _ _
theorem C04 {H:Hp} {b:Addr} {o:Obj} (e:h.get? b=some o) (n:H b=none):(A6b h H).get? b=some o :=
 W.hideAll_get _ e λhm=>by
  have q:(H b).isSome=true:=(mem_filter.mp hm).2;rw[n] at q;simp at q
theorem C88 {H:Hp} {b:Addr} {o:Obj} (e:(A6b h H).get? b=some o):h.get? b=some o/\H b=none:=by
 have e':h.get? b=some o:=W.of_hideAll (trk h H) e;refine ⟨e',?_⟩;cases q:H b with
 | none=>rfl
 | some x =>
  have hm:b∈trk h H:=mem_filter.mpr ⟨mem_range.mpr (qi e'),by simp[q]⟩;have z:(A6b h H).get? b=none:=W.hideAll_none (trk h H) hm;rw[z] at e;cases e
def C4y (g h:Heap) (L:Addr):List (Addr × Obj):=(List.range h.objs.size).filterMap λa=>if a=L\/(g.get? a).isSome=true then none else (h.get? a).map λo=>(a,o)
def rest (g h:Heap) (L d:Addr):List (Addr × Obj):=(C4y g h L).filter λp=>decide (p.1≠d)
structure Mod (K:W.Frag) (mg:Str->Option Value) (base:Heap):Prop where
 kin:K.In base
 glob:base.Ns mainGlobals mg
 blt:∃ mb,base.Ns builtinsNs mb/\∀ x:Str,x≠"__name__"->mb x=bootBuiltins x
 nolimit:base.NoLimit
 seer:base.NoSeer
structure Cx where
 prog:Program
 w:World
 K:W.Frag
 mg:Str->Option Value
 base:Heap
 A:Around
 N:List Str
 s₀:Shared
 H₀:Hp
 env:Env
 outer:List Env
 stack:List Env
 ex:List Addr
 fn:Str->Bool
 calm:Bool
 pn:List (Addr × Obj)
 xe:Value->Shared->Prop
def frs (l:List Env):List Addr:=l.filterMap (·.frame)
abbrev Cx.fs (X:Cx):List Addr:=frs X.outer
def Vis (sc:Scope) (x:Str):Prop:=sc.names.lookup x=some .local\/sc.names.lookup x=some .cell\/sc.names.lookup x=some .free
def Loc (sc:Scope) (x:Str):Prop:=sc.names.lookup x=some .local\/sc.names.lookup x=some .cell
def E1b (env:Env) (h:Heap) (m:Str->Option Value) (x:Str) (u:Value):Prop :=
 (env.kindOf x=some .local/\m x=some u)\/((env.kindOf x=some .cell\/env.kindOf x=some .free)/\∃ c,env.cells.lookup x=some c/\h.IsCell c (some u))
structure Cx.Ok (X:Cx):Prop where
 mod:Mod X.K X.mg X.base
 kind:X.env.scope.kind=.function
 glob:X.env.globals=mainGlobals
 blt:X.env.builtins=builtinsNs
 above:X.s₀.heap.objs.size<=X.env.locals
 inj:∀ x y c,X.env.cells.lookup x=some c->X.env.cells.lookup y=some c->x=y
 has:∀ x,(X.env.kindOf x=some .cell\/X.env.kindOf x=some .free)->∃ c,X.env.cells.lookup x=some c
 cab:∀ x c,X.fn x=true->X.env.cells.lookup x=some c->X.s₀.heap.objs.size<=c
 hd:X.calm=true->X.A.handled=none
 frames:X.A.frames=some X.stack
 stk:X.stack=X.outer\/(X.stack=X.env::X.outer/\X.env.frame=some X.env.locals)
 exf:∀ b∈X.ex,b≠X.env.locals/\∀ x c,X.env.cells.lookup x=some c->c≠b
 bs:∀ b o,X.base.get? b=some o->X.s₀.heap.get? b=some o/\X.H₀ b=none
 bsz:X.base.objs.size<=X.s₀.heap.objs.size
 noex:∀ b o,X.base.get? b=some o->b∉X.ex
 exfs:∀ b∈X.ex,b∉X.fs
 funs:X.s₀.heap.FunFrames X.base X.outer
 frf:∀ b∈X.fs,X.H₀ b=none
structure B6 (X:Cx) (pins:List (Addr × Obj)) (U:List (Option V)) (H:Hp) (s:Shared):Prop where
 ok:X.Ok
 os:s.os=X.s₀.os
 bare:AllBare s.gens
 base:Un X.fs X.ex X.H₀ H X.s₀.heap s.heap
 loc:∃ m,s.heap.Ns X.env.locals m/\∀ (i:Nat) (x:Str) (v:V),X.N[i]?=some x->U[i]?=some (some v)->Vis X.env.scope x->∃ u,D0 v u/\E1b X.env s.heap m x u
 cell:∀ x c,X.env.cells.lookup x=some c->∃ v,s.heap.IsCell c v
 free:H X.env.locals=none
 freeC:∀ x c,X.env.cells.lookup x=some c->H c=none
 pin:∀ p∈X.pn++pins,s.heap.get? p.1=some p.2/\H p.1=none/\p.1≠X.env.locals/\p.1∉X.fs/\∀ v,p.2.data≠.cell v
 hok:HOk X.prog X.w H s.heap
 len:U.length=X.N.length
section
variable {X:Cx} {pins:List (Addr × Obj)} {U:List (Option V)} {H H':Hp} {s:Shared} {h':Heap}
theorem Cx.Ok.nofr (ok:X.Ok) {b:Addr} {o:Obj} (e:X.base.get? b=some o):b∉X.fs:=λhb=>by
 have:=(ok.funs.mem hb).1;rw[e] at this;cases this
theorem B6.bs (I:B6 X pins U H s):∀ b o,X.base.get? b=some o->s.heap.get? b=some o/\H b=none:=λb o e =>
 ⟨I.base.keep b o (I.ok.bs b o e).1 (I.ok.bs b o e).2 (I.ok.nofr e) (I.ok.noex b o e),I.base.free b o (I.ok.bs b o e).1 (I.ok.bs b o e).2 (I.ok.noex b o e)⟩
theorem B6.bk (I:B6 X pins U H s):∀ b o,X.base.get? b=some o->s.heap.get? b=some o:=λb o e=>(I.bs b o e).1
theorem B6.mod (I:B6 X pins U H s):Mod X.K X.mg X.base:=I.ok.mod
theorem B6.kIn (I:B6 X pins U H s):X.K.In s.heap:=I.ok.mod.kin.keeps I.bk
theorem B6.lt (I:B6 X pins U H s):X.env.locals < s.heap.objs.size:=let ⟨_,hn,_⟩:=I.loc;hn.lt
theorem B6.sz (I:B6 X pins U H s):X.s₀.heap.objs.size<=s.heap.objs.size:=zn I.ok.above (zi I.lt)
theorem B6.nofs (I:B6 X pins U H s) {a:Addr} (h:s.heap.objs.size<=a):a∉X.fs:=λhb=>by
 obtain ⟨_,o,ho,_⟩:=I.ok.funs.mem hb;exact absurd (qr (qi ho) (zn I.sz h)) (Nat.lt_irrefl _)
theorem B6.cne (I:B6 X pins U H s):∀ x c,X.env.cells.lookup x=some c->c≠X.env.locals:=λx c e z=>by
 obtain ⟨v,o,ho,hd⟩:=I.cell x c e;obtain ⟨m,⟨o',es,ep,ho',hd',_⟩,_⟩:=I.loc;rw[z,ho'] at ho;cases ho;rw[hd'] at hd;cases hd
theorem B6.funs (I:B6 X pins U H s):s.heap.FunFrames X.base X.outer:=by
 have all:∀ (l:List Env),(∀ b∈frs l,b∈X.fs)->X.s₀.heap.FunFrames X.base l->s.heap.FunFrames X.base l:=by
  intro l
  induction l with
  | nil=>intro _ _;trivial
  | cons env r ih =>
   intro hs hl;obtain ⟨hk,⟨L,o,hf,hn,ho,hd⟩,hr⟩:=hl;have hL:L∈X.fs:=hs L (by unfold frs;rw[List.filterMap_cons,hf];exact qu);obtain ⟨sl,e⟩:=I.base.slot L o ho (I.ok.frf L hL) hL λz=>I.ok.exfs L z hL;exact ⟨hk,⟨L,_,hf,hn,e,hd⟩,ih (λb hb=>hs b (by unfold frs;rw[List.filterMap_cons,hf];exact qv _ hb)) hr⟩
 exact all X.outer (λ_ hb=>hb) I.ok.funs
theorem B6.stack (I:B6 X pins U H s):s.heap.FunFrames X.base X.stack:=by
 rcases I.ok.stk with e|⟨e,hf⟩
 ·rw[e];exact I.funs
 ·rw[e];obtain ⟨m,hn,_⟩:=I.loc;refine .cons (by rw[I.ok.kind];decide) hf hn ?_ I.funs;exact Heap.get?_none_of_le (zn I.ok.bsz I.ok.above)
theorem B6.stkSub (I:B6 X pins U H s):∀ b∈frs X.stack,b∈X.env.locals::X.fs:=λb hb=>by
 rcases I.ok.stk with e|⟨e,hf⟩
 ·rw[e] at hb;exact qv _ hb
 ·rw[e] at hb;unfold frs at hb;rw[List.filterMap_cons,hf] at hb;exact hb
theorem B6.stkFree (I:B6 X pins U H s):∀ b∈frs X.stack,H b=none:=λb hb=>by
 rcases zk.mp (I.stkSub b hb) with e|hb
 ·rw[e];exact I.free
 ·obtain ⟨_,o,ho,_⟩:=I.ok.funs.mem hb;exact I.base.free b o ho (I.ok.frf b hb) λz=>I.ok.exfs b z hb
theorem B6.step (I:B6 X pins U H s)
  (hch:∀ b∈ch,(b∈X.ex\/X.s₀.heap.objs.size<=b)/\b≠X.env.locals/\(∀ x c,X.env.cells.lookup x=some c->c≠b)/\∀ p∈X.pn++pins,p.1≠b)
  (keep:∀ b o,b≠X.env.locals->b∉X.fs->b∉ch->s.heap.get? b=some o->H b=none->h'.get? b=some o)
  (slot:∀ b o,b≠X.env.locals->b∈X.fs->b∉ch->s.heap.get? b=some o->H b=none->∃ sl,h'.get? b=some {o with slots:=sl }) (free:∀ b o,b∉ch->s.heap.get? b=some o->H b=none->H' b=none)
  (there:∀ b o,b∉ch->s.heap.get? b=some o->∃ o',h'.get? b=some o')
  (tups:∀ b xs,H b=some (.tup xs)->H' b=some (.tup xs)) (frzs:∀ b o u,H b=some (.frz o u)->H' b=some (.frz o u)) (tbls:∀ b ps,H b=some (.tbl ps)->∃ more,H' b=some (.tbl (ps++more)))
  (ns:∀ m,s.heap.Ns X.env.locals m->h'.Ns X.env.locals m) (hok:HOk X.prog X.w H' h') (hg:AllBare g') :
  B6 X pins U H' { s with heap:=h',gens:=g',drawn:=d',toks:=t' }:=by
 have neL:∀ b o,X.s₀.heap.get? b=some o->b≠X.env.locals:=λb o e=>ze (qr (qi e) I.ok.above);have neC:∀ b o,X.s₀.heap.get? b=some o->b∉X.ex->b∉ch:=λb o e hx hb=>by
  rcases (hch b hb).1 with z|z
  ·exact hx z
  ·exact absurd (qr (qi e) z) (Nat.lt_irrefl _)
 have cellK:∀ x c,X.env.cells.lookup x=some c->∀ v,s.heap.IsCell c v->h'.IsCell c v:=λx c e v ⟨o,ho,hd⟩=>by
  have nch:c∉ch:=λz=>(hch c z).2.2.1 x c e rfl;by_cases hc:c∈X.fs
  ·obtain ⟨sl,q⟩:=slot c o (I.cne x c e) hc nch ho (I.freeC x c e);exact ⟨_,q,hd⟩
  ·exact ⟨o,keep c o (I.cne x c e) hc nch ho (I.freeC x c e),hd⟩
 refine ⟨I.ok,I.os,hg,⟨λb o e n hb hx=>?_,λb o e n hb hx=>?_,λb o e n hx=>?_,λb o e hx=>?_,λb xs e=>tups b xs (I.base.tups b xs e),λb o xs e=>frzs b o xs (I.base.frzs b o xs e),λb ps e=>?_⟩,?_,λx c e=>?_,?_,λx c e=>?_,λp hp=>?_,hok,I.len⟩
 ·exact keep b o (neL b o e) hb (neC b o e hx) (I.base.keep b o e n hb hx) (I.base.free b o e n hx)
 ·obtain ⟨sl,e1⟩:=I.base.slot b o e n hb hx;obtain ⟨sl',e2⟩:=slot b _ (neL b o e) hb (neC b o e hx) e1 (I.base.free b o e n hx);exact ⟨sl',e2⟩
 ·obtain ⟨o',e1⟩:=I.base.there b o e hx;exact free b o' (neC b o e hx) e1 (I.base.free b o e n hx)
 ·obtain ⟨o',e1⟩:=I.base.there b o e hx;exact there b o' (neC b o e hx) e1
 ·obtain ⟨m1,e1⟩:=I.base.tbls b ps e;obtain ⟨m2,e2⟩:=tbls b _ e1;exact ⟨m1++m2,by rw[e2,Array.append_assoc]⟩
 ·obtain ⟨m,hn,hl⟩:=I.loc;refine ⟨m,ns m hn,λi x v e1 e2 e3=>?_⟩;obtain ⟨u,r,l⟩:=hl i x v e1 e2 e3;refine ⟨u,r,?_⟩;rcases l with l|⟨k,c,e,z⟩
  ·exact .inl l
  ·exact .inr ⟨k,c,e,cellK x c e _ z⟩
 ·obtain ⟨v,z⟩:=I.cell x c e;exact ⟨v,cellK x c e v z⟩
 ·obtain ⟨m,⟨o,_,_,ho,_⟩,_⟩:=I.loc;exact free _ o (λz=>(hch _ z).2.1 rfl) ho I.free
 ·obtain ⟨v,o,ho,hd⟩:=I.cell x c e;exact free c o (λz=>(hch c z).2.2.1 x c e rfl) ho (I.freeC x c e)
 ·obtain ⟨e,n,ne,nf,d⟩:=I.pin p hp;have nch:p.1∉ch:=λz=>(hch p.1 z).2.2.2 p hp rfl;exact ⟨keep p.1 p.2 ne nf nch e n,free p.1 p.2 nch e n,ne,nf,d⟩
theorem B6.un (I:B6 X pins U H s) (u:Un X.fs [] H H' s.heap h') (hok:HOk X.prog X.w H' h'):B6 X pins U H' { s with heap:=h',toks:=t' }:=by
 obtain ⟨m,⟨o,es,ep,ho,r⟩,_⟩:=id I.loc;obtain ⟨sl,hL⟩:=u.any ho I.free (by simp);exact I.step (g':=s.gens) (d':=s.drawn) (ch:=[]) (λ_ z=>nomatch z) (λb o _ hb _ e n=>u.keep b o e n hb (by simp)) (λb o _ hb _ e n=>u.slot b o e n hb (by simp)) (λb o _ e n=>u.free b o e n (by simp)) (λb o _ e=>u.there b o e (by simp)) u.tups u.frzs u.tbls (λm' hm=>by
  obtain ⟨o',es',ep',ho',r'⟩:=hm;rw[ho] at ho';cases ho';exact ⟨_,es',ep',hL,r'⟩) hok I.bare
theorem B6.call (I:B6 X pins U H s) (u:Un (frs X.stack) ch H H' s.heap h') (hok:HOk X.prog X.w H' h') (hg:AllBare g')
  (hch:∀ b∈ch,(b∈X.ex\/X.s₀.heap.objs.size<=b)/\b≠X.env.locals/\(∀ x c,X.env.cells.lookup x=some c->c≠b)/\∀ p∈X.pn++pins,p.1≠b) :
  B6 X pins U H' { s with heap:=h',gens:=g',drawn:=d',toks:=t' }:=by
 obtain ⟨m,⟨o,es,ep,ho,r⟩,_⟩:=id I.loc;obtain ⟨sl,hL⟩:=u.any ho I.free λz=>(hch _ z).2.1 rfl;exact I.step (ch:=ch) hch (λb o hL hb hc e n=>u.keep b o e n (λz=>(zk.mp (I.stkSub b z)).elim hL hb) hc) (λb o _ _ hc e n=>u.any e n hc) (λb o hc e n=>u.free b o e n hc) (λb o hc e=>u.there b o e hc) u.tups u.frzs u.tbls (λm' hm=>by
  obtain ⟨o',es',ep',ho',r'⟩:=hm;rw[ho] at ho';cases ho';exact ⟨_,es',ep',hL,r'⟩) hok hg
theorem B6.turned {it:Addr} (I:B6 X pins U H s) (k:∀ b o,b≠it->s.heap.get? b=some o->h'.get? b=some o) (hn:H it=none) (hL:it≠X.env.locals)
  (h1:it∈X.ex\/X.s₀.heap.objs.size<=it) (h2:∀ x c,X.env.cells.lookup x=some c->c≠it) (h3:∀ p∈X.pn++pins,p.1≠it):B6 X pins U H { s with heap:=h',toks:=t' }:=by
 have nit:∀ b u,H b=some u->b≠it:=λb u e z=>by rw[z,hn] at e;cases e
 refine I.step (g':=s.gens) (d':=s.drawn) (ch:=[it]) (λb hb=>?_) (λb o _ _ hc e _=>k b o (λz=>hc (by simp[z])) e) (λb o _ _ hc e _=>⟨o.slots,k b o (λz=>hc (by simp[z])) e⟩) (λ_ _ _ _ n=>n)
  (λb o hc e=>⟨o,k b o (λz=>hc (by simp[z])) e⟩) (λ_ _ e=>e) (λ_ _ _ e=>e) (λb ps e=>⟨#[],by rw[e];simp⟩) (λm hm=>?_) (λb u e=>?_) I.bare
 ·have e:b=it:=by simpa using hb
  subst e;exact ⟨h1,hL,h2,h3⟩
 ·obtain ⟨o,es,ep,ho,r⟩:=hm;exact ⟨o,es,ep,k _ o (Ne.symm hL) ho,r⟩
 ·refine (I.hok b u e).stay (λc v hc q=>k c v ?_ q) (λ_ q=>q) λ_ _ q=>q;rcases hc with z|z
  ·rw[z];exact nit b u e
  ·exact nit c _ z
theorem B6.tok (I:B6 X pins U H s) (t:Nat):B6 X pins U H { s with toks:=t }:=I.un (h':=s.heap) (t':=t) Un.refl I.hok
theorem B6.kept (I:B6 X pins U H s) (k:∀ b u,s.heap.get? b=some u->h'.get? b=some u):B6 X pins U H { s with heap:=h',toks:=t' }:=I.un (Un.kept k) (I.hok.kept k)
theorem B6.laid {a:Addr} (I:B6 X pins U H s) (k:∀ b u,s.heap.get? b=some u->h'.get? b=some u) (hp:s.heap.objs.size<=a) (new:E5 X.prog X.w (upd H a o) h' a o) :
  B6 X pins U (upd H a o) { s with heap:=h',toks:=t' }:=I.un (Un.laid k hp (I.hok.fresh hp)) (I.hok.laid k hp new)
theorem B6.write {x e:Addr} (I:B6 X pins U H s) (mu:Mut (H x)) (he:e=x\/H e=some (.own x)) (k:∀ b u,b≠e->s.heap.get? b=some u->h'.get? b=some u) (heo:∃ u,h'.get? e=some u)
  (new:E5 X.prog X.w (upd H x o) h' x o):B6 X pins U (upd H x o) { s with heap:=h',toks:=t' }:=I.un (Un.write mu he k heo) (I.hok.write mu he k heo new)
theorem B6.pins_of {pins':List (Addr × Obj)} (I:B6 X pins U H s) (h:∀ p∈pins',s.heap.get? p.1=some p.2/\H p.1=none/\p.1≠X.env.locals/\p.1∉X.fs/\∀ v,p.2.data≠.cell v):B6 X pins' U H s :=
 ⟨I.ok,I.os,I.bare,I.base,I.loc,I.cell,I.free,I.freeC,λp hp=>(zj.mp hp).elim (λz=>I.pin p (qz _ z)) (h p),I.hok,I.len⟩
theorem B1g {N:List Str} (hN:N.Nodup) {i j:Nat} {x:Str} (a:N[i]?=some x) (b:N[j]?=some x):i=j:=by
 obtain ⟨h1,e1⟩:=qh.mp a;obtain ⟨h2,e2⟩:=qh.mp b;exact (List.getElem_inj hN).mp (e1.trans e2.symm)
variable {A:Around} {u:Value} {v:V}
theorem A31 {i:Nat} {x:Str} {Q:Unit->Shared->Prop} (I:B6 X pins U H s) (hN:X.N.Nodup) (hi:X.N[i]?=some x) (hx:Loc X.env.scope x) (r:D0 v u)
  (h:∀ s',B6 X pins (U.set i (some v)) H s'->(∃ a,Heap.SameBut a s.heap s'.heap/\(a=X.env.locals\/X.env.cells.lookup x=some a))->Q () s') (hf:X.fn x=true\/X.env.scope.names.lookup x=some .local:=by first|exact .inl rfl|exact .inr rfl|assumption):wpAny M A (storeName X.env x u) Q E s:=by
 obtain ⟨m,hn,hl⟩:=id I.loc;have hcls:(X.env.scope.kind==.class||(X.env.scope.kind==.module&&X.env.locals != X.env.globals))=false:=by rw[I.ok.kind];rfl
 have hiσ:i < U.length:=by rw[I.len];exact (qh.mp hi).1
 have cne:=I.cne;have tracked:∀ {a:Addr} {h':Heap},(∃ o,s.heap.get? a=some o/\H a=none)->Heap.SameBut a s.heap h'->HOk X.prog X.w H h':=λ{a h'} ha hs b ob e=>by
  obtain ⟨_,_,hfree⟩:=ha;refine (I.hok b ob e).stay (λc w' hc q=>(hs.2 c ?_).trans q) (λ_ q=>q) λ_ _ q=>q;rintro rfl;rcases hc with rfl|hc
  ·rw[hfree] at e;cases e
  ·rw[hfree] at hc;cases hc
 rcases hx with hk|hk
 ·refine wpAny_storeName_local hk hn (λh' hn' hs=>?_) hcls;obtain ⟨oL,_,_,hoL,_⟩:=id hn;refine h _ ⟨I.ok,I.os,I.bare,⟨λb o e n hb hx=>?_,λb o e n hb hx=>?_,I.base.free,λb o e hx=>?_,I.base.tups,I.base.frzs,I.base.tbls⟩,⟨_,hn',λj y v' e1 e2 e3=>?_⟩,λy c e=>?_,I.free,I.freeC,λp hp=>?_,tracked ⟨oL,hoL,I.free⟩ hs,by simpa using I.len⟩ ⟨_,hs,.inl rfl⟩
  ·exact (hs.2 b (ze (qr (qi e) I.ok.above))).trans (I.base.keep b o e n hb hx)
  ·obtain ⟨sl,e1⟩:=I.base.slot b o e n hb hx;exact ⟨sl,(hs.2 b (ze (qr (qi e) I.ok.above))).trans e1⟩
  ·obtain ⟨o',e1⟩:=I.base.there b o e hx;exact ⟨o',(hs.2 b (ze (qr (qi e) I.ok.above))).trans e1⟩
  ·by_cases hj:j=i
   ·subst hj;rw[hi] at e1;cases e1;rw[List.getElem?_set_self hiσ] at e2;cases e2;exact ⟨u,r,.inl ⟨hk,by simp⟩⟩
   ·rw[List.getElem?_set_ne (Ne.symm hj)] at e2;obtain ⟨u',r',q⟩:=hl j y v' e1 e2 e3;refine ⟨u',r',?_⟩;rcases q with ⟨k,e⟩|⟨k,c,e,z⟩
    ·refine .inl ⟨k,?_⟩;have:y≠x:=λe=>hj (B1g hN e1 (e ▸ hi));simp[this,e]
    ·exact .inr ⟨k,c,e,z.sameBut hs (cne y c e)⟩
  ·obtain ⟨w',z⟩:=I.cell y c e;exact ⟨w',z.sameBut hs (cne y c e)⟩
  ·obtain ⟨e,n,ne,nf,d⟩:=I.pin p hp;exact ⟨(hs.2 p.1 ne).trans e,n,ne,nf,d⟩
 ·have hfn:X.fn x=true:=by
   rcases hf with z|z
   ·exact z
   ·rw[z] at hk;cases hk
  obtain ⟨c,hc⟩:=I.ok.has x (.inl hk);obtain ⟨w',z⟩:=I.cell x c hc;refine wpAny_storeName_cell I.ok.kind hk hc z (λh' hc' hs=>?_);obtain ⟨oc,hoc,hocd⟩:=id z;refine h { s with heap:=h' } ⟨I.ok,I.os,I.bare,⟨λb o e n hb hx=>?_,λb o e n hb hx=>?_,I.base.free,λb o e hx=>?_,I.base.tups,I.base.frzs,I.base.tbls⟩,⟨m,hn.sameBut hs (Ne.symm (cne x c hc)),λj y v' e1 e2 e3=>?_⟩,λy c' e=>?_,I.free,I.freeC,λp hp=>?_,tracked ⟨oc,hoc,I.freeC x c hc⟩ hs,by simpa using I.len⟩ ⟨c,hs,.inr hc⟩
  ·exact (hs.2 b (ze (qr (qi e) (I.ok.cab x c hfn hc)))).trans (I.base.keep b o e n hb hx)
  ·obtain ⟨sl,e1⟩:=I.base.slot b o e n hb hx;exact ⟨sl,(hs.2 b (ze (qr (qi e) (I.ok.cab x c hfn hc)))).trans e1⟩
  ·obtain ⟨o',e1⟩:=I.base.there b o e hx;exact ⟨o',(hs.2 b (ze (qr (qi e) (I.ok.cab x c hfn hc)))).trans e1⟩
  ·by_cases hj:j=i
   ·subst hj;rw[hi] at e1;cases e1;rw[List.getElem?_set_self hiσ] at e2;cases e2;exact ⟨u,r,.inr ⟨.inl hk,c,hc,hc'⟩⟩
   ·rw[List.getElem?_set_ne (Ne.symm hj)] at e2;obtain ⟨u',r',q⟩:=hl j y v' e1 e2 e3;refine ⟨u',r',?_⟩;rcases q with q|⟨k,c',e,z'⟩
    ·exact .inl q
    ·refine .inr ⟨k,c',e,z'.sameBut hs ?_⟩;rintro rfl;exact hj (B1g hN e1 (I.ok.inj _ _ _ e hc ▸ hi))
  ·by_cases hcc:c'=c
   ·subst hcc;exact ⟨_,hc'⟩
   ·obtain ⟨w2,z2⟩:=I.cell y c' e;exact ⟨w2,z2.sameBut hs hcc⟩
  ·obtain ⟨e,n,ne,nf,d⟩:=I.pin p hp;refine ⟨(hs.2 p.1 ?_).trans e,n,ne,nf,d⟩;intro q;rw[q,hoc] at e;have q':oc=p.2:=zp e;exact d w' (by rw[<-q'];exact hocd)
theorem Z6 {i:Nat} {x:Str} {Q:Unit->Shared->Prop} (I:B6 X pins U H s) (hN:X.N.Nodup) (hi:X.N[i]?=some x) (hx:Loc X.env.scope x) (r:D0 v u)
  (h:∀ s',B6 X pins (U.set i (some v)) H s'->Q () s') (hf:X.fn x=true\/X.env.scope.names.lookup x=some .local:=by first|exact .inl rfl|exact .inr rfl|assumption):wpAny M A (storeName X.env x u) Q E s :=
 A31 I hN hi hx r (λs' I' _=>h s' I') hf
theorem B6.call' (I:B6 X pins U H s) (ho:s'.os=s.os) (u:Un (frs X.stack) ch H H' s.heap s'.heap) (hok:HOk X.prog X.w H' s'.heap) (hg:AllBare s'.gens)
  (hch:∀ b∈ch,(b∈X.ex\/X.s₀.heap.objs.size<=b)/\b≠X.env.locals/\(∀ x c,X.env.cells.lookup x=some c->c≠b)/\∀ p∈X.pn++pins,p.1≠b):B6 X pins U H' s':=by
 obtain ⟨h',g',d',t',o'⟩:=s';have e:o'=s.os:=ho;subst e;exact I.call (g':=g') (t':=t') (d':=d') u hok hg hch
end
abbrev XK:=Value->Option Addr->Hp->Prop
abbrev St:=List (Option V)
abbrev VK:=V->Hp->Prop
abbrev TE:=St->Hp->VK->Prop
abbrev TT:=St->Hp->(Bool->Hp->Prop)->Prop
abbrev TA:=St->Hp->(List V->Hp->Prop)->Prop
structure V7 where
 nx:St->Hp->Prop
 rt:VK
 bk:St->Hp->Prop:=λ_ _=>False
 ct:St->Hp->Prop:=λ_ _=>False
abbrev TS:=V7->St->Hp->Prop
def EP (X:Cx) (pins:List (Addr × Obj)) (U:St) (Q:VK) (u:Value) (s':Shared):Prop:=∃ v H',B6 X pins U H' s'/\D0 v u/\Q v H'
def TP (X:Cx) (pins:List (Addr × Obj)) (U:St) (Q:Bool->Hp->Prop) (b:Bool) (s':Shared):Prop:=∃ H',B6 X pins U H' s'/\Q b H'
def AP (X:Cx) (pins:List (Addr × Obj)) (U:St) (Q:List V->Hp->Prop) (us:List Value) (s':Shared):Prop:=∃ vs H',B6 X pins U H' s'/\C6 vs us/\Q vs H'
def SP (X:Cx) (pins:List (Addr × Obj)) (D:V7) (f:Flow) (s':Shared):Prop :=
 match f with
 | .next=>∃ U' H',B6 X pins U' H' s'/\D.nx U' H'
 | .brk=>∃ U' H',B6 X pins U' H' s'/\D.bk U' H'
 | .cont=>∃ U' H',B6 X pins U' H' s'/\D.ct U' H'
 | .ret u=>∃ v U' H',B6 X pins U' H' s'/\D0 v u/\D.rt v H'
def PE (X:Cx) (e:Expr) (t:TE):Prop :=
 ∀ (pins:List (Addr × Obj)) (s:Shared) (U:St) (H:Hp) (Q:VK),B6 X pins U H s->t U H Q->wpAny (model X.prog X.w) X.A (eval e X.env) (EP X pins U Q) X.xe s
def PT (X:Cx) (e:Expr) (t:TT):Prop :=
 ∀ (pins:List (Addr × Obj)) (s:Shared) (U:St) (H:Hp) (Q:Bool->Hp->Prop),B6 X pins U H s->t U H Q->wpAny (model X.prog X.w) X.A (isTrue e X.env (eval e X.env)) (TP X pins U Q) X.xe s
def PW (X:Cx) (e:Expr) (t:TT):Prop :=
 ∀ (whole:Sem Value) (pins:List (Addr × Obj)) (s:Shared) (U:St) (H:Hp) (Q:Bool->Hp->Prop),B6 X pins U H s->t U H Q->wpAny (model X.prog X.w) X.A (isTrue e X.env whole) (TP X pins U Q) X.xe s
variable {X:Cx} {U:St} {tc:TT} {te tl:TE} {tb:TS}
theorem PW.pt {e:Expr} {t:TT} (h:PW X e t):PT X e t:=h _
def PA (X:Cx) (es:List Expr) (t:TA):Prop :=
 ∀ (pos:Pos) (pins:List (Addr × Obj)) (s:Shared) (U:St) (H:Hp) (Q:List V->Hp->Prop),B6 X pins U H s->t U H Q->wpAny (model X.prog X.w) X.A (spliced (backTo pos (starEach es X.env))) (AP X pins U Q) X.xe s
def PS (X:Cx) (st:Stmt) (t:TS):Prop :=
 ∀ (pins:List (Addr × Obj)) (s:Shared) (U:St) (H:Hp) (D:V7),B6 X pins U H s->t D U H->wpAny (model X.prog X.w) X.A (exec st X.env) (SP X pins D) X.xe s
def PSs (X:Cx) (st:List Stmt) (t:TS):Prop :=
 ∀ (pins:List (Addr × Obj)) (s:Shared) (U:St) (H:Hp) (D:V7),B6 X pins U H s->t D U H->wpAny (model X.prog X.w) X.A (execs st X.env) (SP X pins D) X.xe s
theorem E1 {α:Type} {t:Sem α} {Q Q':α->Shared->Prop} {A:Around} (h:wpAny M A t Q E s) (hQ:∀ a s,Q a s->Q' a s):wpAny M A t Q' E s:=jc h hQ λ_ _ x=>x
section
variable {X:Cx}
theorem bin {a b:Expr} {ta tb:TE} (ha:PE X a ta) (hb:PE X b tb) {H:Hp} {R:V->V->Hp->Prop} (I:B6 X pins U H s) (h:ta U H λx H1=>tb U H1 λy H2=>R x y H2)
  {α:Type} {Q:α->Shared->Prop} {f:Value->Value->Sem α}
  (hf:∀ v u s2 x y H2,B6 X pins U H2 s2->D0 x v->D0 y u->R x y H2->wpAny (model X.prog X.w) X.A (f v u) Q X.xe s2) :
  wpAny (model X.prog X.w) X.A (eval a X.env) (λv s₁=>wpAny (model X.prog X.w) X.A (eval b X.env) (λu s₂=>wpAny (model X.prog X.w) X.A (f v u) Q X.xe s₂) X.xe s₁) X.xe s:=by
 refine E1 (ha pins s U H _ I h) λv s1 ⟨x,H1,I1,r1,q1⟩=>?_;refine E1 (hb pins s1 U H1 _ I1 q1) λu s2 ⟨y,H2,I2,r2,q2⟩=>?_;exact hf v u s2 x y H2 I2 r1 r2 q2
def Z1 (i:Nat):TE:=λU H Q=>∃ v,U[i]?=some (some v)/\Q v H
def tC (v:V):TE:=λ_ H Q=>Q v H
theorem D10 {i:Nat} {x:Str} {pos:Pos} (hN:X.N[i]?=some x) (hv:Vis X.env.scope x) (hd:noD x:=by decide) (hcd:(x==("__classdict__":Str))=false:=by decide):PE X (.Name x pos) (Z1 i):=by
 intro pins s U H Q I h;obtain ⟨v,e,h⟩:=h;obtain ⟨m,hn,hl⟩:=I.loc;obtain ⟨u,r,l⟩:=hl i x v hN e hv;have fin:EP X pins U Q u s:=⟨v,H,I,r,h⟩;rcases l with ⟨hk,hm⟩|⟨hk,c,hc,hcell⟩
 ·exact wpAny_Name (wpAny_loadName_local I.ok.kind hk hn hm fin) hd
 ·rcases hk with hk|hk
  ·exact wpAny_Name (wpAny_loadName_cell I.ok.kind hk hc hcell fin) hd
  ·exact wpAny_Name (wpAny_loadName_free I.ok.kind hk hc hcell fin hcd) hd
theorem C11 {i j pos}:PE X (.Constant (.int i) j pos) (tC (.int i)):=λ_ _ _ H _ I h=>wpAny_Constant_int ⟨.int i,H,I.tok _,⟨_,rfl⟩,h⟩
theorem C23 {b j pos}:PE X (.Constant (.bool b) j pos) (tC (.bl b)):=λ_ _ _ H _ I h=>Constant_bool ⟨.bl b,H,I,rfl,h⟩
theorem D27 {j pos}:PE X (.Constant .none j pos) (tC .non):=λ_ _ _ H _ I h=>Constant_none ⟨.non,H,I,rfl,h⟩
theorem D14 {x j pos}:PE X (.Constant (.str x) j pos) (tC (.str x)):=λ_ _ _ H _ I h=>Calls.Constant_str ⟨.str x,H,I.tok _,⟨_,rfl⟩,h⟩
def Gl (X:Cx) (x:Str):Prop:=X.env.kindOf x=some .globalImplicit
variable {u:Value}
theorem U2 {H:Hp} {x:Str} {pos:Pos} (I:B6 X pins U H s) (hg:Gl X x) (hm:X.mg x=some u) (h:Q u s)
  (hd:noD x:=by decide):wpAny (model X.prog X.w) X.A (eval (.Name x pos) X.env) Q E s :=
 Calls.Name_function_global I.ok.kind hg (Calls.loadGlobal_global (by rw[I.ok.glob];exact I.mod.glob.keeps I.bk) hm h) hd
theorem A5z {H:Hp} {x:Str} {pos:Pos} (I:B6 X pins U H s) (hg:Gl X x) (hm:X.mg x=none) (hv:bootBuiltins x=some u) (h:Q u s)
  (hn:x≠"__name__":=by decide) (hd:noD x:=by decide):wpAny (model X.prog X.w) X.A (eval (.Name x pos) X.env) Q E s:=by
 obtain ⟨mb,h1,h2⟩:=I.mod.blt;exact Calls.Name_function_global I.ok.kind hg (Calls.loadGlobal_builtin (by rw[I.ok.glob];exact I.mod.glob.keeps I.bk) hm (by rw[I.ok.blt];exact h1.keeps I.bk) ((h2 x hn).trans hv) h) hd
theorem A8l {x:Str} {v:V} {pos:Pos} (hg:Gl X x) (hm:X.mg x=some u) (r:D0 v u) (hd:noD x:=by decide):PE X (.Name x pos) (tC v) :=
 λ_ _ _ H _ I h=>U2 I hg hm ⟨v,H,I,r,h⟩ hd
theorem C81 {x:Str} {v:V} {pos:Pos} (hg:Gl X x) (hm:X.mg x=none) (hv:bootBuiltins x=some u) (r:D0 v u) (hn:x≠"__name__":=by decide) (hd:noD x:=by decide):PE X (.Name x pos) (tC v) :=
 λ_ _ _ H _ I h=>A5z I hg hm hv ⟨v,H,I,r,h⟩ hn hd
variable {a b:Expr} {ta tb:TE} {pos:Pos}
def PC (X:Cx) (op:CmpOp) (a b:Expr) (t:TE):Prop :=
 ∀ (pins:List (Addr × Obj)) (s:Shared) (U:St) (H:Hp) (Q:VK),B6 X pins U H s->t U H Q ->
  wpAny (model X.prog X.w) X.A (eval a X.env) (λv s₁=>wpAny (model X.prog X.w) X.A (eval b X.env) (λu s₂=>wpAny (model X.prog X.w) X.A (compareOp op v u) (EP X pins U Q) X.xe s₂) X.xe s₁) X.xe s
def tB (t:TE):TT:=λU H Q=>t U H λx H1=>∃ c,x=.bl c/\Q c H1
theorem D44 {op:CmpOp} {t:TE} (h:PC X op a b t) (h1:behindInMarks op b=false:=by first|exact nobehind _ (by decide) (by decide)|rfl):PE X (.Compare a [op] [b] pos) t:=λpins s U H Q I hw=>wpAny_Compare1 (h pins s U H Q I hw) h1
theorem C2h {op:CmpOp} {t:TE} (h:PC X op a b t) (h1:behindInMarks op b=false:=by first|exact nobehind _ (by decide) (by decide)|rfl):PT X (.Compare a [op] [b] pos) (tB t):=by
 intro pins s U H Q I hw;refine wpAny_isTrue_Compare1 (E1 (h pins s U H _ I hw) λv s1 h1=>E1 h1 λu s2 h2=>E1 h2 λc s3 ⟨x,H1,I1,r1,q1⟩=>?_) h1;obtain ⟨d,rfl,q⟩:=q1;cases r1;exact wpAny_truthy_bool ⟨H1,I1,q⟩
theorem D12 {e:Expr} {t:TE} (h:PE X e t) (he:∀ whole,isTrue e X.env whole=(do let v <- whole;standAt e.pos;holding [v] (truthy v)):=by intro _;rfl):PT X e (tB t):=by
 intro pins s U H Q I hw;refine isTrue_plain (E1 (h pins s U H _ I hw) λv s1 ⟨x,H1,I1,r1,q1⟩=>?_) (he _);obtain ⟨d,rfl,q⟩:=q1;cases r1;exact wpAny_truthy_bool ⟨H1,I1,q⟩
variable {tA tB':TT} {rest:List Expr}
def D3v (t u:TT):TT:=λU H Q=>t U H λc H1=>if c=true then u U H1 Q else Q false H1
def tOr (t u:TT):TT:=λU H Q=>t U H λc H1=>if c=true then Q true H1 else u U H1 Q
def D7e (t:TT):TT:=λU H Q=>t U H λc H1=>Q (!c) H1
theorem C7y (ha:PT X a tA):PW X (.BoolOp .And [a] pos) tA:=by
 intro wh pins s U H Q I h;refine isTrue_and (E1 (ha pins s U H Q I h) λc s1 e=>?_);cases c with
 | true=>exact isTrue_and_nil e
 | false=>exact e
theorem D1z (ha:PT X a tA):PW X (.BoolOp .Or [a] pos) tA:=by
 intro wh pins s U H Q I h;refine isTrue_or (E1 (ha pins s U H Q I h) λc s1 e=>?_);cases c with
 | false=>exact isTrue_or_nil e
 | true=>exact e
theorem D5a (ha:PT X a tA) (hb:PW X (.BoolOp .And (b::rest) pos) tB'):PW X (.BoolOp .And (a::b::rest) pos) (D3v tA tB'):=by
 intro wh pins s U H Q I h;refine isTrue_and (E1 (ha pins s U H _ I h) λc s1 ⟨H1,I1,q1⟩=>?_);cases c with
 | true=>exact hb wh pins s1 U H1 Q I1 q1
 | false=>exact ⟨H1,I1,q1⟩
theorem D64 (ha:PT X a tA) (hb:PW X (.BoolOp .Or (b::rest) pos) tB'):PW X (.BoolOp .Or (a::b::rest) pos) (tOr tA tB'):=by
 intro wh pins s U H Q I h;refine isTrue_or (E1 (ha pins s U H _ I h) λc s1 ⟨H1,I1,q1⟩=>?_);cases c with
 | true=>exact ⟨H1,I1,q1⟩
 | false=>exact hb wh pins s1 U H1 Q I1 q1
theorem D4b (ha:PT X a tA):PT X (.UnaryOp .Not a pos) (D7e tA):=by
 intro pins s U H Q I h;exact isTrue_not (ha pins s U H (λc H1=>Q (!c) H1) I h)
def C98 (ta tb:TE):TE:=λU H Q=>ta U H λx H1=>∃ c,x=.bl c/\if c=true then tb U H1 Q else Q (.bl false) H1
def C9y (ta:TE):TE:=λU H Q=>ta U H λx H1=>∃ c,x=.bl c/\Q (.bl (!c)) H1
theorem D4m {op} {t:TE} (h:PE X a t):PE X (.BoolOp op [a] pos) t:=λpins s U H Q I hw=>BoolOp_one (h pins s U H Q I hw)
theorem D40 (ha:PE X a ta) (hb:PE X (.BoolOp .And (b::rest) pos) tb):PE X (.BoolOp .And (a::b::rest) pos) (C98 ta tb):=by
 intro pins s U H Q I h;refine BoolOp_and (E1 (ha pins s U H _ I h) λv s1 ⟨x,H1,I1,r1,q1⟩=>?_);obtain ⟨c,rfl,q1⟩:=q1;cases r1;refine wpAny_truthy_bool ?_;cases c with
 | true=>exact hb pins s1 U H1 Q I1 q1
 | false=>exact ⟨.bl false,H1,I1,rfl,q1⟩
theorem D5p (ha:PE X a ta):PE X (.UnaryOp .Not a pos) (C9y ta):=by
 intro pins s U H Q I h;refine UnaryOp_ (E1 (ha pins s U H _ I h) λv s1 ⟨x,H1,I1,r1,q1⟩=>?_);obtain ⟨c,rfl,q1⟩:=q1;cases r1;exact not_of (wpAny_truthy_bool ⟨.bl (!c),H1,I1,rfl,q1⟩)
end
def O5 (K:W.Frag) (H:Hp) (a:Addr) (xs:List V):Prop :=
 Rd H a (.lst xs) \/
  ∃ (o:Obj) (its:Array Value) (n:Nat),K.lookup a=some o/\o.cls=.type "list"/\o.dict=none/\o.data=.seq its n/\its.size<=sizeLine/\C6 xs its.toList
def V2 (K:W.Frag) (H:Hp) (a:Addr) (xs:List V):Prop :=
 Rd H a (.tup xs) \/
  ∃ (o:Obj) (its:Array Value) (n:Nat),K.lookup a=some o/\o.cls=.type "tuple"/\o.data=.seq its n/\its.size<=sizeLine/\C6 xs its.toList
def E0u:Value->Option V
 | .none=>some .non
 | .bool b=>some (.bl b)
 | .int i _=>some (.int i)
 | .str x _=>some (.str x)
 | .bytes b _=>some (.byt b)
 | .float b _=>some (.flt b)
 | .ref a=>some (.ref a)
 | .type n=>some (.ty n)
 | _=>none
theorem D0.abs {x:V} {u:Value} (r:D0 x u):E0u u=some x:=by
 cases x with
 | non=>cases r;rfl
 | bl _=>cases r;rfl
 | int _=>obtain ⟨t,rfl⟩:=r;rfl
 | str _=>obtain ⟨t,rfl⟩:=r;rfl
 | byt _=>obtain ⟨t,rfl⟩:=r;rfl
 | flt _=>obtain ⟨t,rfl⟩:=r;rfl
 | ref _=>cases r;rfl
 | ty _=>cases r;rfl
theorem D0.inj {x y:V} {u:Value} (r:D0 x u) (q:D0 y u):x=y:=zp (r.abs.symm.trans q.abs)
theorem C6.inj:∀ {xs ys:List V} {us:List Value},C6 xs us->C6 ys us->xs=ys
 | _,_,_,.nil,.nil=>rfl
 | _,_,_,.cons r t,.cons r' t'=>by rw[r.inj r',C6.inj t t']
section
variable {X:Cx} {pins:List (Addr × Obj)} {U:St} {H:Hp} {s:Shared} {a:Addr} {xs ys:List V}
variable {K:W.Frag}
theorem O5.of (h:H a=some (.lst xs)):O5 K H a xs:=.inl (.inl h)
theorem V2.of (h:H a=some (.tup xs)):V2 K H a xs:=.inl (.inl h)
theorem B6.list (I:B6 X pins U H s) (h:O5 X.K H a xs):∃ its:List Value,C6 xs its/\PlainL s.heap a its.toArray/\xs.length<=sizeLine:=by
 rcases h with h|⟨o,its,n,hk,hc,hd,hs,hz,r⟩
 ·obtain ⟨z,its,n,r,e⟩:=h.ok I.hok;exact ⟨its,r,⟨_,n,e,rfl,rfl,rfl⟩,z⟩
 ·refine ⟨its.toList,r,⟨o,n,I.kIn a o hk,hc,hd,by simpa using hs⟩,?_⟩;have e:=r.length;simp only[qj] at e;lia
theorem B6.tuple (I:B6 X pins U H s) (h:V2 X.K H a xs):∃ its:List Value,C6 xs its/\IsTup s.heap a its.toArray/\xs.length<=sizeLine:=by
 rcases h with h|⟨o,its,n,hk,hc,hs,hz,r⟩
 ·obtain ⟨z,its,r,p⟩:=h.ok I.hok;exact ⟨its,r,p,z⟩
 ·refine ⟨its.toList,r,⟨o,I.kIn a o hk,hc,n,by simpa using hs⟩,?_⟩;have e:=r.length;simp only[qj] at e;lia
theorem B6.list_inj (I:B6 X pins U H s) (h:O5 X.K H a xs) (h':O5 X.K H a ys):xs=ys:=by
 obtain ⟨its,r,⟨o,n,e,_,_,d⟩,_⟩:=I.list h;obtain ⟨its',r',⟨o',n',e',_,_,d'⟩,_⟩:=I.list h';rw[e] at e';cases e';rw[d] at d';injection d' with d1 _
 have:its=its':=by simpa using congrArg Array.toList d1
 subst this;exact r.inj r'
theorem B6.tuple_inj (I:B6 X pins U H s) (h:V2 X.K H a xs) (h':V2 X.K H a ys):xs=ys:=by
 obtain ⟨its,r,⟨o,e,_,n,d⟩,_⟩:=I.tuple h;obtain ⟨its',r',⟨o',e',_,n',d'⟩,_⟩:=I.tuple h';rw[e] at e';cases e';rw[d] at d';injection d' with d1 _
 have:its=its':=by simpa using congrArg Array.toList d1
 subst this;exact r.inj r'
end
abbrev Cx.wish (X:Cx) (E:Value->Shared->Prop):Cx:={ X with xe:=E }
abbrev Cx.nox (X:Cx):Cx:=X.wish λ_ _=>False
theorem Cx.Ok.wish (ok:X.Ok) (E:Value->Shared->Prop):(X.wish E).Ok :=
 ⟨ok.mod,ok.kind,ok.glob,ok.blt,ok.above,ok.inj,ok.has,ok.cab,ok.hd,ok.frames,ok.stk,ok.exf,ok.bs,ok.bsz,ok.noex,ok.exfs,ok.funs,ok.frf⟩
theorem Cx.Ok.unwish (ok:(X.wish E).Ok):X.Ok :=
 ⟨ok.mod,ok.kind,ok.glob,ok.blt,ok.above,ok.inj,ok.has,ok.cab,ok.hd,ok.frames,ok.stk,ok.exf,ok.bs,ok.bsz,ok.noex,ok.exfs,ok.funs,ok.frf⟩
section
variable {X:Cx} {pins:List (Addr × Obj)} {U:St} {H:Hp} {s:Shared} {E:Value->Shared->Prop}
theorem B6.wish (I:B6 X pins U H s) (E:Value->Shared->Prop):B6 (X.wish E) pins U H s:=⟨I.ok.wish E,I.os,I.bare,I.base,I.loc,I.cell,I.free,I.freeC,I.pin,I.hok,I.len⟩
theorem B6.unwish (I:B6 (X.wish E) pins U H s):B6 X pins U H s:=⟨I.ok.unwish,I.os,I.bare,I.base,I.loc,I.cell,I.free,I.freeC,I.pin,I.hok,I.len⟩
theorem SP.unwish {D:V7} {f:Flow} (h:SP (X.wish E) pins D f s'):SP X pins D f s':=by
 cases f with
 | next=>obtain ⟨U',H',I,q⟩:=h;exact ⟨U',H',I.unwish,q⟩
 | brk=>obtain ⟨U',H',I,q⟩:=h;exact ⟨U',H',I.unwish,q⟩
 | cont=>obtain ⟨U',H',I,q⟩:=h;exact ⟨U',H',I.unwish,q⟩
 | ret u=>obtain ⟨v,U',H',I,r,q⟩:=h;exact ⟨v,U',H',I.unwish,r,q⟩
theorem PT.nox {e:Expr} {t:TT} (h:PT X.nox e t):PT X e t:=λpins s U H Q I hw =>
 jc (h pins s U H Q (I.wish _) hw) (λ_ _ ⟨H',I',q⟩=>⟨H',I'.unwish,q⟩) λ_ _ z=>False.elim z
theorem PSs.nox {st:List Stmt} {t:TS} (h:PSs X.nox st t):PSs X st t:=λpins s U H D I hw =>
 jc (h pins s U H D (I.wish _) hw) (λ_ _ q=>q.unwish) λ_ _ z=>False.elim z
end
section
variable {X:Cx} {st:Stmt} {rest:List Stmt} {t u:TS} {e:Expr} {te:TE} {pos:Pos}
def C9n:TS:=λD U H=>D.nx U H
def D8d (t u:TS):TS:=λD U H=>t { D with nx:=u D } U H
theorem C89:PSs X [] C9n:=λ_ _ U H _ I h=>wpAny_execs_nil ⟨U,H,I,h⟩
theorem C0k (h1:PS X st t) (h2:PSs X rest u):PSs X (st::rest) (D8d t u):=by
 intro pins s U H D I h;refine wpAny_execs_cons (E1 (h1 pins s U H { D with nx:=u D } I h) λf s1 q=>?_);cases f with
 | next =>
  obtain ⟨U',H',I',q⟩:=q;exact h2 pins s1 U' H' D I' q
 | ret v=>exact q
 | brk=>exact q
 | cont=>exact q
theorem C7g (h1:PS X st t):PSs X [st] t:=by
 intro pins s U H D I h;refine wpAny_execs_cons (E1 (h1 pins s U H D I h) λf s1 q=>?_);cases f with
 | next=>exact wpAny_execs_nil q
 | ret v=>exact q
 | brk=>exact q
 | cont=>exact q
theorem B6.quiet {H:Hp} (I:B6 X pins U H s):interactive X.env=false:=by simp[interactive,I.ok.kind]
def C9e (te:TE):TS:=λD U H=>te U H λ_ H1=>D.nx U H1
theorem C4x (he:PE X e te) (hs:swapsWith e none pos.line X.env=pure false:=by rfl):PS X (.Expr e pos) (C9e te):=by
 intro pins s U H D I h;exact wpAny_Expr_any (E1 (he pins s U H _ I h) λv s1 ⟨x,H1,I1,r1,q1⟩=>⟨U,H1,I1,q1⟩) I.quiet hs
def D77 (te:TE):TS:=λD U H=>te U H D.rt
theorem D59 (he:PE X e te):PS X (.Return (some e) pos) (D77 te):=by
 intro pins s U H D I h;exact wpAny_Return_some (E1 (he pins s U H _ I h) λv s1 ⟨x,H1,I1,r1,q1⟩=>⟨x,U,H1,I1,r1,q1⟩)
def D6h (c:TT) (t u:TS):TS:=λD U H=>c U H λb H1=>if b=true then t D U H1 else u D U H1
theorem D7v {a b:List Stmt} (hc:PT X c tc) (ha:PSs X a t) (hb:PSs X b u):PS X (.If c a b pos) (D6h tc t u):=by
 intro pins s U H D I h;refine wpAny_If (E1 (hc pins s U H _ I h) λd s1 ⟨H1,I1,q1⟩=>?_);cases d with
 | true=>exact ha pins s1 U H1 D I1 q1
 | false=>exact hb pins s1 U H1 D I1 q1
end
abbrev TG:=V->St->Hp->(St->Hp->Prop)->Prop
abbrev TGs:=List V->St->Hp->(St->Hp->Prop)->Prop
def PG (X:Cx) (target:Expr) (t:TG):Prop :=
 ∀ (pins:List (Addr × Obj)) (s:Shared) (U:St) (H:Hp) (v:V) (u:Value) (Q:St->Hp->Prop),B6 X pins U H s->D0 v u->t v U H Q ->
  wpAny (model X.prog X.w) X.A (assign target X.env u) (λ_ s'=>∃ U' H',B6 X pins U' H' s'/\Q U' H') X.xe s
def PGs (X:Cx) (ts:List Expr) (t:TGs):Prop :=
 ∀ (pins:List (Addr × Obj)) (s:Shared) (U:St) (H:Hp) (vs:List V) (us:List Value) (Q:St->Hp->Prop),B6 X pins U H s->C6 vs us->t vs U H Q ->
  wpAny (model X.prog X.w) X.A (assignInOrder ((assignEach ts X.env).map (·.2)) us) (λ_ s'=>∃ U' H',B6 X pins U' H' s'/\Q U' H') X.xe s
abbrev TIp:=V->V->Hp->VK->Prop
def PIp (X:Cx) (op:Operator) (t:TIp):Prop :=
 ∀ (pins:List (Addr × Obj)) (s:Shared) (U:St) (H:Hp) (x y:V) (v u:Value) (Q:VK),B6 X pins U H s->D0 x v->D0 y u->t x y H Q ->
  wpAny (model X.prog X.w) X.A (inplaceOp op v u) (EP X pins U Q) X.xe s
section
variable {X:Cx} {pos:Pos}
def N1 (i:Nat):TG:=λv U H Q=>Q (U.set i (some v)) H
theorem C72 {i:Nat} {x:Str} (hN:X.N.Nodup) (hi:X.N[i]?=some x) (hx:Loc X.env.scope x) (hf:X.fn x=true\/X.env.scope.names.lookup x=some .local:=by first|exact .inl rfl|exact .inr rfl|assumption):PG X (.Name x pos) (N1 i):=by
 intro pins s U H v u Q I r h;exact wpAny_assign_Name (Z6 I hN hi hx r (λs' I'=>⟨_,H,I',h⟩) hf)
def D4p:TGs:=λvs U H Q=>vs=[]/\Q U H
def B9v (t:TG) (u:TGs):TGs:=λvs U H Q=>∃ v r,vs=v::r/\t v U H λU' H'=>u r U' H' Q
theorem C5i:PGs X [] D4p:=by
 intro pins s U H vs us Q I r h;obtain ⟨e,h⟩:=h;subst e;cases r;exact assignInOrder_nil ⟨U,H,I,h⟩
variable {e:Expr}
theorem B9c {es:List Expr} {t:TG} {u:TGs} (h1:PG X e t) (h2:PGs X es u)
  (hs:(assignEach (e::es) X.env).map (·.2)=assign e X.env::(assignEach es X.env).map (·.2):=by rfl):PGs X (e::es) (B9v t u):=by
 intro pins s U H vs us Q I r h;obtain ⟨v,vr,e1,h⟩:=h;subst e1;cases r with
 | cons r rr =>
  rw[hs];refine assignInOrder_cons (E1 (h1 pins s U H _ _ _ I r h) λ_ s1 ⟨σ1,H1,I1,q1⟩=>?_);exact h2 pins s1 σ1 H1 _ _ Q I1 rr q1
def D50 (K:W.Frag) (n:Nat) (t:TGs):TG:=λv U H Q=>∃ a xs,v=.ref a/\V2 K H a xs/\xs.length=n/\t xs U H Q
theorem D4t {es:List Expr} {k:Nat} {t:TGs} {n:Nat} (hc:X.calm=true) (h:PGs X es t)
  (hn:(assignEach es X.env).length=n:=by rfl) (hst:(assignEach es X.env).findIdx? (·.1)=none:=by rfl):PG X (.Tuple es k pos) (D50 X.K n t):=by
 intro pins s U H v u Q I r hw;obtain ⟨a,xs,e1,hq,hl,hw⟩:=hw;subst e1;cases r;obtain ⟨its,rv,ht,hz⟩:=I.tuple hq;refine assign_Tuple_tuple (I.ok.hd hc) ht (by simp[hn,<-hl,rv.length]) hst λh' hx=>?_;have I1:B6 X pins U H { s with heap:=h' }:=I.kept (t':=s.toks) λb o e=>hx b o (ze (qi e)) e;exact h pins _ U H xs _ Q I1 (by simpa using rv) hw
def B18 (te:TE) (g:TG):TS:=λD U H=>te U H λx H1=>g x U H1 D.nx
theorem D4a {g:TG} (he:PE X e te) (hg:PG X tg g) (hs:swapsWithSole [tg] e pos.line X.env=pure false:=by rfl) (hw:swappedStores [tg] e X.env=pure none:=by rfl)
  (h1:(assignEach [tg] X.env).map (·.2)=[assign tg X.env]:=by rfl):PS X (.Assign [tg] e pos) (B18 te g):=by
 intro pins s U H D I h;refine wpAny_Assign_stores (E1 (he pins s U H _ I h) λv s1 ⟨x,H1,I1,r1,q1⟩=>?_) hs hw;rw[h1];exact E1 (hg pins s1 U H1 x v _ I1 r1 q1) λ_ s2 q=>q
theorem D2n {i:Nat} {x:Str} (hN:X.N.Nodup) (hi:X.N[i]?=some x) (hx:Loc X.env.scope x) (he:PE X e te) (hs:swapsWith e (some (.Name x pos')) pos.line X.env=pure false:=by rfl) (hf:X.fn x=true\/X.env.scope.names.lookup x=some .local:=by first|exact .inl rfl|exact .inr rfl|assumption) :
  PS X (.Assign [.Name x pos'] e pos) (B18 te (N1 i)):=by
 intro pins s U H D I h;refine wpAny_Assign_Name (E1 (he pins s U H _ I h) λv s1 ⟨y,H1,I1,r1,q1⟩=>?_) hs;exact Z6 I1 hN hi hx r1 (λs2 I2=>⟨_,H1,I2,q1⟩) hf
def D8f (i:Nat) (te:TE) (ti:TIp):TS:=λD U H=>∃ x,U[i]?=some (some x)/\te U H λy H1=>ti x y H1 λz H2=>D.nx (U.set i (some z)) H2
theorem D0j {i:Nat} {x:Str} {op:Operator} {ti:TIp} (hN:X.N.Nodup) (hi:X.N[i]?=some x) (hx:Loc X.env.scope x) (he:PE X e te) (ho:PIp X op ti) (hf:X.fn x=true\/X.env.scope.names.lookup x=some .local:=by first|exact .inl rfl|exact .inr rfl|assumption) :
  PS X (.AugAssign (.Name x pos') op e pos) (D8f i te ti):=by
 intro pins s U H D I h;obtain ⟨v,e1,h⟩:=h;obtain ⟨m,hn,hl⟩:=I.loc;have vis:Vis X.env.scope x:=by rcases hx with k|k;exact .inl k;exact .inr (.inl k)
 obtain ⟨u,r,l⟩:=hl i x v hi e1 vis;refine wpAny_AugAssign_Name ?_;have go:wpAny (model X.prog X.w) X.A (eval e X.env) (λw s₂=>wpAny (model X.prog X.w) X.A (inplaceOp op u w) (λr s₃=>wpAny (model X.prog X.w) X.A (storeName X.env x r) (λ_=>SP X pins D .next) X.xe s₃) X.xe s₂) X.xe s:=by
  refine E1 (he pins s U H _ I h) λw s1 ⟨y,H1,I1,r1,q1⟩=>?_;refine E1 (ho pins s1 U H1 v y u w _ I1 r r1 q1) λz s2 ⟨zv,H2,I2,r2,q2⟩=>?_;exact Z6 I2 hN hi hx r2 (λs3 I3=>⟨_,H2,I3,q2⟩) hf
 rcases l with ⟨hk,hm⟩|⟨hk,c,hc,hcell⟩
 ·exact wpAny_loadName_local I.ok.kind hk hn hm go
 ·rcases hk with hk|hk
  ·exact wpAny_loadName_cell I.ok.kind hk hc hcell go
  ·rcases hx with k|k
   ·have:X.env.scope.names.lookup x=some .free:=hk;rw[k] at this;cases this
   ·have:X.env.scope.names.lookup x=some .free:=hk;rw[k] at this;cases this
def ipI (f:Int->Int->Int):TIp:=λx y H Q=>∃ i j,x=.int i/\y=.int j/\Q (.int (f i j)) H
theorem D0s:PIp X .Add (ipI λi j=>i+j):=by
 intro pins s U H x y v u Q I r1 r2 h;obtain ⟨i,j,e1,e2,q⟩:=h;subst e1;subst e2;obtain ⟨t,rfl⟩:=r1;obtain ⟨t',rfl⟩:=r2;exact iadd_int ⟨.int _,H,I.tok _,⟨_,rfl⟩,q⟩
def B9q (c:TT) (tb:TS):TS:=λD U H=>∃ W:Nat->St->Hp->Prop,(∃ m,W m U H)/\∀ m U H,W m U H ->
 c U H λb H1=>if b=true then ∃ N:St->Hp->Prop,(∀ U' H',N U' H'->∃ m',m' < m/\W m' U' H')/\tb { D with nx:=N,ct:=N,bk:=D.nx } U H1 else D.nx U H1
theorem C3b (hp:PassesOwn (model X.prog X.w) X.A X.env X.xe) (hc:PT X c tc) (hb:PSs X body tb):PS X (.While c body [] pos) (B9q tc tb):=by
 intro pins s U H D I h;obtain ⟨W,⟨m0,w0⟩,turn⟩:=h;refine wpAny_While (codeAny_whileLoop (λn s'=>∃ U' H',B6 X pins U' H' s'/\W n U' H') ?_ m0 ⟨U,H,I,w0⟩);rintro n s1 ⟨σ1,H1,I1,w1⟩;refine wpAny_passesOwn hp (E1 (hc pins s1 σ1 H1 _ I1 (turn n σ1 H1 w1)) λb s2 ⟨H2,I2,q2⟩=>?_);cases b with
 | true =>
  obtain ⟨N,hN,q2⟩:=q2;rw[qm rfl];refine wpAny_passesOwn hp (E1 (hb pins s2 σ1 H2 _ I2 q2) λf s3 q3=>?_);cases f with
  | next =>
   obtain ⟨σ3,H3,I3,n3⟩:=q3;obtain ⟨m',hm,w3⟩:=hN σ3 H3 n3;exact ⟨m',hm,σ3,H3,I3,w3⟩
  | cont =>
   obtain ⟨σ3,H3,I3,n3⟩:=q3;obtain ⟨m',hm,w3⟩:=hN σ3 H3 n3;exact ⟨m',hm,σ3,H3,I3,w3⟩
  | brk=>exact q3
  | ret v=>exact q3
 | false =>
  rw[qo qt];exact wpAny_execs_nil ⟨σ1,H2,I2,q2⟩
end
structure It where
 go:Nat->Hp->Prop
 yld:Nat->Hp->V->Hp->Prop
 stop:Nat->Hp->Prop
def V5 (X:Cx) (pins:List (Addr × Obj)) (H:Hp) (b:Addr):Prop :=
 H b=none/\b≠X.env.locals/\b∉X.fs/\(b∈X.ex\/X.s₀.heap.objs.size<=b)/\(∀ x c,X.env.cells.lookup x=some c->c≠b)/\∀ p∈X.pn++pins,p.1≠b
theorem B6.fpOk {H H':Hp} {b:Addr} (I:B6 X pins U H s) (hb:s.heap.objs.size<=b) (hn:H' b=none):V5 X pins H' b:=by
 refine ⟨hn,Nat.ne_of_gt (qr I.lt hb),I.nofs hb,.inr (zn I.sz hb),λx c e z=>?_,λp hp z=>?_⟩
 ·obtain ⟨v,q⟩:=I.cell x c e;exact absurd (qr q.lt (by rw[z];exact hb)) (Nat.lt_irrefl _)
 ·exact absurd (qr (qi (I.pin p hp).1) (by rw[z];exact hb)) (Nat.lt_irrefl _)
structure B1l (P:Program) (w:World) (K:W.Frag) (tg:Expr) (J:It) (fp:List Addr) (it:Addr) (tn:Nat->Heap->Prop):Prop where
 mem:it∈fp
 obj:∀ i h,tn i h->∀ b∈fp,∃ o,h.get? b=some o/\∀ v,o.data≠.cell v
 keep:∀ i h h',tn i h->(∀ b∈fp,∀ o,h.get? b=some o->h'.get? b=some o)->tn i h'
 item:∀ (X:Cx),X.prog=P->X.w=w->X.K=K->X.calm=true->∀ (i:Nat) (pins:List (Addr × Obj)) (s:Shared) (U:St) (H:Hp) (E:Value->Shared->Prop),B6 X pins U H s->(∀ b∈fp,V5 X pins H b)->tn i s.heap->J.go i H ->
  wpAny (model P w) X.A (pyNext (.ref it)) (λr s1=>∃ u,r=some u /\
   wpAny (model P w) X.A (letOwnedTupleGo tg (.ref it) u) (λ_ s2=>∃ x H',B6 X pins U H' s2/\D0 x u/\J.yld i H x H'/\tn (i+1) s2.heap/\∀ b∈fp,H' b=none) E s1) E s
 done:∀ (X:Cx),X.prog=P->X.w=w->X.K=K->X.calm=true->∀ (i:Nat) (pins:List (Addr × Obj)) (s:Shared) (U:St) (H:Hp) (E:Value->Shared->Prop),B6 X pins U H s->(∀ b∈fp,V5 X pins H b)->tn i s.heap->J.stop i H ->
  wpAny (model P w) X.A (pyNext (.ref it)) (λr s1=>r=none/\B6 X pins U H s1) E s
 self:∀ (A:Around) (i:Nat) (s:Shared) (Q:Value->Shared->Prop) (E:Value->Shared->Prop),tn i s.heap->Q (.ref it) s->wpAny (model P w) A (pyIter (.ref it)) Q E s
abbrev TI:=St->Hp->(It->Hp->Prop)->Prop
def PIE (X:Cx) (pins:List (Addr × Obj)) (U:St) (tg:Expr) (R:It->Hp->Prop) (itv:Value) (s2:Shared):Prop :=
 ∃ (it:Addr) (fp:List Addr) (tn:Nat->Heap->Prop) (J:It) (H':Hp),itv=.ref it/\B6 X pins U H' s2/\B1l X.prog X.w X.K tg J fp it tn/\tn 0 s2.heap/\(∀ b∈fp,V5 X pins H' b)/\R J H'
def PI (X:Cx) (tg iter:Expr) (wi:TI):Prop :=
 ∀ (pins:List (Addr × Obj)) (s:Shared) (U:St) (H:Hp) (R:It->Hp->Prop),B6 X pins U H s->wi U H R ->
  wpAny (model X.prog X.w) X.A (eval iter X.env) (λv s1=>wpAny (model X.prog X.w) X.A (pyIter v) (PIE X pins U tg R) X.xe s1) X.xe s
theorem B0w {A:Around} {it:Addr} {u:Value} {o:Obj} {n:String} {vs:Array Value} {Q:Unit->Shared->Prop} (ho:s.heap.get? it=some o) (hc:o.cls=.type n) (hd:o.data=.fields vs)
  (hn:["enumerate","zip","dict_itemiterator","dict_reverseitemiterator","odict_iterator","itertools.zip_longest","itertools.pairwise"].contains n=false) (hQ:Q () s):wpAny M A (letOwnedTupleGo tg (.ref it) u) Q E s:=by
 unfold letOwnedTupleGo;cases tg<;>first
  | exact qc hQ
  | (cases u<;>first
    | exact qc hQ
    | (refine qb (wpAny_load ho ?_)
       rw[hc,hd];show wpAny M A (if (["enumerate","zip","dict_itemiterator","dict_reverseitemiterator","odict_iterator","itertools.zip_longest","itertools.pairwise"].contains n&&vs[0]?==some (rawInt _))=true then _ else _) Q E s;rw[qo (by intro h;rw[hn,Bool.false_and] at h;cases h)];exact qc hQ))
def Itl (K:W.Frag) (a:Addr):It :=
 ⟨λi H=>∃ xs x,O5 K H a xs/\xs[i]?=some x,λi H x H'=>H'=H/\∀ xs,O5 K H a xs->xs[i]?=some x,λi H=>∃ xs,O5 K H a xs/\xs.length<=i⟩
def Itt (K:W.Frag) (a:Addr):It :=
 ⟨λi H=>∃ xs x,V2 K H a xs/\xs[i]?=some x,λi H x H'=>H'=H/\∀ xs,V2 K H a xs->xs[i]?=some x,λi H=>∃ xs,V2 K H a xs/\xs.length<=i⟩
def Itr (lo:Int) (n:Nat):It:=⟨λi _=>i < n,λi H x H'=>H'=H/\x=.int (lo+i),λi _=>n<=i⟩
theorem B7q {w:World} {K:W.Frag} (a it:Addr):B1l P w K tg (Itl K a) [it] it (λi h=>h.IsListIter it a i) where
 mem:=by simp
 obj:=λi h st b hb=>by
  have e:b=it:=by simpa using hb
  subst e;obtain ⟨o,e,c,d⟩:=st;exact ⟨o,e,λv z=>by rw[d] at z;cases z⟩
 keep:=λi h h' st k=>st.at λo e=>k it (by simp) o e
 item:=by
  intro X hP hw hK hc i pins s U H E I hf st hg;subst hP hw hK;obtain ⟨xs,x,hq,hx⟩:=hg;obtain ⟨its,rv,p,hz⟩:=I.list hq;obtain ⟨u,hu,ru⟩:=rv.get hx;obtain ⟨f0,f1,f2,f3,f4,f5⟩:=hf it (by simp);refine wpAny_pyNext_list_item st p.isList (x:=u) (by simpa using hu) λh' st' sb=>?_;have I1:B6 X pins U H { s with heap:=h' }:=I.turned (t':=s.toks) (λb o hb e=>(sb.2 b hb).trans e) f0 f1 f3 f4 f5;obtain ⟨o,e,c,d⟩:=id st';exact ⟨u,rfl,B0w (s:={ s with heap:=h' }) e c d (by decide) ⟨x,H,I1,ru,⟨rfl,λys hy=>by rw[I.list_inj hy hq];exact hx⟩,st',λb hb=>(hf b hb).1⟩⟩
 done:=by
  intro X hP hw hK hc i pins s U H E I hf st hg;subst hP hw hK;obtain ⟨xs,hq,hx⟩:=hg;obtain ⟨its,rv,p,hz⟩:=I.list hq;obtain ⟨f0,f1,f2,f3,f4,f5⟩:=hf it (by simp);have hl:=rv.length;exact wpAny_pyNext_list_end (I.ok.hd hc) st p.isList (by simp;lia) λh' eb=>⟨rfl,I.turned (t':=s.toks) (λb o hb e=>eb b o hb e) f0 f1 f3 f4 f5⟩
 self:=λ_ _ _ _ _ st h=>wpAny_pyIter_listiter st h
theorem B2d {w:World} {K:W.Frag} (a it:Addr):B1l P w K tg (Itt K a) [it] it (λi h=>h.IsTupleIter it a i) where
 mem:=by simp
 obj:=λi h st b hb=>by
  have e:b=it:=by simpa using hb
  subst e;obtain ⟨o,e,c,d⟩:=st;exact ⟨o,e,λv z=>by rw[d] at z;cases z⟩
 keep:=λi h h' st k=>st.at λo e=>k it (by simp) o e
 item:=by
  intro X hP hw hK hc i pins s U H E I hf st hg;subst hP hw hK;obtain ⟨xs,x,hq,hx⟩:=hg;obtain ⟨its,rv,p,hz⟩:=I.tuple hq;obtain ⟨u,hu,ru⟩:=rv.get hx;obtain ⟨f0,f1,f2,f3,f4,f5⟩:=hf it (by simp);refine wpAny_pyNext_tuple_item st (show s.heap.IsTuple a its.toArray from p) (x:=u) (by simpa using hu) λh' st' sb=>?_;have I1:B6 X pins U H { s with heap:=h' }:=I.turned (t':=s.toks) (λb o hb e=>(sb.2 b hb).trans e) f0 f1 f3 f4 f5;obtain ⟨o,e,c,d⟩:=id st';exact ⟨u,rfl,B0w (s:={ s with heap:=h' }) e c d (by decide) ⟨x,H,I1,ru,⟨rfl,λys hy=>by rw[I.tuple_inj hy hq];exact hx⟩,st',λb hb=>(hf b hb).1⟩⟩
 done:=by
  intro X hP hw hK hc i pins s U H E I hf st hg;subst hP hw hK;obtain ⟨xs,hq,hx⟩:=hg;obtain ⟨its,rv,p,hz⟩:=I.tuple hq;obtain ⟨f0,f1,f2,f3,f4,f5⟩:=hf it (by simp);have hl:=rv.length;exact wpAny_pyNext_tuple_end (I.ok.hd hc) st (show s.heap.IsTuple a its.toArray from p) (by simp;lia) λh' eb=>⟨rfl,I.turned (t':=s.toks) (λb o hb e=>eb b o hb e) f0 f1 f3 f4 f5⟩
 self:=λ_ _ _ _ _ st h=>wpAny_pyIter_tupleiter st h
theorem B3g {w:World} {K:W.Frag} (it:Addr) (lo:Int) (n:Nat):B1l P w K tg (Itr lo n) [it] it (λi h=>IsRangeIter h it (lo+(i:Nat)*1) ((n:Int) - (i:Nat)) 1) where
 mem:=by simp
 obj:=λi h st b hb=>by
  have e:b=it:=by simpa using hb
  subst e;exact ⟨_,st,λv z=>by
   have z':Data.fields _=Data.cell v:=z;cases z'⟩
 keep:=λi h h' st k=>k it (by simp) _ st
 item:=by
  intro X hP hw hK hc i pins s U H E I hf st hg;subst hP hw hK;obtain ⟨f0,f1,f2,f3,f4,f5⟩:=hf it (by simp);have W:=Walks.range (prog:=X.prog) (w:=X.w) (I.ok.hd hc) it lo 1 n;refine W.item i s _ _ hg st λv h' tk hv st' kk=>?_;obtain ⟨t,rfl⟩:=hv;have I1:B6 X pins U H { s with heap:=h',toks:=tk }:=I.turned (λb o hb e=>kk b o (by simpa using hb) e) f0 f1 f3 f4 f5;refine ⟨_,rfl,B0w (s:={ s with heap:=h',toks:=tk }) (n:="range_iterator") st' rfl rfl (by decide) ⟨.int (lo+i),H,I1,⟨t,?_⟩,⟨rfl,rfl⟩,st',λb hb=>(hf b hb).1⟩⟩;rw[Int.mul_one]
 done:=by
  intro X hP hw hK hc i pins s U H E I hf st hg;subst hP hw hK;obtain ⟨f0,f1,f2,f3,f4,f5⟩:=hf it (by simp);exact wpAny_pyNext_range_end (I.ok.hd hc) st (by have:n<=i:=hg;lia) λh' eb=>⟨rfl,I.turned (t':=s.toks) (λb o hb e=>eb b o hb e) f0 f1 f3 f4 f5⟩
 self:=λ_ _ _ _ _ st h=>wpAny_pyIter_rangeiter st h
section
variable {X:Cx} {tg:Expr}
def C2n (K:W.Frag) (tl:TE):TI:=λU H R=>tl U H λx H1=>∃ a,x=.ref a/\(∃ xs,O5 K H1 a xs)/\R (Itl K a) H1
def D29 (K:W.Frag) (tl:TE):TI:=λU H R=>tl U H λx H1=>∃ a,x=.ref a/\(∃ xs,V2 K H1 a xs)/\R (Itt K a) H1
theorem C8u (hl:PE X l tl):PI X tg l (C2n X.K tl):=by
 intro pins s U H R I h;refine E1 (hl pins s U H _ I h) λv s1 ⟨x,H1,I1,r1,q1⟩=>?_;obtain ⟨a,e,⟨xs,hq⟩,q⟩:=q1;subst e;cases r1;obtain ⟨its,rv,p,hz⟩:=I1.list hq;refine wpAny_pyIter_list p.isList ?_;refine ⟨s1.heap.objs.size,[s1.heap.objs.size],_,_,H1,rfl,I1.kept (t':=s1.toks) λb o e=>qa _ e,B7q a _,⟨_,ql _ rfl,rfl,rfl⟩,λb hb=>?_,q⟩;have e:b=s1.heap.objs.size:=by simpa using hb
 subst e;exact I1.fpOk (qp _) (I1.hok.fresh (qp _))
theorem D1s (hl:PE X l tl):PI X tg l (D29 X.K tl):=by
 intro pins s U H R I h;refine E1 (hl pins s U H _ I h) λv s1 ⟨x,H1,I1,r1,q1⟩=>?_;obtain ⟨a,e,⟨xs,hq⟩,q⟩:=q1;subst e;cases r1;obtain ⟨its,rv,p,hz⟩:=I1.tuple hq;refine wpAny_pyIter_tuple (show s1.heap.IsTuple a its.toArray from p) ?_;refine ⟨s1.heap.objs.size,[s1.heap.objs.size],_,_,H1,rfl,I1.kept (t':=s1.toks) λb o e=>qa _ e,B2d a _,⟨_,ql _ rfl,rfl,rfl⟩,λb hb=>?_,q⟩;have e:b=s1.heap.objs.size:=by simpa using hb
 subst e;exact I1.fpOk (qp _) (I1.hok.fresh (qp _))
theorem C1w {H:Hp} {R:It->Hp->Prop} {lo hi:Int} {t u v:Tok} {tk:Nat} (I:B6 X pins U H s) (h1:-(2 ^ 62)<=lo) (h2:lo < 2 ^ 62) (h3:-(2 ^ 62)<=hi) (h4:hi < 2 ^ 62)
  (q:R (Itr lo (hi - lo).toNat) H):wpAny (model X.prog X.w) X.A (pyIter (.ref s.heap.objs.size)) (PIE X pins U tg R) E { s with heap:=s.heap.push { cls:=.type "range",data:=.fields #[.int lo t,.int hi u,.int 1 v] },toks:=tk }:=by
 refine wpAny_pyIter_range (IsRange.new ..) (small_one h1 h2 h3 h4) ?_;have I1:B6 X pins U H { s with heap:=s.heap.push { cls:=.type "range",data:=.fields #[.int lo t,.int hi u,.int 1 v] },toks:=tk }:=I.kept λb o e=>qa _ e;refine ⟨(s.heap.push { cls:=.type "range",data:=.fields #[.int lo t,.int hi u,.int 1 v] }).objs.size,[(s.heap.push { cls:=.type "range",data:=.fields #[.int lo t,.int hi u,.int 1 v] }).objs.size],_,_,H,rfl,
  I1.kept (t':=tk) λb o e=>qa _ e,B3g _ lo (hi - lo).toNat,?_,λb hb=>?_,q⟩
 ·have e1:lo+((0:Nat):Int)*1=lo:=by simp
  have e2:(((hi - lo).toNat:Nat):Int) - ((0:Nat):Int)=Builtin.Range.rangeSize lo hi 1:=by rw[rangeSize_one];split<;>lia
  show IsRangeIter _ _ (lo+((0:Nat):Int)*1) ((((hi - lo).toNat:Nat):Int) - ((0:Nat):Int)) 1;rw[e1,e2];exact ql _ rfl
 ·have e:b=(s.heap.push { cls:=.type "range",data:=.fields #[.int lo t,.int hi u,.int 1 v] }).objs.size:=by simpa using hb
  subst e;exact I1.fpOk (qp _) (I1.hok.fresh (qp _))
def D0e (ta:TA):TI:=λU H R=>ta U H λvs H1=>∃ j:Int,vs=[.int j]/\-(2 ^ 62)<=j/\j < 2 ^ 62/\R (Itr 0 j.toNat) H1
theorem B8y {a:Expr} {ta:TA} {p:Pos} (hg:Gl X "range") (hm:X.mg "range"=none) (ha:PA X [a] ta) (hs:starEach [a] X.env=[(false,eval a X.env)]:=by rfl):PI X tg (.Call (.Name "range" p) [a] [] pos) (D0e ta):=by
 intro pins s U H R I h;refine Call_ (A5z I hg hm boot_range (PyProof.Rows.callWith_type1 (E1 (ha pos pins s U H _ I h) λus s1 ⟨vs,H1,I1,r1,q1⟩=>?_) hs rfl));obtain ⟨j,e,q1,q2,q⟩:=q1;subst e;cases r1 with
 | cons r rr =>
  cases rr;obtain ⟨t,rfl⟩:=r;exact call_range_1 (C1w I1 (by lia) (by lia) q1 q2 (by simpa using q))
def C12 (wi:TI) (g:TG) (tb:TS):TS:=λD U H=>wi U H λJ H1=>∃ W:Nat->Nat->St->Hp->Prop,(∃ m,W 0 m U H1)/\∀ i m U H,W i m U H ->
 (J.stop i H/\D.nx U H)\/(J.go i H/\∃ N:St->Hp->Prop,(∀ U' H',N U' H'->∃ m',m' < m/\W (i+1) m' U' H')/\∀ x H',J.yld i H x H'->g x U H' λσ2 H2=>tb { D with nx:=N,ct:=N,bk:=D.nx } σ2 H2)
def A5r (fp:List Addr) (h:Heap):List (Addr × Obj):=fp.filterMap λb=>(h.get? b).map λo=>(b,o)
theorem L8 {b:Addr} {o:Obj} (hb:b∈fp) (e:h.get? b=some o):(b,o)∈A5r fp h:=List.mem_filterMap.mpr ⟨b,hb,by rw[e];rfl⟩
theorem B8o {p:Addr × Obj} (hp:p∈A5r fp h):p.1∈fp/\h.get? p.1=some p.2:=by
 obtain ⟨b,hb,e⟩:=List.mem_filterMap.mp hp;cases q:h.get? b with
 | none=>rw[q] at e;cases e
 | some o =>
  rw[q] at e;have e':(b,o)=p:=zp e;subst e';exact ⟨hb,q⟩
theorem B6.pinned {H:Hp} (I:B6 X pins U H s) (hf:∀ b∈fp,V5 X pins H b) (ho:∀ b∈fp,∃ o,s.heap.get? b=some o/\∀ v,o.data≠.cell v):B6 X (pins++A5r fp s.heap) U H s :=
 I.pins_of λp hp=>(zj.mp hp).elim (λz=>I.pin p (qw _ z)) λz=>by
  obtain ⟨hb,e⟩:=B8o z;obtain ⟨f0,f1,f2,_⟩:=hf p.1 hb;obtain ⟨o,e',d⟩:=ho p.1 hb;rw[e] at e';cases e';exact ⟨e,f0,f1,f2,d⟩
theorem B6.unpinned {pl:List (Addr × Obj)} {H:Hp} (I:B6 X (pins++pl) U H s):B6 X pins U H s:=I.pins_of λp hp=>I.pin p (qw _ (qz _ hp))
theorem D38 {wi:TI} {g:TG} (hp:PassesOwn (model X.prog X.w) X.A X.env X.xe) (hc:X.calm=true) (hi:PI X tg iter wi) (hg:PG X tg g) (hb:PSs X body tb)
  (hs:∀ x,foldedSetIterable iter X.env x=pure x:=by intro _;rfl):PS X (.For tg iter body [] pos) (C12 wi g tb):=by
 intro pins s U H D I h;refine wpAny_For (E1 (hi pins s U H _ I h) λv s1 h1=>E1 h1 λitv s2 h2=>?_) hs;obtain ⟨it,fp,tn,J,H2,e,I2,T,st2,f2,W,⟨m0,w0⟩,turn⟩:=h2;subst e;have stat:∀ {H':Hp},(∀ b∈fp,H' b=none)->∀ b∈fp,V5 X pins H' b:=λhn b hb=>⟨hn b hb,(f2 b hb).2⟩;refine codeAny_forLoop_any (λn s'=>∃ i U' H',B6 X pins U' H' s'/\tn i s'.heap/\(∀ b∈fp,H' b=none)/\W i n U' H') ?_ m0 ⟨0,U,H2,I2,st2,λb hb=>(f2 b hb).1,w0⟩;rintro n s3 ⟨i,σ3,H3,I3,st3,fr3,w3⟩;rcases turn i n σ3 H3 w3 with ⟨stop,qn⟩|⟨go,N,hN,step⟩
 ·refine wpAny_passesOwn hp (E1 (T.done X rfl rfl rfl hc i pins s3 σ3 H3 X.xe I3 (stat fr3) st3 stop) λr s4 ⟨hr,I4⟩=>?_);subst hr;exact wpAny_execs_nil ⟨σ3,H3,I4,qn⟩
 ·refine wpAny_passesOwn hp (E1 (T.item X rfl rfl rfl hc i pins s3 σ3 H3 X.xe I3 (stat fr3) st3 go) λr s4 ⟨u,hr,h4⟩=>?_);subst hr;refine wpAny_passesOwn hp (E1 h4 λ_ s5 ⟨x,H5,I5,r5,y5,st5,fr5⟩=>?_);have I5':=I5.pinned (stat fr5) (T.obj _ _ st5);refine wpAny_passesOwn hp (E1 (hg _ s5 σ3 H5 x u _ I5' r5 (step x H5 y5)) λ_ s6 ⟨σ6,H6,I6,q6⟩=>?_);refine wpAny_passesOwn hp (E1 (hb _ s6 σ6 H6 _ I6 q6) λf s7 q7=>?_);have again:∀ {σ7:St} {H7:Hp},B6 X (pins++A5r fp s5.heap) σ7 H7 s7->N σ7 H7->∃ m,m < n/\∃ i U' H',B6 X pins U' H' s7/\tn i s7.heap/\(∀ b∈fp,H' b=none)/\W i m U' H':=λ{σ7 H7} I7 n7=>by
   obtain ⟨m',hm,w7⟩:=hN σ7 H7 n7;refine ⟨m',hm,i+1,σ7,H7,I7.unpinned,T.keep _ _ _ st5 λb hb o e=>(I7.pin (b,o) (qw _ (qw _ (L8 hb e)))).1,λb hb=>?_,w7⟩;obtain ⟨o,e,d⟩:=T.obj _ _ st5 b hb;exact (I7.pin (b,o) (qw _ (qw _ (L8 hb e)))).2.1
  cases f with
  | next=>obtain ⟨σ7,H7,I7,n7⟩:=q7;exact again I7 n7
  | cont=>obtain ⟨σ7,H7,I7,n7⟩:=q7;exact again I7 n7
  | brk=>obtain ⟨σ7,H7,I7,q7⟩:=q7;exact ⟨σ7,H7,I7.unpinned,q7⟩
  | ret v=>obtain ⟨x7,σ7,H7,I7,r7,q7⟩:=q7;exact ⟨x7,σ7,H7,I7.unpinned,r7,q7⟩
end
abbrev R2:=V->V->Hp->VK->Prop
def U1 (X:Cx) (f:Value->Value->Sem Value) (r:R2):Prop :=
 ∀ (pins:List (Addr × Obj)) (s:Shared) (U:St) (H:Hp) (x y:V) (v u:Value) (Q:VK),B6 X pins U H s->D0 x v->D0 y u->r x y H Q ->
  wpAny (model X.prog X.w) X.A (f v u) (EP X pins U Q) X.xe s
def UnR (X:Cx) (f:Value->Sem Value) (r:V->Hp->VK->Prop):Prop :=
 ∀ (pins:List (Addr × Obj)) (s:Shared) (U:St) (H:Hp) (x:V) (v:Value) (Q:VK),B6 X pins U H s->D0 x v->r x H Q ->
  wpAny (model X.prog X.w) X.A (f v) (EP X pins U Q) X.xe s
def J2 (X:Cx) (f:Value) (r:List V->Hp->VK->Prop):Prop :=
 ∀ (pins:List (Addr × Obj)) (s:Shared) (U:St) (H:Hp) (xs:List V) (us:List Value) (Q:VK),B6 X pins U H s->C6 xs us->r xs H Q ->
  wpAny (model X.prog X.w) X.A (call f us) (EP X pins U Q) X.xe s
def E0w (X:Cx) (r:V->Hp->(Bool->Hp->Prop)->Prop):Prop :=
 ∀ (pins:List (Addr × Obj)) (s:Shared) (U:St) (H:Hp) (x:V) (v:Value) (Q:Bool->Hp->Prop),B6 X pins U H s->D0 x v->r x H Q ->
  wpAny (model X.prog X.w) X.A (truthy v) (TP X pins U Q) X.xe s
def tOp (r:R2) (ta tb:TE):TE:=λU H Q=>ta U H λx H1=>tb U H1 λy H2=>r x y H2 Q
def tUn (r:V->Hp->VK->Prop) (ta:TE):TE:=λU H Q=>ta U H λx H1=>r x H1 Q
def rI (C:Int->Int->Prop) (g:Int->Int->V):R2:=λx y H Q=>∃ i j,x=.int i/\y=.int j/\C i j/\Q (g i j) H
def rI0 (g:Int->Int->V):R2:=λx y H Q=>∃ i j,x=.int i/\y=.int j/\Q (g i j) H
def rU (g:Int->V):V->Hp->VK->Prop:=λx H Q=>∃ i,x=.int i/\Q (g i) H
variable {r:R2}
section
variable {X:Cx} {a b c:Expr} {ta tb tc:TE} {pos:Pos}
theorem D55 (ha:PE X a ta) (hb:PE X b tb) {H:Hp} {R:V->V->Hp->Prop} (I:B6 X pins U H s)
  (h:ta U H λx H1=>tb U H1 λy H2=>R x y H2) {f:Value->Value->Sem Value}
  (hf:∀ v u s2 x y H2,B6 X pins U H2 s2->D0 x v->D0 y u->R x y H2->wpAny (model X.prog X.w) X.A (f v u) Q X.xe s2) :
  wpAny (model X.prog X.w) X.A (eval a X.env) (λv s₁=>wpAny (model X.prog X.w) X.A (eval b X.env) (λu s₂=>wpAny (model X.prog X.w) X.A (f v u) Q X.xe s₂) X.xe s₁) X.xe s:=by
 refine E1 (ha pins s U H _ I h) λv s1 ⟨x,H1,I1,r1,q1⟩=>?_;refine E1 (hb pins s1 U H1 _ I1 q1) λu s2 ⟨y,H2,I2,r2,q2⟩=>?_;exact hf v u s2 x y H2 I2 r1 r2 q2
theorem D91 {op:Operator} (ho:U1 X (binaryOp op) r) (ha:PE X a ta) (hb:PE X b tb):PE X (.BinOp a op b pos) (tOp r ta tb):=by
 intro pins s U H Q I h;exact wpAny_BinOp (D55 ha hb I h λv u s2 x y H2 I2 rx ry q=>ho pins s2 U H2 x y v u Q I2 rx ry q)
theorem D6b {op:UnaryOp} {r:V->Hp->VK->Prop} (ho:UnR X (unaryOp op) r) (ha:PE X a ta):PE X (.UnaryOp op a pos) (tUn r ta):=by
 intro pins s U H Q I h;exact UnaryOp_ (E1 (ha pins s U H _ I h) λv s1 ⟨x,H1,I1,r1,q1⟩=>ho pins s1 U H1 x v Q I1 r1 q1)
theorem opI {f:Value->Value->Sem Value} {C:Int->Int->Prop} {g:Int->Int->Int}
  (rule:∀ (i j:Int) (t u:Tok) (s:Shared) (Q:Value->Shared->Prop) (E:Value->Shared->Prop),C i j->Q (.int (g i j) s.toks) { s with toks:=s.toks+1 }->wpAny (model X.prog X.w) X.A (f (.int i t) (.int j u)) Q E s) :
  U1 X f (rI C λi j=>.int (g i j)):=by
 intro pins s U H x y v u Q I rx ry h;obtain ⟨i,j,rfl,rfl,hc,q⟩:=h;obtain ⟨t,rfl⟩:=rx;obtain ⟨t',rfl⟩:=ry;exact rule i j t t' s _ _ hc ⟨.int (g i j),H,I.tok _,⟨_,rfl⟩,q⟩
theorem D9n {f:Value->Value->Sem Value} {g:Int->Int->Int}
  (rule:∀ (i j:Int) (t u:Tok) (s:Shared) (Q:Value->Shared->Prop) (E:Value->Shared->Prop),Q (.int (g i j) s.toks) { s with toks:=s.toks+1 }->wpAny (model X.prog X.w) X.A (f (.int i t) (.int j u)) Q E s) :
  U1 X f (rI0 λi j=>.int (g i j)):=by
 intro pins s U H x y v u Q I rx ry h;obtain ⟨i,j,rfl,rfl,q⟩:=h;obtain ⟨t,rfl⟩:=rx;obtain ⟨t',rfl⟩:=ry;exact rule i j t t' s _ _ ⟨.int (g i j),H,I.tok _,⟨_,rfl⟩,q⟩
theorem C80 {f:Value->Value->Sem Value} {g:Int->Int->Bool}
  (rule:∀ (i j:Int) (t u:Tok) (s:Shared) (Q:Value->Shared->Prop) (E:Value->Shared->Prop),Q (.bool (g i j)) s->wpAny (model X.prog X.w) X.A (f (.int i t) (.int j u)) Q E s) :
  U1 X f (rI0 λi j=>.bl (g i j)):=by
 intro pins s U H x y v u Q I rx ry h;obtain ⟨i,j,rfl,rfl,q⟩:=h;obtain ⟨t,rfl⟩:=rx;obtain ⟨t',rfl⟩:=ry;exact rule i j t t' s _ _ ⟨.bl (g i j),H,I,rfl,q⟩
def D3r (i j:Int):Prop:=0 < j/\j < 1073741824
def D2o (i j:Int):Prop:=0<=j/\j<=1000000/\i.natAbs < 2 ^ 64
def B0f (i j:Int):Prop:=(-(2 ^ 64) < i/\i < 2 ^ 64)\/(-(2 ^ 64) < j/\j < 2 ^ 64)
theorem B0f.ok {i j:Int} (h:B0f i j):IntMulOk i j:=by
 rcases h with ⟨h1,h2⟩|⟨h1,h2⟩
 ·exact .of_left (intBits_le_64 h1 h2)
 ·exact .of_right (intBits_le_64 h1 h2)
theorem D0t:U1 X (binaryOp .Add) (rI0 λi j=>.int (i+j)):=D9n λ_ _ _ _ _ _ _ q=>add_int q
theorem D36:U1 X (binaryOp .Sub) (rI0 λi j=>.int (i - j)):=D9n λ_ _ _ _ _ _ _ q=>sub_int q
theorem C6j:U1 X (binaryOp .FloorDiv) (rI D3r λi j=>.int (i / j)):=opI λi j _ _ _ _ _ hc q=>by
 have h1:(0:Int) < j:=hc.1;have h2:j < 1073741824:=hc.2;exact floordiv_int (by lia) (by rw[Int.fdiv_eq_ediv_of_nonneg i (by lia)];exact q) (.inl (PyProof.noPylong_small (by lia)))
theorem D2k:U1 X (binaryOp .Mod) (rI (λ_ j=>0 < j) λi j=>.int (i % j)):=opI λi j _ _ _ _ _ hc q=>by
 have h1:(0:Int) < j:=hc;exact mod_int' (by lia) (by rw[Int.fmod_eq_emod_of_nonneg i (by lia)];exact q)
theorem D4s:U1 X (binaryOp .Pow) (rI D2o λi j=>.int (i ^ j.toNat)):=opI λ_ _ _ _ _ _ _ hc q=>pow_int_small hc.1 hc.2.1 hc.2.2 q
theorem unI {f:Value->Sem Value} {g:Int->Int}
  (rule:∀ (i:Int) (t:Tok) (s:Shared) (Q:Value->Shared->Prop) (E:Value->Shared->Prop),Q (.int (g i) s.toks) { s with toks:=s.toks+1 }->wpAny (model X.prog X.w) X.A (f (.int i t)) Q E s) :
  UnR X f (rU λi=>.int (g i)):=by
 intro pins s U H x v Q I rx h;obtain ⟨i,rfl,q⟩:=h;obtain ⟨t,rfl⟩:=rx;exact rule i t s _ _ ⟨.int (g i),H,I.tok _,⟨_,rfl⟩,q⟩
theorem D52:UnR X (unaryOp .USub) (rU λi=>.int (-i)):=unI λ_ _ _ _ _ q=>neg_int q
theorem C2y {H:Hp} {Q:VK} {k k':Bool} (I:B6 X pins U H s) (q:Q (.bl k) H) (e:k=k'):EP X pins U Q (.bool k') s:=by
 subst e;exact ⟨.bl k,H,I,rfl,q⟩
theorem D9w:U1 X (compareOp .Lt) (rI0 λi j=>.bl (decide (i < j))):=C80 λ_ _ _ _ _ _ _ q=>lt_int q
theorem B4w:U1 X (compareOp .LtE) (rI0 λi j=>.bl (decide (i<=j))):=C80 λ_ _ _ _ _ _ _ q=>le_int q
theorem D79:U1 X (compareOp .Gt) (rI0 λi j=>.bl (decide (j < i))):=C80 λ_ _ _ _ _ _ _ q=>gt_int q
theorem D8r:U1 X (compareOp .GtE) (rI0 λi j=>.bl (decide (j<=i))):=C80 λ_ _ _ _ _ _ _ q=>ge_int q
theorem B6i:U1 X (compareOp .Lt) (λx y H Q=>∃ i j,x=.str i/\y=.str j/\Q (.bl (decide (i.cps.toList < j.cps.toList))) H):=by
 intro pins s U H x y v u Q I rx ry h;obtain ⟨i,j,rfl,rfl,q⟩:=h;obtain ⟨t,rfl⟩:=rx;obtain ⟨t',rfl⟩:=ry;exact lt_str (C2y I q rfl)
theorem B85:U1 X (compareOp .In) (λx y H Q=>∃ i j,x=.str i/\y=.str j/\Q (.bl (!(Builtin.Str.occurrences j i 0 j.length 1).isEmpty)) H):=by
 intro pins s U H x y v u Q I rx ry h;obtain ⟨i,j,rfl,rfl,q⟩:=h;obtain ⟨t,rfl⟩:=rx;obtain ⟨t',rfl⟩:=ry;exact in_str (C2y I q rfl)
theorem U1.or {f:Value->Value->Sem Value} {r':R2} (h:U1 X f r) (h':U1 X f r'):U1 X f (λx y H Q=>r x y H Q\/r' x y H Q):=by
 intro pins s U H x y v u Q I rx ry q;rcases q with q|q
 ·exact h pins s U H x y v u Q I rx ry q
 ·exact h' pins s U H x y v u Q I rx ry q
variable {op:CmpOp}
theorem E7 (b:Expr) (h:op≠.In:=by decide) (h2:op≠.NotIn:=by decide):behindInMarks op b=false:=by
 have e1:(op==CmpOp.In)=false:=by cases op<;>first|rfl|exact absurd rfl h
 have e2:(op==CmpOp.NotIn)=false:=by cases op<;>first|rfl|exact absurd rfl h2
 cases b<;>simp[behindInMarks,e1,e2]
theorem C61 (ho:U1 X (compareOp op) r) (ha:PE X a ta) (hb:PE X b tb) (hm:behindInMarks op b=false):PE X (.Compare a [op] [b] pos) (tOp r ta tb):=by
 intro pins s U H Q I h;exact wpAny_Compare1 (D55 ha hb I h λv u s2 x y H2 I2 rx ry q=>ho pins s2 U H2 x y v u Q I2 rx ry q) hm
def B59 (t:TE):TT:=λU H Q=>t U H λx H'=>∃ k,x=.bl k/\Q k H'
theorem C5o (ho:U1 X (compareOp op) r) (ha:PE X a ta) (hb:PE X b tb) (hm:behindInMarks op b=false):PT X (.Compare a [op] [b] pos) (B59 (tOp r ta tb)):=by
 intro pins s U H Q I h;refine wpAny_isTrue_Compare1 (E1 (ha pins s U H _ I h) λv s1 ⟨x,H1,I1,r1,q1⟩=>E1 (hb pins s1 U H1 _ I1 q1) λu s2 ⟨y,H2,I2,r2,q2⟩ =>
  E1 (ho pins s2 U H2 x y v u _ I2 r1 r2 q2) λc s3 ⟨z,H3,I3,r3,k,e,q3⟩=>?_) hm
 subst e;cases r3;exact wpAny_truthy_bool ⟨H3,I3,q3⟩
def B3v (r r':R2) (ta tb tc:TE):TE:=λU H Q=>ta U H λx H1=>tb U H1 λy H2=>r x y H2 λz H3=>∃ k,z=.bl k /\
 (if k=true then tc U H3 λw' H4=>r' y w' H4 Q else Q (.bl false) H3)
theorem C25 {r':R2} (ho:U1 X (compareOp op) r) (ho':U1 X (compareOp op') r') (ha:PE X a ta) (hb:PE X b tb) (hc:PE X c tc)
  (hm:lastMarks [op,op'] [b,c]=false:=by with_unfolding_all rfl):PT X (.Compare a [op,op'] [b,c] pos) (B59 (B3v r r' ta tb tc)):=by
 intro pins s U H Q I h;refine isTrue_chain (E1 (ha pins s U H _ I h) λv s1 ⟨x,H1,I1,r1,q1⟩=>test_link (E1 (hb pins s1 U H1 _ I1 q1) λu s2 ⟨y,H2,I2,r2,q2⟩ =>
  E1 (ho pins s2 U H2 x y v u _ I2 r1 r2 q2) λd s3 ⟨z,H3,I3,r3,k,e,q3⟩=>?_)) hm
 subst e;cases r3;refine wpAny_truthy_bool ?_;cases k with
 | false =>
  obtain ⟨k',e',q'⟩:=q3;cases e';exact ite_ff ⟨H3,I3,q'⟩
 | true =>
  refine ite_tt (test_last (E1 (hc pins s3 U H3 _ I3 q3) λw' s4 ⟨z',H4,I4,r4,q4⟩=>E1 (ho' pins s4 U H4 y z' u w' _ I4 r2 r4 q4) λd' s5 ⟨z2,H5,I5,r5,k2,e2,q5⟩=>?_));subst e2;cases r5;exact wpAny_truthy_bool ⟨H5,I5,q5⟩
def D6c (K:W.Frag) (x:V) (H:Hp) (k:Bool):Prop :=
 match x with
 | .non=>k=false
 | .bl b=>k=b
 | .int i=>k=(i != 0)
 | .str y=>y.length<=sizeLine/\k=((y.length:Int) != 0)
 | .byt y=>y.size<=sizeLine/\k=((y.size:Int) != 0)
 | .ref p=>(∃ xs,O5 K H p xs/\k=!xs.isEmpty)\/(∃ xs,V2 K H p xs/\k=!xs.isEmpty)\/∃ kvs,H p=some (.dK kvs)/\k=!kvs.isEmpty
 | _=>False
theorem B2y {κ:Type} {kvs:List (κ × V)} {vs:List (κ × Value)} (r:KV kvs vs):(!vs.isEmpty)=!kvs.isEmpty:=by
 cases r<;>rfl
theorem A57 {its:List Value} (r:C6 xs its):(!its.toArray.isEmpty)=!xs.isEmpty:=by
 cases r<;>simp
theorem A35:(sizeLine:Nat) < 2 ^ 63:=by rw[sizeLine_eq];decide
theorem D3d:E0w X (λx H Q=>∃ k,D6c X.K x H k/\Q k H):=by
 intro pins s U H x v Q I rx h;obtain ⟨k,e,q⟩:=h;have hl:=A35;have hs:sizeLine=16777216:=sizeLine_eq;cases x with
 | non =>
  cases rx;have e':k=false:=e;subst e';exact truthy_none ⟨H,I,q⟩
 | bl b =>
  cases rx;have e':k=b:=e;subst e';exact wpAny_truthy_bool ⟨H,I,q⟩
 | int i =>
  obtain ⟨t,rfl⟩:=rx;have e':k=(i != 0):=e;subst e';exact PySem.P.truthy_int ⟨H,I,q⟩
 | str y =>
  obtain ⟨t,rfl⟩:=rx;obtain ⟨hy,e'⟩:y.length<=sizeLine/\k=((y.length:Int) != 0):=e;subst e';exact PySem.P.truthy_str (by lia) ⟨H,I.tok _,q⟩
 | byt y =>
  obtain ⟨t,rfl⟩:=rx;obtain ⟨hy,e'⟩:y.size<=sizeLine/\k=((y.size:Int) != 0):=e;subst e';exact W.truthy_bytes (by lia) ⟨H,I.tok _,q⟩
 | ref p =>
  cases rx;have e':(∃ xs,O5 X.K H p xs/\k=!xs.isEmpty)\/(∃ xs,V2 X.K H p xs/\k=!xs.isEmpty)\/∃ kvs,H p=some (.dK kvs)/\k=!kvs.isEmpty:=e;rcases e' with ⟨xs,hx,e'⟩|⟨xs,hx,e'⟩|⟨kvs,hx,e'⟩
  ·subst e';obtain ⟨its,r,pl,hz⟩:=I.list hx;have hlen:=r.length;exact wpAny_truthy_list pl.isList (by simp only[size_toArray];lia) ⟨H,I.tok _,by rw[A57 r];exact q⟩
  ·subst e';obtain ⟨its,r,pl,hz⟩:=I.tuple hx;have hlen:=r.length;exact truthy_tuple pl (by simp only[size_toArray];lia) ⟨H,I.tok _,by rw[A57 r];exact q⟩
  ·subst e';obtain ⟨hz,hS,vs,r,m⟩:kvs.length<=sizeLine/\(p==sysModules)=false/\∃ vs,KV kvs vs/\s.heap.DictOf (J4 X.prog X.w) p vs:=I.hok p _ hx;have hlen:kvs.length=vs.length:=Paired.length r;exact wpAny_truthy_dict hS m (by lia) ⟨H,I.tok _,by rw[B2y r];exact q⟩
 | _=>exact (show False from e).elim
theorem C3q (ha:PE X a ta) (he:∀ whole,isTrue a X.env whole=(do let v <- whole;standAt a.pos;holding [v] (truthy v))) :
  PT X a (λU H Q=>ta U H λx H'=>∃ k,D6c X.K x H' k/\Q k H'):=by
 intro pins s U H Q I h;exact isTrue_plain (E1 (ha pins s U H _ I h) λv s1 ⟨x,H1,I1,r1,q1⟩=>D3d pins s1 U H1 x v Q I1 r1 q1) (he _)
theorem B2m:U1 X (binaryOp .Add) (λx y H Q=>∃ i j,x=.str i/\y=.str j/\i.length+j.length<=sizeLine/\Q (.str (i++j)) H):=by
 intro pins s U H x y v u Q I rx ry h;obtain ⟨i,j,rfl,rfl,hz,q⟩:=h;obtain ⟨t,rfl⟩:=rx;obtain ⟨t',rfl⟩:=ry;exact add_str (λt' tk=>⟨.str (i++j),H,I.tok _,⟨_,rfl⟩,q⟩) hz
theorem U0 {x:V} (r:C6 [x] us):∃ u,us=[u]/\D0 x u:=by
 cases r with
 | cons r1 r2=>cases r2;exact ⟨_,rfl,r1⟩
theorem B5j {x y:V} (r:C6 [x,y] us):∃ u w',us=[u,w']/\D0 x u/\D0 y w':=by
 cases r with
 | cons r1 r2 =>
  cases r2 with
  | cons r3 r4=>cases r4;exact ⟨_,_,rfl,r1,r3⟩
theorem B7v (hc:X.calm=true):J2 X (.builtin "max") (λxs H Q=>∃ i j,xs=[.int i,.int j]/\Q (.int (if j > i then j else i)) H):=by
 intro pins s U H xs us Q I r h;obtain ⟨i,j,rfl,q⟩:=h;obtain ⟨u,w',rfl,⟨t,rfl⟩,⟨t',rfl⟩⟩:=B5j r;refine max_two_ints (I.ok.hd hc) λh' tk k=>⟨_,H,I.kept k,?_,q⟩;by_cases hj:j > i
 ·rw[qm hj,qm hj];exact ⟨_,rfl⟩
 ·rw[qo hj,qo hj];exact ⟨_,rfl⟩
end
structure D33 (h:Heap) (x dx C:Addr) (mA:Str->Option Value):Prop where
 obj:h.get? x=some (W.instObj C dx)
 ns:h.Ns1 dx mA
 ne:dx≠x
theorem B6w {dx:Addr} (n:h.Ns1 dx mA):∃ od,h.get? dx=some od/\∀ name,W.lookIn name od=some (mA name):=by
 obtain ⟨o,es,ep,ho,hd,hk,_,hm⟩:=n;refine ⟨o,ho,λname=>?_⟩;have e:=hm name;unfold nsFind findBy at e;rw[<-Array.find?_toList] at e;unfold W.lookIn;rw[hd];dsimp only;split
 ·rename_i y q;rw[q] at e;exact congrArg some e
 ·rename_i q;rw[q] at e;have a:es.toList.any (·.refKey)=false:=by
   rw[List.any_eq_false];intro y hy;obtain ⟨z,t,hkey⟩:=hk y (Array.mem_toList_iff.mp hy);simp[DictEntry.refKey,hkey]
  have a':¬ es.toList.any (·.refKey)=true:=by rw[a];exact qt
  rw[qo a'];exact congrArg some e
theorem D33.look {x dx C:Addr} (I:D33 h x dx C mA):∃ od,W.InstAt h x (W.instObj C dx) C (some od)/\∀ name,W.lookIn name od=some (mA name) :=
 let ⟨od,ho,hl⟩:=B6w I.ns
 ⟨od,⟨I.obj,rfl,rfl,ho⟩,hl⟩
theorem A5k.some_of {v:V} {o:Option Value} (r:A5k (some v) o):∃ u,o=some u/\D0 v u:=by
 cases o with
 | none=>exact (show False from r).elim
 | some u=>exact ⟨u,rfl,r⟩
section
variable {P:Program} {w:World} {H:Hp} {h:Heap} {a C dx:Addr} {fs:List (Str × V)}
theorem C5t (hok:HOk P w H h) (e:H a=some (.ins C dx fs)):∃ mA,D33 h a dx C mA/\(∀ f,A5k (fs.lookup f) (mA f))/\PySem.Within mA (fs.map (·.1))/\fs.length<=1000/\H dx=some (.own a):=by
 obtain ⟨d,z,ne,ob,mA,n,r,q⟩:=(show E5 P w H h a (.ins C dx fs) from hok a _ e);exact ⟨mA,⟨ob,n,ne⟩,r,q,z,d⟩
end
structure Cls (K:W.Frag) (C:Addr):Prop where
 pg:W.plainGet K C Str.empty=true
 hd:W.hasDictIn K C=true
 po:W.plainOver K C=true
 sa:W.findIn K (.ref C) "__setattr__"=some (some (.builtin "object.__setattr__"))
theorem Cls.get {K:W.Frag} {C:Addr} (c:Cls K C) (f:Str):W.plainGet K C f=true:=c.pg
section
variable {X:Cx} {pins:List (Addr × Obj)} {U:St} {H:Hp} {s:Shared} {A:Around} {E:Value->Shared->Prop} {Q:Value->Shared->Prop} {c:Value} {b:Bool}
inductive A3k (K:W.Frag) (H:Hp):V->Value->Prop where
 | non:A3k K H .non (.type "NoneType")
 | bl (x:Bool):A3k K H (.bl x) (.type "bool")
 | int (i:Int):A3k K H (.int i) (.type "int")
 | str (x:Str):A3k K H (.str x) (.type "str")
 | flt (x:UInt64):A3k K H (.flt x) (.type "float")
 | lst {a:Addr} {xs:List V} (e:H a=some (.lst xs)):A3k K H (.ref a) (.type "list")
 | frz {a:Addr} {o:Obj} {xs:List V} (e:H a=some (.frz o (.lst xs))):A3k K H (.ref a) (.type "list")
 | tup {a:Addr} {xs:List V} (e:H a=some (.tup xs)):A3k K H (.ref a) (.type "tuple")
 | dK {a:Addr} {kvs:List (C1 × V)} (e:H a=some (.dK kvs)):A3k K H (.ref a) (.type "dict")
 | dT {a:Addr} {kvs:List (List C1 × V)} (e:H a=some (.dT kvs)):A3k K H (.ref a) (.type "dict")
 | ins {a C dx:Addr} {fs:List (Str × V)} (e:H a=some (.ins C dx fs)) (cl:Cls K C) (ha:W.findIn K (.ref C) "__class__"=some (some (.builtin "object.__class__")))
   (hn:W.specialIn K (.builtin "object.__class__") "__get__"=some (some (.builtin "getset_descriptor.__get__"))) (htk:W.takesIn K (.builtin "object.__class__")=some true)
   (hm:W.mroIn K C (.type "object")=some true):A3k K H (.ref a) (.ref C)
theorem V8 {x:V} {u t:Value} (I:B6 X pins U H s) (rx:D0 x u) (ty:A3k X.K H x t) (e:W.kitOne X.K t c=some b) (h:∀ tk,Q (.bool b) { s with toks:=tk }) :
  wpAny (model X.prog X.w) A (call (.builtin "isinstance") [u,c]) Q E s:=by
 cases ty with
 | non=>cases (show u=Value.none from rx);exact W.kia_one W.kitx_none I.kIn True.intro e (λz=>nomatch z) h
 | bl y=>cases (show u=Value.bool y from rx);exact W.kia_one W.kitx_bool I.kIn True.intro e (λz=>nomatch z) h
 | int i=>obtain ⟨t,q⟩:=(show ∃ t,u=Value.int i t from rx);cases q;exact W.kia_one W.kitx_int I.kIn True.intro e (λz=>nomatch z) h
 | str y=>obtain ⟨t,q⟩:=(show ∃ t,u=Value.str y t from rx);cases q;exact W.kia_one W.kitx_str I.kIn True.intro e (λz=>nomatch z) h
 | flt y=>obtain ⟨t,q⟩:=(show ∃ t,u=Value.float y t from rx);cases q;exact W.kia_one W.kitx_float I.kIn True.intro e (λz=>nomatch z) h
 | @lst a xs ea =>
  cases (show u=Value.ref a from rx);obtain ⟨_,_,n,_,h1⟩:=(show E5 X.prog X.w H s.heap a (.lst xs) from I.hok a _ ea);exact W.kia_one W.kitx_list I.kIn ⟨_,h1,rfl⟩ e (λz=>nomatch z) h
 | @frz a ob xs ea =>
  cases (show u=Value.ref a from rx);obtain ⟨_,_,_,n,_,h1⟩:=(show E5 X.prog X.w H s.heap a (.frz ob (.lst xs)) from I.hok a _ ea);exact W.kia_one W.kitx_list I.kIn ⟨_,h1,rfl⟩ e (λz=>nomatch z) h
 | @tup a xs ea =>
  cases (show u=Value.ref a from rx);obtain ⟨_,_,_,p⟩:=(show E5 X.prog X.w H s.heap a (.tup xs) from I.hok a _ ea);obtain ⟨o,h1,h2,_⟩:=p;exact W.kia_one W.kitx_tuple I.kIn ⟨o,h1,h2⟩ e (λz=>nomatch z) h
 | @dK a kvs ea =>
  cases (show u=Value.ref a from rx);obtain ⟨_,_,vs,_,p⟩:=(show E5 X.prog X.w H s.heap a (.dK kvs) from I.hok a _ ea);obtain ⟨o,es,ep,h1,h2,_⟩:=p;exact W.kia_one W.kitx_dict I.kIn ⟨o,h1,h2.1⟩ e (λz=>nomatch z) h
 | @dT a kvs ea =>
  cases (show u=Value.ref a from rx);obtain ⟨_,_,xs,_,o,es,ep,h1,h2,_⟩:=(show E5 X.prog X.w H s.heap a (.dT kvs) from I.hok a _ ea);exact W.kia_one W.kitx_dict I.kIn ⟨o,h1,h2.1⟩ e (λz=>nomatch z) h
 | @ins a C dx fs ea cl ha hn htk hm =>
  cases (show u=Value.ref a from rx);obtain ⟨mA,Oi,_⟩:=C5t I.hok ea;obtain ⟨od,J,_⟩:=Oi.look;exact W.kia_one (W.kitx_own (cl.get _) cl.hd ha hn htk hm) I.kIn J e (λz=>nomatch z) h
end
structure O3 (k:Nat) (A:Around):Prop where
 hd:A.handled=none
 dp:A.depth+3*k+5 < recursionLimit
 un:A.units+16*k+200 < cLine
 gd:A.guards=some []
theorem O3.mono {j k:Nat} {A:Around} (r:O3 k A) (h:j<=k):O3 j A:=⟨r.hd,by have:=r.dp;lia,by have:=r.un;lia,r.gd⟩
theorem O3.deeper {k:Nat} {A:Around} (r:O3 (k+1) A) (env:Env):O3 k (A.deeper env) :=
 ⟨r.hd,by have:=r.dp;show A.depth+1+3*k+5 < _;lia,by have:=r.un;show A.units+3+16*k+200 < _;lia,r.gd⟩
theorem O3.depth {k:Nat} {A:Around} (r:O3 k A):A.depth < recursionLimit:=by have:=r.dp;lia
theorem O3.units {k:Nat} {A:Around} (r:O3 k A):A.units+64 < cLine:=by have:=r.un;lia
def C45:TA:=λ_ H Q=>Q [] H
def B1s (ta:TE) (tr:TA):TA:=λU H Q=>ta U H λx H1=>tr U H1 λxs H2=>Q (x::xs) H2
section
variable {X:Cx} {e:Expr} {es:List Expr} {te:TE} {t:TA} {pos:Pos}
theorem B4k:PA X [] C45:=λ_ _ _ _ H Q I h=>Calls.spliced_nil ⟨[],H,I,.nil,h⟩
theorem A9i (ha:PE X e te) (hr:PA X es t) (hs:stE e es X.env:=by rfl):PA X (e::es) (B1s te t):=by
 intro pos pins s U H Q I h;rw[hs];show wpAny _ _ (spliced ((false,eval e X.env)::backTo pos (starEach es X.env))) _ _ s;refine Calls.spliced_cons (E1 (ha pins s U H _ I h) λu s1 ⟨x,H1,I1,r1,q1⟩=>?_);exact E1 (hr pos pins s1 U H1 _ I1 q1) λus s2 ⟨xs,H2,I2,r2,q2⟩=>⟨x::xs,H2,I2,.cons r1 r2,q2⟩
def D6e (t:TA):TE:=λU H Q=>t U H λxs H1=>xs.length<=sizeLine/\∀ p,H1 p=none->Q (.ref p) (upd H1 p (.tup xs))
def D8c (t:TA):TE:=λU H Q=>t U H λxs H1=>xs.length<=sizeLine/\∀ p,H1 p=none->Q (.ref p) (upd H1 p (.lst xs))
theorem D1v {x1} (h:PA X es t):PE X (.Tuple es x1 pos) (D6e t):=by
 intro pins s U H Q I hq;refine wpAny_Tuple_spliced (E1 (h pos pins s U H _ I hq) λus s1 ⟨xs,H1,I1,r,z,q⟩=>⟨by rw[<-r.length];exact z,?_⟩);have hf:H1 s1.heap.objs.size=none:=I1.hok.fresh (qp _);refine ⟨.ref s1.heap.objs.size,upd H1 s1.heap.objs.size (.tup xs),I1.laid (t':=s1.toks) (λb u e=>qa _ e) (qp _) ?_,rfl,q _ hf⟩;exact ⟨z,us,r,⟨_,ql _ rfl,rfl,_,rfl⟩⟩
theorem D5e (h:PA X es t):PE X (.List es pos) (D8c t):=by
 intro pins s U H Q I hq;refine wpAny_List_spliced (E1 (h pos pins s U H _ I hq) λus s1 ⟨xs,H1,I1,r,z,q⟩=>⟨by rw[<-r.length];exact z,?_⟩);have hf:H1 s1.heap.objs.size=none:=I1.hok.fresh (qp _);refine ⟨.ref s1.heap.objs.size,upd H1 s1.heap.objs.size (.lst xs),I1.laid (t':=s1.toks) (λb u e=>qa _ e) (qp _) ?_,rfl,q _ hf⟩;exact ⟨z,us,0,r,ql _ rfl⟩
end
abbrev Sp:=List V->Hp->VK->XK->Prop
abbrev CXT:=List Env->Hp->Shared->XK->Value->Shared->Prop
structure B0l (P:Program) (w:World) (K:W.Frag) (mg:Str->Option Value) (base:Heap) (A:Around) (outer:List Env) (s:Shared) (H:Hp):Prop where
 frames:A.frames=some outer
 mod:Mod K mg base
 bs:∀ b o,base.get? b=some o->s.heap.get? b=some o/\H b=none
 bsz:base.objs.size<=s.heap.objs.size
 funs:s.heap.FunFrames base outer
 frf:∀ b∈frs outer,H b=none
 hok:HOk P w H s.heap
 bare:AllBare s.gens
def CE (outer:List Env) (P:Program) (w:World) (H:Hp) (s:Shared) (Q:VK) (u:Value) (s':Shared):Prop :=
 ∃ v H',s'.os=s.os/\AllBare s'.gens/\Un (frs outer) [] H H' s.heap s'.heap/\HOk P w H' s'.heap/\D0 v u/\Q v H'
def CR (CX:CXT) (outer:List Env) (P:Program) (w:World) (H:Hp) (s:Shared) (Q:VK) (E:XK) (r:Result) (s':Shared):Prop :=
 match r with
 | .ok (.ret u)=>CE outer P w H s Q u s'
 | .ok _=>False
 | .error e=>CX outer H s E e s'
structure I0 (P:Program) (w:World) (K:W.Frag) (mg:Str->Option Value) (base:Heap) (CX:CXT) (k:Nat) (f:Addr) (fd:FuncData) (ps:List Str) (sp:Sp):Prop where
 len:∀ vs H Q E,sp vs H Q E->vs.length=ps.length
 run:∀ (A:Around) (outer:List Env) (s:Shared) (H:Hp) (args:Args) (us:List Value) (vs:List V) (Q:VK) (E:XK),O3 k A->B0l P w K mg base A outer s H->BindsTo s fd args (ps.zip us)->C6 vs us->sp vs H Q E ->
  codeAny (model P w) A (.call (.ref f) args) (CR CX outer P w H s Q E) s
variable {CX:CXT}
theorem I0.imp {w:World} {K:W.Frag} {mg:Str->Option Value} {base:Heap} {k:Nat} {f:Addr} {ps:List Str} {sp sp':Sp} (F:I0 P w K mg base CX k f fd ps sp)
  (h:∀ vs H Q E,sp' vs H Q E->sp vs H Q E):I0 P w K mg base CX k f fd ps sp' :=
 ⟨λvs H Q E q=>F.len vs H Q E (h _ _ _ _ q),λA outer s H args us vs Q E hr he hb hv hs=>F.run A outer s H args us vs Q E hr he hb hv (h _ _ _ _ hs)⟩
section
variable {X:Cx} {pins:List (Addr × Obj)} {U:St} {H:Hp} {s s':Shared}
theorem B6.env0 (I:B6 X pins U H s):B0l X.prog X.w X.K X.mg X.base X.A X.stack s H :=
 ⟨I.ok.frames,I.ok.mod,I.bs,zn I.ok.bsz I.sz,I.stack,I.stkFree,I.hok,I.bare⟩
theorem B6.after {Q:VK} {u:Value} (I:B6 X pins U H s) (h:CE X.stack X.prog X.w H s Q u s'):EP X pins U Q u s':=by
 obtain ⟨v,H',os,bare,un,hok,r,q⟩:=h;obtain ⟨hh,g,d,t,os'⟩:=s';obtain rfl:os'=s.os:=os;exact ⟨v,H',I.call (h':=hh) (g':=g) (d':=d) (t':=t) (ch:=[]) un hok bare (λb z=>absurd z (by simp)),r,q⟩
end
def B1v (sp:Sp) (dvs:List V) (E:XK) (t:TA):TE:=λU H Q=>t U H λvs H1=>sp (vs++dvs) H1 Q E
def A3b (K:W.Frag) (fd:FuncData) (ps:List Str) (ds:List Value):Prop :=
 ∀ (s:Shared) (us:List Value),K.In s.heap->(us++ds).length=ps.length->BindsTo s fd ⟨us,[]⟩ (ps.zip (us++ds))
theorem A3b.all {K:W.Frag} {ps:List Str} (h:∀ us:List Value,us.length=ps.length->bindArgs fd ⟨us,[]⟩=pure (ps.zip us)):A3b K fd ps []:=λs us _ hl=>by
 rw[append_nil] at hl ⊢;exact .of_eq (h us hl)
def A1r (CX:CXT) (X:Cx) (E:XK):Prop:=∀ (pins:List (Addr × Obj)) (U:St) (H:Hp) (s:Shared) (e:Value) (s':Shared),B6 X pins U H s->CX X.stack H s E e s'->X.xe e s'
section
variable {X:Cx} {CX:CXT} {k:Nat} {f C:Addr} {fd:FuncData} {ps:List Str} {sp:Sp} {dvs:List V} {ds:List Value} {E:XK} {x:Str} {p pos:Pos} {e:Expr} {es:List Expr} {t:TA}
theorem D19 {H:Hp} {Q:VK} (F:I0 X.prog X.w X.K X.mg X.base CX k f fd ps sp) (hr:O3 k X.A) (hb:A3b X.K fd ps ds) (hd:C6 dvs ds) (hx:A1r CX X E)
  (I:B6 X pins U H s) (r:C6 vs us) (h:sp (vs++dvs) H Q E):wpAny (model X.prog X.w) X.A (call (.ref f) us) (EP X pins U Q) X.xe s:=by
 have r2:C6 (vs++dvs) (us++ds):=r.append hd;have hl:(us++ds).length=ps.length:=by rw[<-r2.length];exact F.len _ _ _ _ h
 refine wpAny_call (codeAny_mono (F.run X.A X.stack s H ⟨us,[]⟩ (us++ds) (vs++dvs) Q E hr I.env0 (hb s us I.kIn hl) r2 h) λr s' hq=>?_);cases r with
 | error e=>exact hx pins U H s e s' I hq
 | ok fl =>
  cases fl with
  | ret u=>exact I.after hq
  | next=>exact False.elim hq
  | brk=>exact False.elim hq
  | cont=>exact False.elim hq
theorem B5d (F:I0 X.prog X.w X.K X.mg X.base CX k f fd ps sp) (hr:O3 k X.A) (hg:Gl X x) (hm:X.mg x=some (.ref f)) (hk:W.keepIn X.K (.ref f)=true) (hb:A3b X.K fd ps ds) (hd:C6 dvs ds) (hx:A1r CX X E)
  (ha:PA X (e::es) t) (hdb:noD x:=by decide) (he:stE e es X.env:=by rfl) (hpl:stB pos es X.env:=by rfl) :
  PE X (.Call (.Name x p) (e::es) [] pos) (B1v sp dvs E t):=by
 intro pins s U H Q I h;refine wpAny_Call_Name_kw (U2 I hg hm ?_ hdb);refine W.callWith_K (h₀:=X.base) I.ok.mod.kin hk (E1 (ha pos pins s U H _ I h) λus s1 ⟨vs,H1,I1,r,q⟩=>⟨I1.kIn,?_⟩) he hpl;exact D19 F hr hb hd hx I1 r q
structure Mk (K:W.Frag) (C f:Addr):Prop where
 makes:W.makesIn K C=true
 init:W.findIn K (.ref C) "__init__"=some (some (.ref f))
 fn:W.isFn K (.ref f)=true
 kp:W.keepIn K (.ref C)=true
end
structure C0 (N P:List Str) (sc:Scope):Prop where
 kind:sc.kind=.function
 co:sc.isCoroutine=false
 gen:sc.isGenerator=false
 nd:N.Nodup
 pre:N.take P.length=P
 par:∀ x∈P,sc.names.lookup x=some .local\/sc.names.lookup x=some .cell
 nofree:∀ y∈sc.names,y.2≠.free
theorem A6h {kindOf:Str->Option NameKind} {x:Str}:∀ {binds:List (Str × Value)} {m:Str->Option Value},(∀ v,(x,v)∉binds)->bindL kindOf binds m x=m x
 | [],_,_=>rfl
 | (n,v)::r,m,h=>by
  unfold bindL;rw[A6h λw hw=>h w (qv _ hw)];split
  ·have:x≠n:=by rintro rfl;exact h v qu
   simp[this]
  ·rfl
theorem A78 {kindOf:Str->Option NameKind} {x:Str}:∀ {binds:List (Str × Value)} {m:Str->Option Value},(∀ v,(x,v)∉binds)->bindC kindOf binds m x=m x
 | [],_,_=>rfl
 | (n,v)::r,m,h=>by
  unfold bindC;rw[A78 λw hw=>h w (qv _ hw)];split
  ·rfl
  ·have:x≠n:=by rintro rfl;exact h v qu
   simp[this]
theorem A6v {kindOf:Str->Option NameKind} {x:Str} {v:Value}:∀ {P:List Str} {vs:List Value} {i:Nat} {m:Str->Option Value},P.Nodup->P[i]?=some x->vs[i]?=some v->kindOf x=some .local ->
  bindL kindOf (P.zip vs) m x=some v
 | [],_,_,_,_,h,_,_=>by simp at h
 | _::_,[],_,_,_,_,h,_=>by simp at h
 | p::P,w::vs,0,m,nd,h1,h2,hk=>by
  simp at h1 h2;subst h1;subst h2;show bindL kindOf ((p,w)::P.zip vs) m p=_;unfold bindL;rw[A6h λv hv=>(nodup_cons.mp nd).1 (List.of_mem_zip hv).1,qm hk];simp
 | p::P,w::vs,i+1,m,nd,h1,h2,hk=>by
  show bindL kindOf ((p,w)::P.zip vs) m x=_;unfold bindL;exact A6v (i:=i) (nodup_cons.mp nd).2 (by simpa using h1) (by simpa using h2) hk
theorem A7k {kindOf:Str->Option NameKind} {x:Str} {v:Value}:∀ {P:List Str} {vs:List Value} {i:Nat} {m:Str->Option Value},P.Nodup->P[i]?=some x->vs[i]?=some v->kindOf x≠some .local ->
  bindC kindOf (P.zip vs) m x=some v
 | [],_,_,_,_,h,_,_=>by simp at h
 | _::_,[],_,_,_,_,h,_=>by simp at h
 | p::P,w::vs,0,m,nd,h1,h2,hk=>by
  simp at h1 h2;subst h1;subst h2;show bindC kindOf ((p,w)::P.zip vs) m p=_;unfold bindC;rw[A78 λv hv=>(nodup_cons.mp nd).1 (List.of_mem_zip hv).1,qo hk];simp
 | p::P,w::vs,i+1,m,nd,h1,h2,hk=>by
  show bindC kindOf ((p,w)::P.zip vs) m x=_;unfold bindC;exact A7k (i:=i) (nodup_cons.mp nd).2 (by simpa using h1) (by simpa using h2) hk
def start (N:List Str) (vs:List V):St:=vs.map some++List.replicate (N.length - vs.length) none
def Z5 (CX:CXT) (P:Program) (w:World) (K:W.Frag) (mg:Str->Option Value) (base:Heap) (N:List Str) (qual:Str) (scope:Scope) (f:Addr) (cd:Value) (A:Around) (outer:List Env) (s:Shared) (H:Hp) (E:XK):Cx where
 prog:=P
 w:=w
 K:=K
 mg:=mg
 base:=base
 A:=A.deeper (envOfC qual scope s.heap.objs.size f cd)
 N:=N
 s₀:=s
 H₀:=H
 env:=envOfC qual scope s.heap.objs.size f cd
 outer:=outer
 stack:=envOfC qual scope s.heap.objs.size f cd::outer
 ex:=[]
 calm:=true
 fn:=λ_=>true
 pn:=[]
 xe:=λe s'=>wpAny (model P w) (A.deeper (envOfC qual scope s.heap.objs.size f cd)) (leaving (envOfC qual scope s.heap.objs.size f cd) e) (λ_ s''=>CX outer H s E e s'') (λe' s''=>CX outer H s E e' s'') s'
theorem B1h {sc:Scope} {n:Nat} {x:Str} (h:sc.names.lookup x=some .cell):∃ c,(cellsFrom n sc.names []).lookup x=some c:=by
 have q:=W.cellsFrom_some sc.names n [] (.inl h);exact Option.isSome_iff_exists.mp q
theorem A7d {w:World} {K:W.Frag} {mg:Str->Option Value} {base:Heap} {N ps:List Str} {f:Addr} {A:Around} {outer:List Env} {s1:Shared} {H:Hp} {E:XK} 
  (S:C0 N ps scope) (hd:A.handled=none) (e0:B0l P w K mg base A outer s H) (hl:vs.length=ps.length) (r:C6 vs us)
  (x:InCallC s s.heap.objs.size (bindL (envOfC qual scope s.heap.objs.size f cd).kindOf (ps.zip us) λ_=>none) (cellsFrom (s.heap.objs.size+1) scope.names []) (bindC (envOfC qual scope s.heap.objs.size f cd).kindOf (ps.zip us) λ_=>none) s1) :
  B6 (Z5 CX P w K mg base N qual scope f cd A outer s H E) [] (start N vs) H s1:=by
 have hpl:ps.length<=N.length:=by have:=congrArg List.length S.pre;rw[ja] at this;lia
 obtain ⟨h1,tk,rfl,hk⟩:=x.done;have noA:∀ b:Addr,b∉(Z5 CX P w K mg base N qual scope f cd A outer s H E).ex:=λb z=>absurd (show b∈([]:List Addr) from z) (by simp);refine ⟨⟨e0.mod,S.kind,rfl,rfl,qp _,λy z c h1 h2=>?_,λy hy=>?_,λy c _ h=>?_,λ_=>hd,Around.frames_deeper e0.frames,.inr ⟨rfl,rfl⟩,λb z=>absurd z (noA b),e0.bs,e0.bsz,λb _ _=>noA b,λb z=>absurd z (noA b),e0.funs,e0.frf⟩,
  rfl,e0.bare,Un.kept hk,⟨_,x.toInCall.ns,λi y v h1 h2 h3=>?_⟩,λy c h=>⟨_,x.cell y c h⟩,e0.hok.fresh (qp _),λy c h=>?_,λp hp=>absurd (show p∈([]:List (Addr × Obj)) from hp) (by simp),e0.hok.kept hk,?_⟩
 ·exact name_of_addr x.apart (zw h1) (zw h2)
 ·have hy:scope.names.lookup y=some .cell\/scope.names.lookup y=some .free:=hy;rcases hy with hy|hy
  ·exact B1h hy
  ·exact absurd rfl (S.nofree _ (zw hy))
 ·exact zi (x.above y c (zw h))
 ·have hi:i < vs.length:=by
   unfold start at h2;by_cases hi:i < vs.length
   ·exact hi
   ·rw[List.getElem?_append_right (by simpa using hi)] at h2;rw[List.getElem?_replicate] at h2;split at h2<;>cases h2
  have ha:vs[i]?=some v:=by
   unfold start at h2;rw[List.getElem?_append_left (by simpa using hi),qk] at h2;cases e:vs[i]? with
   | none=>rw[e] at h2;cases h2
   | some a=>rw[e] at h2;cases h2;rfl
  obtain ⟨u,hu,rv⟩:=r.get ha;have hp:ps[i]?=some y:=by
   rw[<-S.pre,List.getElem?_take_of_lt (by lia)];exact h1
  have ndP:ps.Nodup:=by rw[<-S.pre];exact S.nd.sublist (List.take_sublist _ _)
  refine ⟨u,rv,?_⟩;rcases S.par y (zr hp) with k|k
  ·exact .inl ⟨k,A6v ndP hp hu k⟩
  ·obtain ⟨c,e⟩:=B1h (n:=s.heap.objs.size+1) k;refine .inr ⟨.inl k,c,e,?_⟩;have q:=x.cell y c e;rw[A7k ndP hp hu (by show scope.names.lookup y≠_;rw[k];decide)] at q;exact q
 ·exact e0.hok.fresh (zi (x.above y c (zw h)))
 ·unfold start;show _=N.length;rw[length_append,qf,List.length_replicate];lia
theorem C9s {w:World} {K:W.Frag} {mg:Str->Option Value} {base:Heap} {k:Nat} {f:Addr} {params:Arguments} {dV kV pm ct:Value} {an:Option Addr}
  {N ps:List Str} {sp:Sp} (lk:K.lookup f=some ⟨oc,od,.func (W.fnOf name qual params body scope dV kV doc pm an cdv ct),osl⟩) (hcd:W.codeIn K cdv qual=true) (S:C0 N ps scope)
  (len:∀ vs H Q E,sp vs H Q E->vs.length=ps.length)
  (hbody:∀ (A:Around) (outer:List Env) (s:Shared) (H:Hp) (vs:List V) (Q:VK) (E:XK),O3 k (A.deeper (envOfC qual scope s.heap.objs.size f cdv))->sp vs H Q E ->
   ∃ t,PSs (Z5 CX P w K mg base N qual scope f cdv A outer s H E) body t/\t {nx:=λ_ H'=>Q .non H',rt:=Q } (start N vs) H) :
  I0 P w K mg base CX (k+1) f (W.fnOf name qual params body scope dV kV doc pm an cdv ct) ps sp:=by
 refine ⟨len,λA outer s H args us vs Q E hr e0 hb r hsp=>?_⟩;have hl:=len _ _ _ _ hsp;have KX:K.In s.heap:=e0.mod.kin.keeps λb o e=>(e0.bs b o e).1;have lim:s.heap.NoLimit:=e0.mod.nolimit.keeps λb o e=>(e0.bs b o e).1;have hkind:∀ y∈ps.zip us,scope.names.lookup y.1=some .local\/(scope.names.lookup y.1=some .cell/\((cellsFrom (s.heap.objs.size+1) scope.names []).lookup y.1).isSome=true):=λ⟨n,v⟩ hy=>by
  rcases S.par n (List.of_mem_zip hy).1 with q|q
  ·exact .inl q
  ·exact .inr ⟨q,W.cellsFrom_some _ _ _ (.inl q)⟩
 refine codeAny_call_function hr.depth (KX _ _ lk) rfl S.co S.gen rfl (W.codeRec_of KX hcd) (hb _ _ _ _ ?_);refine wpAny_newFunctionEnv_cells S.kind hkind λenv he s1 x=>?_;subst he;refine ⟨lim.keeps x.toInCall.keep,codeAny_func ?_⟩;obtain ⟨t,ht,hq⟩:=hbody A outer s H vs Q E (hr.deeper _) hsp;have I:B6 (Z5 CX P w K mg base N qual scope f cdv A outer s H E) [] (start N vs) H s1:=A7d S hr.hd e0 hl r x;refine jc (ht [] s1 (start N vs) H _ I hq) (λfl s' hs=>?_) λe s' hs=>hs;have fin:∀ {U':St} {H':Hp} {v:V} {u:Value},B6 (Z5 CX P w K mg base N qual scope f cdv A outer s H E) [] U' H' s'->D0 v u->Q v H'->CE outer P w H s Q u s' :=
  λ{U' H' v u} J rv q=>⟨v,H',J.os,J.bare,J.base,J.hok,rv,q⟩
 cases fl with
 | ret u =>
  obtain ⟨v,U',H',J,rv,q⟩:=hs;exact fin J rv q
 | next =>
  obtain ⟨U',H',J,q⟩:=hs;exact fin (v:=V.non) (u:=Value.none) J rfl q
 | brk =>
  obtain ⟨_,_,_,q⟩:=hs;exact False.elim q
 | cont =>
  obtain ⟨_,_,_,q⟩:=hs;exact False.elim q
section
variable {X:Cx} {x:Str} {p pos:Pos} {e:Expr} {es:List Expr} {t:TA} {id T:String} {r:List V->Hp->VK->Prop}
def tCB (r:List V->Hp->VK->Prop) (t:TA):TE:=λU H Q=>t U H λvs H1=>r vs H1 Q
theorem B9b (hc:J2 X (.builtin id) r) (hg:Gl X x) (hm:X.mg x=none) (hv:bootBuiltins x=some (.builtin id)) (ha:PA X (e::es) t) (hn:x≠"__name__":=by decide) (hdb:noD x:=by decide)
  (he:stE e es X.env:=by rfl) (hpl:stB pos es X.env:=by rfl):PE X (.Call (.Name x p) (e::es) [] pos) (tCB r t):=by
 intro pins s U H Q I h;refine wpAny_Call_Name_kw (A5z I hg hm hv ?_ hn hdb);exact PyProof.Rows.callWith_builtin1 (E1 (ha pos pins s U H _ I h) λus s1 ⟨vs,H1,I1,r1,q1⟩=>hc pins s1 U H1 vs us Q I1 r1 q1) he hpl
theorem B76 (hc:J2 X (.type T) r) (hg:Gl X x) (hm:X.mg x=none) (hv:bootBuiltins x=some (.type T)) (ha:PA X (e::es) t) (hn:x≠"__name__":=by decide) (hdb:noD x:=by decide)
  (he:stE e es X.env:=by rfl) (hpl:stB pos es X.env:=by rfl):PE X (.Call (.Name x p) (e::es) [] pos) (tCB r t):=by
 intro pins s U H Q I h;refine wpAny_Call_Name_kw (A5z I hg hm hv ?_ hn hdb);exact PyProof.Rows.callWith_type1 (E1 (ha pos pins s U H _ I h) λus s1 ⟨vs,H1,I1,r1,q1⟩=>hc pins s1 U H1 vs us Q I1 r1 q1) he hpl
end
end L2
namespace HT
open PySem PyProof.Rows
section
open PySem.SeqAt
open PySem.AutoSeq1 (wpAny_loadPart')
open PySem.MeetsSeq PySem.MeetsSeq2 PySem.MeetsSeq3
end
variable {lo hi:Option Int}
section
variable {prog:Program} {w:World} {A:Around} {E:Value->Shared->Prop} {s:Shared}
def sIx (n d:Nat):Option Int->Nat
 | none=>d
 | some v=>if v < 0 then (v+(n:Int)).toNat else min v.toNat n
theorem D5k (n d:Nat) (hd:d<=n) (o:Option Int):sIx n d o<=n:=by
 cases o with
 | none=>exact hd
 | some v =>
  show (if v < 0 then (v+(n:Int)).toNat else min v.toNat n)<=n;by_cases hv:v < 0
  ·rw[qm hv];lia
  ·rw[qo hv];exact Nat.min_le_right _ _
theorem B4s (v:Int) (n d:Nat):(if v < 0 then max (v+(n:Int)) 0 else min v (n:Int))=((sIx n d (some v):Nat):Int):=by
 show (if v < 0 then max (v+(n:Int)) 0 else min v (n:Int))=(((if v < 0 then (v+(n:Int)).toNat else min v.toNat n):Nat):Int);by_cases hv:v < 0
 ·simp only[qm hv];lia
 ·simp only[qo hv];lia
theorem B3x (lo hi:Option Int) (n:Nat):Builtin.Slice.sliceAdjust lo hi 1 (n:Int)=(((sIx n 0 lo:Nat):Int),((sIx n n hi:Nat):Int)):=by
 have h1:¬ ((1:Int) < 0):=by lia
 unfold Builtin.Slice.sliceAdjust;simp only[h1,if_false];refine Prod.ext ?_ ?_
 ·cases lo with
  | none=>rfl
  | some v=>exact B4s v n 0
 ·cases hi with
  | none=>rfl
  | some v=>exact B4s v n n
theorem B42 (i j:Nat):Builtin.Slice.slicePlaces (i:Int) (j:Int) 1=j - i:=by
 unfold Builtin.Slice.slicePlaces;have h1:(1:Int) > 0:=by lia
 simp only[h1,if_true,Int.ediv_one];split<;>lia
theorem A4r {v:Value} {o:Option Int} {Q:Option Int->Shared->Prop} (p:IsPart v o) (h:Q o s):wpAny (model prog w) A (Builtin.Slice.slicePartIndex v) Q E s:=by
 cases p with
 | none=>exact slicePart_none h
 | int i t=>exact slicePart_int h
theorem W5 {sl:Addr} {n:Nat} {Q:Int × Int × Nat->Shared->Prop} (hs:s.heap.IsSliceOf sl vl vu .none) (pl:IsPart vl lo) (pu:IsPart vu hi)
  (h:Q (((sIx n 0 lo:Nat):Int),1,sIx n n hi - sIx n 0 lo) s):wpAny (model prog w) A (Builtin.Slice.sliceApplied (.ref sl) (pure (n:Int))) Q E s:=by
 obtain ⟨os,hos,hcs,hds⟩:=id hs;unfold Builtin.Slice.sliceApplied Builtin.Slice.sliceFields;refine qb (qb (wpAny_field hos hds (x:=vl) rfl (qb (wpAny_field hos hds (x:=vu) rfl (qb (wpAny_field hos hds (x:=.none) rfl (qc ?_)))))));refine qb (slicePart_none ?_);show wpAny _ _ (if ((1:Int)==0)=true then _ else _) _ _ s;rw[qo (by decide)];refine qb (A4r pl (qb (A4r pu (qb (qc ?_)))));show wpAny _ _ (match Builtin.Slice.sliceAdjust lo hi 1 (n:Int) with|(lo,hi)=>pure (lo,(1:Int),Builtin.Slice.slicePlaces lo hi 1)) _ _ s;rw[B3x lo hi n];show wpAny _ _ (pure (((sIx n 0 lo:Nat):Int),(1:Int),Builtin.Slice.slicePlaces ((sIx n 0 lo:Nat):Int) ((sIx n n hi:Nat):Int) 1)) _ _ s;rw[B42];exact qc h
theorem C0h (xs:Array Value) (i k:Nat):((List.range k).filterMap λ(m:Nat)=>xs[((i:Int)+(m:Int)*1).toNat]?).toArray=((xs.toList.drop i).take k).toArray:=by
 have e:(λ(m:Nat)=>xs[((i:Int)+(m:Int)*1).toNat]?)=λm=>xs[i+m]?:=by
  funext m;have:((i:Int)+(m:Int)*1).toNat=i+m:=by lia
  rw[this]
 rw[e];have:=pick_run xs i k;rw[List.filterMap_map] at this;have e2:((λx=>xs[x]?) ∘ λx=>i+x)=λm=>xs[i+m]?:=rfl;rw[e2] at this;rw[this]
theorem getItem_tuple_cut {t sl:Addr} {Q:Value->Shared->Prop} (ht:IsTup s.heap t items) (hs:s.heap.IsSliceOf sl vl vu .none) (pl:IsPart vl lo) (pu:IsPart vu hi)
  (hw:¬ (sIx items.size 0 lo=0/\sIx items.size items.size hi=items.size))
  (h:Q (.ref s.heap.objs.size) { s with heap:=s.heap.push {cls:=.type "tuple",data:=.seq ((items.toList.drop (sIx items.size 0 lo)).take (sIx items.size items.size hi - sIx items.size 0 lo)).toArray } })
  (hsz:items.size<=sizeLine):wpAny (model prog w) A (getItem (.ref t) (.ref sl)) Q E s:=by
 have htake:sizeOk (.seq ((items.toList.drop (sIx items.size 0 lo)).take (sIx items.size items.size hi - sIx items.size 0 lo)).toArray):=by
  show ((items.toList.drop (sIx items.size 0 lo)).take (sIx items.size items.size hi - sIx items.size 0 lo)).toArray.size<=sizeLine;rw[size_toArray,ja,length_drop,qj];lia
 have hj:sIx items.size items.size hi<=items.size:=D5k _ _ (qp _) hi;obtain ⟨os,hos,hcs,hds⟩:=id hs;have hTs:s.TypeIs (.ref sl) "slice":=⟨os,hos,hcs⟩;unfold getItem
 try with_reducible refine wpAny_holding ?_
 first|refine qb (qc ?_)|skip
 refine qb (wpAny_sequenceKey ht.typeIs (by decide) ?_);refine qb (wpAny_callSpecial?_slot (name:=Str.ofString "__getitem__") ht.typeIs PyProof.Rows.slot_tuple_getitem
  (wpAny_call_entry PyProof.Rows.slot_tuple_getitem ht.typeIs entry_tuple_getitem ?_ (args_tuple_getitem _ _)))
 show wpAny _ _ (Builtin.Tuple.tupleItemsOf (.ref t) >>= _) _ _ s;refine qb (tupleItemsOf_ ht ?_);refine qb (wpAny_typeOf hTs ?_);rw[qm (by decide)];refine qb (W5 hs pl pu ?_);have hno:¬ ((((sIx items.size 0 lo:Nat):Int)==0&&(1:Int)==1&&(sIx items.size items.size hi - sIx items.size 0 lo)==items.size)=true):=by
  intro q;rw[zb,zb] at q;have q1:((sIx items.size 0 lo:Nat):Int)=0:=eq_of_beq q.1.1;have q2:sIx items.size items.size hi - sIx items.size 0 lo=items.size:=eq_of_beq q.2;exact hw ⟨by lia,by lia⟩
 show wpAny _ _ (if (((sIx items.size 0 lo:Nat):Int)==0&&(1:Int)==1&&(sIx items.size items.size hi - sIx items.size 0 lo)==items.size)=true then _ else _) _ _ s;rw[qo hno,C0h]
 first
  | exact qb (m:=Builtin.Tuple.tupleExact _) (wpAny_newObj_type (qc ⟨_,rfl,qc h⟩) htake)
  | exact qb (m:=Builtin.Tuple.tupleExact _) (wpAny_newObj_type (qb (qc (qc ⟨_,rfl,qc h⟩))) htake)
  | exact qb (qb (m:=Builtin.Tuple.tupleExact _) (wpAny_newObj_type (qc (qc ⟨_,rfl,qc h⟩)) htake))
  | exact qb (qb (m:=Builtin.Tuple.tupleExact _) (wpAny_newObj_type (qc ⟨_,rfl,qc h⟩) htake))
end
end HT
variable {H H' H1 H2 Hs H0 F0 Hm:Hp} {r':R2} {sp:Sp} {g:TG} {wi:TI} {ti:TT} {J:It} {En:V7} {U':L2.St} {tv:TE} {Acc:List C1->Hp->Prop}
namespace L2
abbrev TO:=St->Hp->(Option Int->Hp->Prop)->Prop
def PO (X:Cx) (e:Option Expr) (t:TO):Prop :=
 ∀ (pins:List (Addr × Obj)) (s:Shared) (U:St) (H:Hp) (Q:Option Int->Hp->Prop),B6 X pins U H s->t U H Q ->
  wpAny (model X.prog X.w) X.A (evalPart e X.env) (λu s'=>∃ o H',B6 X pins U H' s'/\IsPart u o/\Q o H') X.xe s
def B5a:TO:=λ_ H Q=>Q none H
def D0a (t:TE):TO:=λU H Q=>t U H λx H1=>∃ i,x=.int i/\Q (some i) H1
theorem A19 {ns:List Int}:∀ {us:List Value},C6 (ns.map V.int) us->IntsAre us ns:=by
 induction ns with
 | nil=>intro us r;rw[List.map_nil] at r;cases r;exact .nil
 | cons n ns ih =>
  intro us r;rw[map_cons] at r;cases r with
  | cons r1 r2 =>
   obtain ⟨t,e⟩:=r1;subst e;exact .cons n t (ih r2)
variable {r:V->Option Int->Option Int->Hp->VK->Prop} {n j:Nat} {s:Shared} {v u:Value} {A:Around} {y:V} {its:List Value}
section
variable {X:Cx} {e:Expr} {te:TE} {lo hi:Option Expr} {tl th:TO} {pos p2:Pos}
theorem C7q:PO X none B5a:=by
 intro pins s U H Q I h;rw[evalPart_none];exact qc ⟨none,H,I,.none,h⟩
theorem C70 (h:PE X e te):PO X (some e) (D0a te):=by
 intro pins s U H Q I hw;rw[evalPart_some];refine E1 (h pins s U H _ I hw) λu s1 ⟨x,H1,I1,r1,q1⟩=>?_;obtain ⟨i,rfl,q⟩:=q1;obtain ⟨t,rfl⟩:=r1;exact ⟨some i,H1,I1,.int i t,q⟩
def SlR (X:Cx) (r:V->Option Int->Option Int->Hp->VK->Prop):Prop :=
 ∀ (pins:List (Addr × Obj)) (s:Shared) (U:St) (H:Hp) (x:V) (v vl vu:Value) (lo hi:Option Int) (sl:Addr) (Q:VK),B6 X pins U H s->D0 x v->s.heap.IsSliceOf sl vl vu .none->IsPart vl lo->IsPart vu hi->r x lo hi H Q ->
  ∃ T id,typeLookup (.type T) "__getitem__"=pure (some (.builtin id))/\s.TypeIs v T/\wpAny (model X.prog X.w) X.A (getItem v (.ref sl)) (EP X pins U Q) X.xe s
theorem SlR.or {r':V->Option Int->Option Int->Hp->VK->Prop} (h:SlR X r) (h':SlR X r'):SlR X (λx lo hi H Q=>r x lo hi H Q\/r' x lo hi H Q):=by
 intro pins s U H x v vl vu lo hi sl Q I rx hs pl pu q;rcases q with q|q
 ·exact h pins s U H x v vl vu lo hi sl Q I rx hs pl pu q
 ·exact h' pins s U H x v vl vu lo hi sl Q I rx hs pl pu q
def tSl (r:V->Option Int->Option Int->Hp->VK->Prop) (te:TE) (tl th:TO):TE:=λU H Q=>te U H λx H1=>tl U H1 λl H2=>th U H2 λu H3=>r x l u H3 Q
theorem C2f (hr:SlR X r) (he:PE X e te) (hl:PO X lo tl) (hu:PO X hi th):PE X (.Subscript e (.Slice lo hi none p2) pos) (tSl r te tl th):=by
 intro pins s U H Q I h;refine Subscript_ (E1 (he pins s U H _ I h) λv s1 ⟨x,H1,I1,r1,q1⟩=>?_);refine wpAny_Slice (E1 (hl pins s1 U H1 _ I1 q1) λvl s2 ⟨l,H2,I2,pl,q2⟩=>E1 (hu pins s2 U H2 _ I2 q2) λvu s3 ⟨u,H3,I3,pu,q3⟩=>?_);rw[evalPart_none];refine qc ?_;have I4:B6 X pins U H3 { s3 with heap:=s3.heap.push { cls:=.type "slice",data:=.fields #[vl,vu,.none] } }:=I3.kept (t':=s3.toks) λb ob q=>qa _ q;obtain ⟨T,id,hT,ht,hg⟩:=hr pins { s3 with heap:=s3.heap.push { cls:=.type "slice",data:=.fields #[vl,vu,.none] } } U H3 x v vl vu l u s3.heap.objs.size Q I4 r1 (Heap.IsSliceOf.new ..) pl pu q3;show wpAny (model X.prog X.w) X.A (subscriptTail e (.Slice lo hi none p2) v (.ref s3.heap.objs.size)) (EP X pins U Q) X.xe { s3 with heap:=s3.heap.push { cls:=.type "slice",data:=.fields #[vl,vu,.none] } };exact tail_any (ops:=[.ref s3.heap.objs.size,v]) ht hT hg (by with_unfolding_all rfl)
def A67 (xs:List V) (lo hi:Option Int):List V:=(xs.drop (HT.sIx xs.length 0 lo)).take (HT.sIx xs.length xs.length hi - HT.sIx xs.length 0 lo)
theorem A39 (xs:List V) (lo hi:Option Int):(A67 xs lo hi).length<=xs.length:=by
 unfold A67;rw[ja,length_drop];lia
def E10 (K:W.Frag):V->Option Int->Option Int->Hp->VK->Prop:=λx lo hi H Q=>∃ a xs,x=.ref a/\V2 K H a xs /\
 ¬ (HT.sIx xs.length 0 lo=0/\HT.sIx xs.length xs.length hi=xs.length)/\∀ p,H p=none->Q (.ref p) (upd H p (.tup (A67 xs lo hi)))
theorem D2l:SlR X (E10 X.K):=by
 intro pins s U H x v vl vu lo hi sl Q I rx hs pl pu h;obtain ⟨a,xs,rfl,hx,hw,q⟩:=h;cases rx;obtain ⟨its,r,ht,hz⟩:=I.tuple hx;have hlen:its.toArray.size=xs.length:=by rw[size_toArray];exact r.length.symm
 refine ⟨"tuple",_,PyProof.Rows.slot_tuple_getitem.lookup,ht.typeIs,?_⟩;refine HT.getItem_tuple_cut ht hs pl pu (by rw[hlen];exact hw) ?_ (by rw[hlen];exact hz);rw[hlen];refine ⟨.ref s.heap.objs.size,_,I.laid (t':=s.toks) (o:=.tup (A67 xs lo hi)) (λb ob q=>qa _ q) (qp _) ?_,rfl,q _ (I.hok.fresh (qp _))⟩;exact ⟨zn (A39 xs lo hi) hz,_,(r.drop (HT.sIx xs.length 0 lo)).take (HT.sIx xs.length xs.length hi - HT.sIx xs.length 0 lo),IsTup.new _ _⟩
end
def ixN (n:Nat) (i:Int):Option Nat:=if 0<=i then (if i < n then some i.toNat else none) else if -(n:Int)<=i then some (i+n).toNat else none
def atI {α:Type} (xs:List α) (i:Int):Option α:=(ixN xs.length i).bind λj=>xs[j]?
theorem C8y {i:Int} (h:ixN n i=some j):seqIndex? i n=some j/\j < n/\-(n:Int)<=i/\i < n:=by
 unfold ixN at h;by_cases h0:0<=i
 ·rw[qm h0] at h;by_cases h1:i < n
  ·rw[qm h1] at h;have e:i.toNat=j:=zp h;exact ⟨by rw[seqIndex_of h0 h1,e],by lia,by lia,h1⟩
  ·rw[qo h1] at h;cases h
 ·rw[qo h0] at h;by_cases h1:-(n:Int)<=i
  ·rw[qm h1] at h;have e:(i+n).toNat=j:=zp h;exact ⟨by rw[seqIndex_neg (by lia) h1,e],by lia,h1,by lia⟩
  ·rw[qo h1] at h;cases h
theorem A8b {α:Type} {xs:List α} {i:Int} {v:α} (h:atI xs i=some v):∃ j,seqIndex? i xs.length=some j/\xs[j]?=some v/\j < xs.length/\-(xs.length:Int)<=i/\i < xs.length:=by
 unfold atI at h;cases e:ixN xs.length i with
 | none=>rw[e] at h;cases h
 | some j =>
  rw[e] at h;obtain ⟨h1,h2,h3,h4⟩:=C8y e;exact ⟨j,h1,h,h2,h3,h4⟩
theorem L5 {α:Type} {xs:List α} {v:α} (h:xs[j]?=some v):atI xs (j:Int)=some v:=by
 have hj:j < xs.length:=(qh.mp h).1;have e:ixN xs.length (j:Int)=some j:=by
  unfold ixN;rw[qm (by lia),qm (by lia)];simp
 unfold atI;rw[e];exact h
def A9l (b:Expr):Prop:=∀ o i,subscripted b false o i=operate [o,i] (getItem o i)
def IxR (X:Cx) (r:R2):Prop :=
 ∀ (value slice:Expr) (pins:List (Addr × Obj)) (s:Shared) (U:St) (H:Hp) (x y:V) (v u:Value) (Q:VK),B6 X pins U H s->D0 x v->D0 y u->r x y H Q ->
  subscripted slice false v u=operate [v,u] (getItem v u)->wpAny (model X.prog X.w) X.A (subscriptTail value slice v u) (EP X pins U Q) X.xe s
def MtR (X:Cx) (id:String) (r:V->List V->Hp->VK->Prop):Prop :=
 ∀ (pins:List (Addr × Obj)) (s:Shared) (U:St) (H:Hp) (x:V) (xs:List V) (v:Value) (us:List Value) (Q:VK),B6 X pins U H s->D0 x v->C6 xs us->r x xs H Q ->
  wpAny (model X.prog X.w) X.A (call (.builtin id) (v::us)) (EP X pins U Q) X.xe s
section
variable {X:Cx} {a b:Expr} {ta tb:TE} {pos:Pos}
theorem IxR.or {r:R2} (h:IxR X r) (h':IxR X r'):IxR X (λx y H Q=>r x y H Q\/r' x y H Q):=by
 intro value slice pins s U H x y v u Q I rx ry q hs;rcases q with q|q
 ·exact h value slice pins s U H x y v u Q I rx ry q hs
 ·exact h' value slice pins s U H x y v u Q I rx ry q hs
theorem D8m {r:R2} (hr:IxR X r) (ha:PE X a ta) (hb:PE X b tb) (hs:A9l b):PE X (.Subscript a b pos) (tOp r ta tb):=by
 intro pins s U H Q I h;exact Subscript_ (D55 ha hb I h λv u s2 x y H2 I2 rx ry q=>hr a b pins s2 U H2 x y v u Q I2 rx ry q (hs _ _))
def D81 (K:W.Frag):R2:=λx y H Q=>∃ p xs i v,x=.ref p/\y=.int i/\O5 K H p xs/\atI xs i=some v/\Q v H
def D7r (K:W.Frag):R2:=λx y H Q=>∃ p xs i v,x=.ref p/\y=.int i/\V2 K H p xs/\atI xs i=some v/\Q v H
def D8l:R2:=λx y H Q=>∃ z i c,x=.str z/\y=.int i/\z.length<=sizeLine/\atI z.cps.toList i=some c/\Q (.str ⟨#[c]⟩) H
theorem C6k:IxR X (D81 X.K):=by
 intro value slice pins s U H x y v u Q I rx ry h hs;obtain ⟨p,xs,i,z,rfl,rfl,hq,he,q⟩:=h;cases rx;obtain ⟨t,rfl⟩:=ry;obtain ⟨its,r,pl,hz⟩:=I.list hq;obtain ⟨j,h1,h2,h3,h4,h5⟩:=A8b he;obtain ⟨w,ew,rw'⟩:=r.get h2;have hl:=r.length;have hn:=A35;have fin:EP X pins U Q w s:=⟨z,H,I,rw',q⟩;by_cases h0:0<=i
 ·have hj:i.toNat=j:=by
   rw[seqIndex_of h0 h5] at h1;exact zp h1
  exact item_listR pl.isList h0 (by lia) (by rw[hj];simpa using ew) fin hs
 ·have hj:(i+(its.toArray.size:Int)).toNat=j:=by
   rw[seqIndex_neg (by lia) h4] at h1;rw[size_toArray,<-hl];exact zp h1
  exact subscriptTail_builtinR (x:=w) pl.isList.typeIs slot_list_getitem.lookup
   (wpAny_getItem_list_neg (Q:=λr s'=>r=w/\EP X pins U Q r s') pl.isList (by lia) (by rw[size_toArray]<;>lia) (by lia) (by rw[hj];simpa using ew) ⟨rfl,fin⟩) hs
theorem D3c:IxR X (D7r X.K):=by
 intro value slice pins s U H x y v u Q I rx ry h hs;obtain ⟨p,xs,i,z,rfl,rfl,hq,he,q⟩:=h;cases rx;obtain ⟨t,rfl⟩:=ry;obtain ⟨its,r,pl,hz⟩:=I.tuple hq;obtain ⟨j,h1,h2,h3,h4,h5⟩:=A8b he;obtain ⟨w,ew,rw'⟩:=r.get h2;have hl:=r.length;have hn:=A35;have fin:EP X pins U Q w s:=⟨z,H,I,rw',q⟩;exact subscriptTail_builtinR (x:=w) pl.typeIs slot_tuple_getitem.lookup
  (getItem_tuple (j:=j) (Q:=λr s'=>r=w/\EP X pins U Q r s') pl (by lia) (by lia) (by rw[size_toArray,<-hl];exact h1) (by simpa using ew) ⟨rfl,fin⟩) hs
theorem C27:IxR X D8l:=by
 intro value slice pins s U H x y v u Q I rx ry h hs;obtain ⟨z,i,c,rfl,rfl,hz,he,q⟩:=h;obtain ⟨t,rfl⟩:=rx;obtain ⟨t',rfl⟩:=ry;obtain ⟨j,h1,h2,h3,h4,h5⟩:=A8b he;have hl:z.cps.toList.length=z.length:=by simp[Str.length]
 rw[hl] at h1 h4 h5;have hn:=A35;exact tail_any (typeIs_str s z t) slot_str_getitem.lookup (getItem_str (c:=c) (by
  have e1:decide (i < -(2 ^ 63:Int))=false:=decide_eq_false (by lia);have e2:decide (i ≥ 2 ^ 63)=false:=decide_eq_false (by lia);rw[e1,e2,Bool.or_false]) (by rw[h1];simpa using h2) ⟨.str ⟨#[c]⟩,H,I.tok _,⟨_,rfl⟩,q⟩) hs
def rIx (K:W.Frag):R2:=λx y H Q=>D81 K x y H Q\/D7r K x y H Q\/D8l x y H Q
theorem D4f:IxR X (rIx X.K):=C6k.or (D3c.or C27)
theorem A9p (lo hi:Option Int) (n:Nat):(sliceBounds lo hi none n).1=((HT.sIx n 0 lo:Nat):Int)/\(sliceBounds lo hi none n).2.1=((HT.sIx n n hi:Nat):Int)/\(sliceBounds lo hi none n).2.2=1:=by
 refine ⟨?_,?_,rfl⟩
 ·cases lo with
  | none=>simp[sliceBounds,HT.sIx]
  | some i =>
   simp only[sliceBounds,HT.sIx,Option.getD_none,show (1:Int) > 0 by decide,if_true];by_cases h:i < 0
   ·simp only[h,if_true]<;>lia
   ·simp only[h,if_false]<;>lia
 ·cases hi with
  | none=>simp[sliceBounds,HT.sIx]
  | some i =>
   simp only[sliceBounds,HT.sIx,Option.getD_none,show (1:Int) > 0 by decide,if_true];by_cases h:i < 0
   ·simp only[h,if_true]<;>lia
   ·simp only[h,if_false]<;>lia
theorem A66 (its:List Value) (lo hi:Option Int):slicePick its.toArray lo hi none=((its.drop (HT.sIx its.length 0 lo)).take (HT.sIx its.length its.length hi - HT.sIx its.length 0 lo)).toArray:=by
 obtain ⟨h1,h2,h3⟩:=A9p lo hi its.toArray.size;unfold slicePick;rw[h1,h2,h3];simp only[sliceRange_one,pick_run,size_toArray]<;>rfl
def E1s (K:W.Frag):V->Option Int->Option Int->Hp->VK->Prop:=λx lo hi H Q=>∃ a xs,x=.ref a/\O5 K H a xs/\∀ p,H p=none->Q (.ref p) (upd H p (.lst (A67 xs lo hi)))
theorem C73:SlR X (E1s X.K):=by
 intro pins s U H x v vl vu lo hi sl Q I rx hs pl pu h;obtain ⟨a,xs,rfl,hx,q⟩:=h;cases rx;obtain ⟨its,r,ht,hz⟩:=I.list hx;have hlen:=r.length;refine ⟨"list",_,slot_list_getitem.lookup,ht.isList.typeIs,?_⟩;refine wpAny_getItem_list_slice ht.isList hs pl pu .none (by simp) ?_ (by rw[size_toArray]<;>lia);rw[A66,<-hlen];refine ⟨.ref s.heap.objs.size,_,I.laid (t':=s.toks) (o:=.lst (A67 xs lo hi)) (λb ob q=>qa _ q) (qp _) ?_,rfl,q _ (I.hok.fresh (qp _))⟩;exact ⟨zn (A39 xs lo hi) hz,_,0,(r.drop (HT.sIx xs.length 0 lo)).take (HT.sIx xs.length xs.length hi - HT.sIx xs.length 0 lo),ql _ rfl⟩
def A13:V->Bool
 | .non=>true
 | .bl _=>true
 | .int _=>true
 | .str _=>true
 | _=>false
def eqV:V->V->Bool
 | .non,.non=>true
 | .bl a,.bl b=>a==b
 | .bl a,.int b=>(if a then 1 else 0)==b
 | .int a,.bl b=>a==(if b then 1 else 0)
 | .int a,.int b=>a==b
 | .str a,.str b=>a==b
 | _,_=>false
theorem D2u {x:V} (ry:D0 y u) (rx:D0 x v) (fy:A13 y=true) (fx:A13 x=true):SeqAt.EqAt A s u v (eqV y x):=by
 cases y with
 | non =>
  cases ry;cases x with
  | non=>cases rx;exact SeqAt.EqAt.same _
  | bl b=>cases rx;exact SeqAt.EqAt.none_bool b
  | int b=>obtain ⟨t,rfl⟩:=rx;exact SeqAt.EqAt.none_int b t
  | str b=>obtain ⟨t,rfl⟩:=rx;exact SeqAt.EqAt.none_str b t
  | _=>exact absurd (show false=true from fx) qt
 | bl a =>
  cases ry;cases x with
  | non=>cases rx;exact SeqAt.EqAt.bool_none a
  | bl b=>cases rx;exact SeqAt.EqAt.bool_bool a b
  | int b=>obtain ⟨t,rfl⟩:=rx;exact SeqAt.EqAt.bool_int a b t
  | str b=>obtain ⟨t,rfl⟩:=rx;exact SeqAt.EqAt.bool_str a b t
  | _=>exact absurd (show false=true from fx) qt
 | int a =>
  obtain ⟨t',rfl⟩:=ry;cases x with
  | non=>cases rx;exact SeqAt.EqAt.int_none a t'
  | bl b=>cases rx;exact SeqAt.EqAt.int_bool a t' b
  | int b=>obtain ⟨t,rfl⟩:=rx;exact SeqAt.EqAt.int_int a t' b t
  | str b=>obtain ⟨t,rfl⟩:=rx;exact SeqAt.EqAt.int_str a t' b t
  | _=>exact absurd (show false=true from fx) qt
 | str a =>
  obtain ⟨t',rfl⟩:=ry;cases x with
  | non=>cases rx;exact SeqAt.EqAt.str_none a t'
  | bl b=>cases rx;exact SeqAt.EqAt.str_bool a t' b
  | int b=>obtain ⟨t,rfl⟩:=rx;exact SeqAt.EqAt.str_int a t' b t
  | str b=>obtain ⟨t,rfl⟩:=rx;exact SeqAt.EqAt.str_str a t' b t
  | _=>exact absurd (show false=true from fx) qt
 | _=>exact absurd (show false=true from fy) qt
def eqU (x:V) (u:Value):Bool:=match u with
 | .none=>eqV .non x
 | .bool b=>eqV (.bl b) x
 | .int i _=>eqV (.int i) x
 | .str z _=>eqV (.str z) x
 | _=>false
theorem C4c {x:V} (r:D0 y u) (f:A13 y=true):eqU x u=eqV y x:=by
 cases y with
 | non=>cases r;rfl
 | bl b=>cases r;rfl
 | int i=>obtain ⟨t,rfl⟩:=r;rfl
 | str z=>obtain ⟨t,rfl⟩:=r;rfl
 | _=>exact absurd (show false=true from f) qt
theorem A22 {x:V}:∀ {xs:List V} {us:List Value},C6 xs us->xs.all A13=true->us.any (eqU x)=xs.any λy=>eqV y x
 | _,_,.nil,_=>rfl
 | y::xs,u::us,.cons r t,f=>by
  rw[all_cons,zb] at f;rw[any_cons,any_cons,C4c r f.1,A22 t f.2]
theorem A0d {x:V} (rx:D0 x v) (fx:A13 x=true):∀ {xs:List V} {us:List Value},C6 xs us->xs.all A13=true->∀ u∈us,SeqAt.EqAt A s u v (eqU x u)
 | _,_,.nil,_=>λu hu=>by cases hu
 | y::xs,u::us,.cons r t,f=>λu' hu=>by
  rw[all_cons,zb] at f;rcases zk.mp hu with rfl|hu
  ·rw[C4c r f.1];exact D2u r rx f.1 fx
  ·exact A0d rx fx t f.2 u' hu
def inV (x:V) (xs:List V):Bool:=xs.any λy=>eqV y x
def rIn (K:W.Frag) (neg:Bool):R2:=λx y H Q=>∃ p xs,y=.ref p/\(O5 K H p xs\/V2 K H p xs)/\A13 x=true/\xs.all A13=true/\Q (.bl (if neg then !inV x xs else inV x xs)) H
theorem B7r:U1 X (compareOp .In) (rIn X.K false):=by
 intro pins s U H x y v u Q I rx ry h;obtain ⟨p,xs,rfl,hq,fx,fs,q⟩:=h;cases ry;rcases hq with hq|hq
 ·obtain ⟨its,r,pl,hz⟩:=I.list hq;refine SeqAt.in_listAt (eqU x) pl.isList (λw hw=>A0d rx fx r fs w (by simpa using hw)) ⟨.bl _,H,I,rfl,?_⟩;rw[show its.toArray.any (eqU x)=its.any (eqU x) by simp,A22 r fs];exact q
 ·obtain ⟨its,r,pl,hz⟩:=I.tuple hq;refine SeqAt.in_tupleAt (eqU x) pl (λw hw=>A0d rx fx r fs w (by simpa using hw)) ⟨.bl _,H,I,rfl,?_⟩;rw[show its.toArray.any (eqU x)=its.any (eqU x) by simp,A22 r fs];exact q
theorem A97:U1 X (compareOp .NotIn) (rIn X.K true):=by
 intro pins s U H x y v u Q I rx ry h;obtain ⟨p,xs,rfl,hq,fx,fs,q⟩:=h;cases ry;rcases hq with hq|hq
 ·obtain ⟨its,r,pl,hz⟩:=I.list hq;refine SeqAt.notIn_listAt (eqU x) pl.isList (λw hw=>A0d rx fx r fs w (by simpa using hw)) ⟨.bl _,H,I,rfl,?_⟩;rw[show its.toArray.any (eqU x)=its.any (eqU x) by simp,A22 r fs];exact q
 ·obtain ⟨its,r,pl,hz⟩:=I.tuple hq;refine SeqAt.notIn_tupleAt (eqU x) pl (λw hw=>A0d rx fx r fs w (by simpa using hw)) ⟨.bl _,H,I,rfl,?_⟩;rw[show its.toArray.any (eqU x)=its.any (eqU x) by simp,A22 r fs];exact q
theorem A87:J2 X (.builtin "len") (λxs H Q=>∃ p ys,xs=[.ref p]/\(O5 X.K H p ys\/V2 X.K H p ys)/\Q (.int ys.length) H):=by
 intro pins s U H xs us Q I r h;obtain ⟨p,ys,rfl,hq,q⟩:=h;obtain ⟨u,rfl,rx⟩:=U0 r;cases rx;have hn:=A35;rcases hq with hq|hq
 ·obtain ⟨its,r',pl,hz⟩:=I.list hq;have hlen:=r'.length;exact Calls.call_len_list pl.isList (by simp only[size_toArray]<;>lia) ⟨.int ys.length,H,I.tok _,⟨s.toks+1,by rw[size_toArray,hlen]⟩,q⟩
 ·obtain ⟨its,r',pl,hz⟩:=I.tuple hq;have hlen:=r'.length;exact len_tuple pl (by simp only[size_toArray]<;>lia) ⟨.int ys.length,H,I.tok _,⟨s.toks+1,by rw[size_toArray,hlen]⟩,q⟩
theorem A9g:J2 X (.builtin "len") (λxs H Q=>∃ z,xs=[.str z]/\z.length<=sizeLine/\Q (.int z.length) H):=by
 intro pins s U H xs us Q I r h;obtain ⟨z,rfl,hz,q⟩:=h;obtain ⟨u,rfl,t,rfl⟩:=U0 r;have hn:=A35;exact len_str (by lia) ⟨.int z.length,H,I.tok _,⟨_,rfl⟩,q⟩
theorem A83:J2 X (.type "list") (λxs H Q=>∃ p ys,xs=[.ref p]/\(O5 X.K H p ys\/V2 X.K H p ys)/\∀ l,H l=none->Q (.ref l) (upd H l (.lst ys))):=by
 intro pins s U H xs us Q I r h;obtain ⟨p,ys,rfl,hq,q⟩:=h;obtain ⟨u,rfl,rx⟩:=U0 r;cases rx;have fin:∀ (its:List Value),C6 ys its->ys.length<=sizeLine->∀ (h':Heap) (c':Nat),(∀ b o',s.heap.get? b=some o'->h'.get? b=some o') ->
   h'.get? s.heap.objs.size=some { cls:=.type "list",dict:=none,data:=.seq its.toArray c',slots:=#[] }->EP X pins U Q (.ref s.heap.objs.size) { s with heap:=h' }:=λits r' hz h' c' kp e =>
  ⟨.ref s.heap.objs.size,_,I.laid (t':=s.toks) kp (qp _) (show E5 X.prog X.w _ h' _ (.lst ys) from ⟨hz,its,c',r',e⟩),rfl,q _ (I.hok.fresh (qp _))⟩
 rcases hq with hq|hq
 ·obtain ⟨its,r',pl,hz⟩:=I.list hq;have hlen:=r'.length;obtain ⟨o,ho,hc,n,hd⟩:=pl.isList;exact call_list_seq p (.inl rfl) ho hc hd (λh' c' kp e=>fin its r' hz h' c' kp e) (by simp only[size_toArray]<;>lia)
 ·obtain ⟨its,r',pl,hz⟩:=I.tuple hq;have hlen:=r'.length;obtain ⟨o,ho,hc,n,hd⟩:=pl;exact call_list_seq p (.inr rfl) ho hc hd (λh' c' kp e=>fin its r' hz h' c' kp e) (by simp only[size_toArray]<;>lia)
def tyV (K:W.Frag) (T:String) (x:V) (H:Hp):Prop:=match x with
 | .str _=>T="str"
 | .int _=>T="int"
 | .ref p=>(T="list"/\∃ xs,O5 K H p xs)\/(T="tuple"/\∃ o,K.lookup p=some o/\o.cls=.type "tuple"/\o.dict=none) \/
   (T="dict"/\((∃ kvs,H p=some (.dK kvs))\/∃ kvs,H p=some (.dT kvs)))\/(T="set"/\∃ S n,H p=some (.set S n))
 | _=>False
theorem D0p {U:St} {T:String} {x:V} (I:B6 X pins U H s) (r:D0 x v) (ty:tyV X.K T x H) :
  s.TypeIs v T/\∀ a,v=.ref a->∃ ob,s.heap.get? a=some ob/\ob.dict=none:=by
 cases x with
 | str z =>
  obtain ⟨t,rfl⟩:=r;cases (show T="str" from ty);exact ⟨typeIs_str s z t,λ_ e=>nomatch e⟩
 | int i =>
  obtain ⟨t,rfl⟩:=r;cases (show T="int" from ty);exact ⟨typeIs_int s i t,λ_ e=>nomatch e⟩
 | ref p =>
  cases r;rcases ty with ⟨rfl,xs,hq⟩|⟨rfl,o,hk,hc,hd⟩|⟨rfl,hk⟩|⟨rfl,S,n,hk⟩
  ·obtain ⟨its,_,pl,_⟩:=I.list hq;refine ⟨pl.isList.typeIs,λa e=>?_⟩;cases e;obtain ⟨o,n,e,c,hd,_⟩:=pl;exact ⟨o,e,hd⟩
  ·refine ⟨⟨o,I.kIn p o hk,hc⟩,λa e=>?_⟩;cases e;exact ⟨o,I.kIn _ o hk,hd⟩
  ·have z:∃ o,s.heap.get? p=some o/\o.ExactDict:=by
    rcases hk with ⟨kvs,hk⟩|⟨kvs,hk⟩
    ·obtain ⟨_,_,_,_,o,_,_,e,ex,_⟩:=I.hok p _ hk;exact ⟨o,e,ex⟩
    ·obtain ⟨_,_,_,_,o,_,_,e,ex,_⟩:=I.hok p _ hk;exact ⟨o,e,ex⟩
   obtain ⟨o,e,ex⟩:=z;refine ⟨⟨o,e,ex.1⟩,λa e2=>?_⟩;cases e2;exact ⟨o,e,ex.2.1⟩
  ·obtain ⟨o,_,_,_,e,ex,_⟩:=I.hok p _ hk;refine ⟨⟨o,e,ex.1⟩,λa e2=>?_⟩;cases e2;exact ⟨o,e,ex.2.1⟩
 | _=>exact False.elim ty
def tBM (K:W.Frag) (T:String) (r:V->List V->Hp->VK->Prop) (to:TE) (t:TA):TE:=λU H Q=>to U H λx H1=>tyV K T x H1/\t U H1 λxs H2=>r x xs H2 Q
variable {o e:Expr} {es:List Expr} {to:TE} {t:TA} {name:Str} {apos cpos:Pos} {T id:String} {r:V->List V->Hp->VK->Prop}
theorem D03 (pa:PlainAttrs T) (slot:Slot T name id) (hty:typeOf (.builtin id)=pure (.type "method_descriptor")) (hm:MtR X id r) (ho:PE X o to) (ha:PA X (e::es) t)
  (hbase:attributeBase o name X.env (eval o X.env)=eval o X.env:=by rfl)
  (hfew:((backTo cpos (starEach (e::es) X.env)).all (λx=>!x.1)&&(backToKw cpos (keywordEach [] X.env)).all (λx=>x.1.isSome)
   && decide ((e::es).length+([]:List Keyword).length+(if ([]:List Keyword).isEmpty then 0 else 1) < 30))=true:=by rfl)
  (hline:(apos.endLine==cpos.line)=true:=by rfl) (hs:stE e es X.env:=by rfl) (hplain:stB cpos es X.env:=by rfl) :
  PE X (.Call (.Attribute o name apos) (e::es) [] cpos) (tBM X.K T r to t):=by
 intro pins s U H Q I h;refine wpAny_Call_method_late hbase hfew hline rfl (E1 (ho pins s U H _ I h) λv s1 ⟨x,H1,I1,r1,ty,q1⟩=>?_);obtain ⟨h1,h2⟩:=D0p I1 r1 ty;refine ⟨T,id,pa,slot,hty,h1,h2,?_⟩;have hA:=ha cpos pins s1 U H1 _ I1 q1;rw[hs] at hA ⊢;refine Calls.callWith_builtin (by show (false||(backTo cpos (starEach es X.env)).any (·.1))=false;rw[hplain]<;>rfl) (Calls.evalArgs_plain ?_);exact E1 hA λus s2 ⟨vs,H2,I2,r2,q2⟩=>hm pins s2 U H2 x vs v us Q I2 r1 r2 q2
/- xs.append(e),list.index on a module's tuple .. are MtR facts of 06m -/
end
def MtM (X:Cx) (id:String) (r:V->List V->Hp->VK->Prop):Prop :=
 ∀ (pins:List (Addr × Obj)) (s:Shared) (U:St) (H:Hp) (x:V) (xs:List V) (v:Value) (us:List Value) (Q:VK),B6 X pins U H s->D0 x v->C6 xs us->r x xs H Q ->
  wpAny (model X.prog X.w) X.A (call (.builtin id) (v::us)) (EP X pins U Q) X.xe s
theorem C6.one {x:V} {us:List Value} (h:C6 [x] us):∃ u,us=[u]/\D0 x u:=by
 cases h with
 | cons r q=>cases q;exact ⟨_,rfl,r⟩
section
variable {X:Cx} {pins:List (Addr × Obj)} {U:St} {H:Hp} {s:Shared} {l:Addr} {xs ys:List V}
theorem B6.lset {its':List Value} {f:Array Value->Array Value} (I:B6 X pins U H s) (hH:H l=some (.lst xs))
  (e:s.heap.get? l=some {cls:=.type "list",data:=.seq its.toArray n }) (hf:f its.toArray=its'.toArray) (hv:C6 ys its') (hz:ys.length<=sizeLine) :
  B6 X pins U (upd H l (.lst ys)) { s with heap:=s.heap.update l (Obj.mapSeq f),toks:=t' }:=by
 have q:=PySem.IsL.update e f;rw[hf] at q;refine I.write (x:=l) (e:=l) (by rw[hH];exact trivial) (.inl rfl) (λb' u hb hu=>(zt s.heap (Obj.mapSeq f) (Ne.symm hb)).trans hu) ⟨_,q⟩ ?_;exact ⟨hz,its',_,hv,q⟩
theorem B6.lnew (I:B6 X pins U H s) (hv:C6 ys its) (hz:ys.length<=sizeLine) :
  B6 X pins U (upd H s.heap.objs.size (.lst ys)) { s with heap:=s.heap.push { cls:=.type "list",data:=.seq its.toArray },toks:=t' } :=
 I.laid (λ_ _ q=>qa _ q) (qp _) ⟨hz,its,0,hv,ql _ rfl⟩
theorem B6.fresh (I:B6 X pins U H s):H s.heap.objs.size=none:=I.hok.fresh (qp _)
theorem B6.lstM (I:B6 X pins U H s) (hH:H l=some (.lst xs)):xs.length<=sizeLine/\∃ (its:List Value) (n:Nat),C6 xs its/\xs.length=its.length/\s.heap.get? l=some { cls:=.type "list",data:=.seq its.toArray n }:=by
 obtain ⟨z,its,n,r,e⟩:=I.hok l _ hH;exact ⟨z,its,n,r,r.length,e⟩
theorem C1j (h:n<=sizeLine):Builtin.List.listTooLong n=false:=by
 unfold Builtin.List.listTooLong;exact decide_eq_false (by lia)
end
section
variable {X:Cx}
def A3u:V->List V->Hp->VK->Prop:=λx vs H Q=>∃ l xs y,x=.ref l/\vs=[y]/\H l=some (.lst xs)/\xs.length < sizeLine/\Q .non (upd H l (.lst (xs++[y])))
theorem A6r:MtM X "list.append" A3u:=by
 intro pins s U H x vs v us Q I rx rv h;obtain ⟨l,xs,y,rfl,rfl,hH,hz,q⟩:=h;cases rx;obtain ⟨u,rfl,ru⟩:=rv.one;obtain ⟨z,its,n,r,hl,e⟩:=I.lstM hH;refine call_meets F.slot_list_append ⟨_,e,rfl⟩ F.entry_list_append (F.args_list_append_2 _ _) (PySem.list_append l its.toArray n u (by rw[size_toArray];lia)) ⟨e,?_⟩;refine ⟨.non,_,I.lset (its':=its++[u]) hH e (by simp) (r.append (.cons ru .nil)) ?_,rfl,q⟩;rw[length_append,List.length_singleton];lia
def C4u:V->List V->Hp->VK->Prop:=λx vs H Q=>∃ l b xs zs,x=.ref l/\vs=[.ref b]/\H l=some (.lst xs)/\H b=some (.lst zs)/\xs.length+zs.length<=sizeLine/\Q .non (upd H l (.lst (xs++zs)))
theorem D5w:MtM X "list.extend" C4u:=by
 intro pins s U H x vs v us Q I rx rv h;obtain ⟨l,b,xs,zs,rfl,rfl,hH,hB,hz,q⟩:=h;cases rx;obtain ⟨u,rfl,ru⟩:=rv.one;cases ru;obtain ⟨z,its,n,r,hl,e⟩:=I.lstM hH;obtain ⟨z2,its2,n2,r2,hl2,e2⟩:=I.lstM hB;have hsz:its.toArray.size+its2.toArray.size<=sizeLine:=by rw[size_toArray,size_toArray];lia
 have hlong:¬ (!its.toArray.isEmpty&&Builtin.List.listTooLong (its.toArray.size+its2.toArray.size))=true:=by
  rw[C1j hsz,Bool.and_false];exact qt
 refine call_meets F.slot_list_extend ⟨_,e,rfl⟩ F.entry_list_extend (F.args_list_extend_2 _ _)
  (AutoSeq1.list_extend_list_list_0 l its.toArray n b its2.toArray n2 hlong (by rw[size_toArray];lia) (by lia)) ⟨e,e2,?_⟩
 refine ⟨.non,_,I.lset (its':=its++its2) hH e (by simp) (r.append r2) ?_,rfl,q⟩;rw[length_append];lia
def D9z:R2:=λx y H Q=>∃ l b xs zs,x=.ref l/\y=.ref b/\H l=some (.lst xs)/\H b=some (.lst zs)/\xs.length+zs.length<=sizeLine/\∀ p,H p=none->Q (.ref p) (upd H p (.lst (xs++zs)))
theorem D2p:U1 X (binaryOp .Add) D9z:=by
 intro pins s U H x y v u Q I rx ry h;obtain ⟨l,b,xs,zs,rfl,rfl,hH,hB,hz,q⟩:=h;cases rx;cases ry;obtain ⟨z,its,n,r,hl,e⟩:=I.lstM hH;obtain ⟨z2,its2,n2,r2,hl2,e2⟩:=I.lstM hB;refine PySem.P.add_list e e2 ?_ (by rw[size_toArray,size_toArray];lia);have ea:its.toArray++its2.toArray=(its++its2).toArray:=by simp
 rw[ea];exact ⟨.ref _,_,I.lnew (t':=s.toks) (r.append r2) (by rw[length_append];lia),rfl,q _ I.fresh⟩
end
end L2
namespace Att
open PySem PySem.W PySem.Calls PyProof.Rows
variable {h:Heap} {l:OpenLaw} {n:Nat}
theorem A3i {P:Params} :∀ (ns:List Int) (vs:List Value),WellAll P h vs (ns.map WData.int)->IntsAre vs ns:=by
 intro ns
 induction ns with
 | nil =>
  intro vs w;rw[List.map_nil] at w;cases w;exact .nil
 | cons n ns ih =>
  intro vs w;rw[map_cons] at w;cases w with
  | cons a b =>
   cases a;exact .cons _ _ (ih _ b)
theorem B8e (hn:l.most=some n) {P:Params} {args:List WData} {vals:List Value}
  (hpre:l.row.toRowW.claim.pre args=true) (hwl:WellAll P h vals args) :
  ∃ a vs ns,vals=[Value.ref a]/\args=[WData.list (ns.map WData.int)]/\h.get? a=some { cls:=.type "list",data:=.seq vs.toArray }/\IntsAre vs ns/\ns.length<=n:=by
 have hsh:WShape.hasAll [] args [.list .int]=true:=(pre_splitW hpre).1;have hc:l.pre.holds [] { args:=args }=true:=(pre_splitW hpre).2;obtain ⟨d,r,rfl,h1,h2⟩:=hasAllW_cons hsh;obtain rfl:=hasAllW_nil h2;obtain ⟨xs,rfl,h3⟩:=hasW_list h1;obtain ⟨ns,rfl⟩:=items_int h3;have hlen:ns.length<=n:=by
  unfold OpenLaw.pre at hc;have h4:(WTm.not (.lt (.lit (.int (n:Int))) (.len (.arg 0)))).holds [] { args:=[.list (ns.map .int)] }=true:=by
   have h4:=(holds_andW hc).1;rw[hn] at h4;exact h4
  have h5:=condW_of h4 (w_not (w_lt w_lit (w_len_list (w_arg rfl))));rw[qf] at h5;refine Nat.le_of_not_lt λq=>?_;have q':(n:Int) < ((ns.length:Nat):Int):=by lia
  first
   | (rw[decide_eq_true q'] at h5;exact absurd h5 (by decide))
   | (simp at h5;lia)
 cases hwl with
 | cons w1 w2 =>
  cases w2;cases w1 with
  | list ho hall=>exact ⟨_,_,ns,rfl,rfl,ho,A3i ns _ hall,hlen⟩
theorem B7j (l:OpenLaw) (args:List WData):l.row.toRowW.claim.post args (.bool true) args=true :=
 postW_of (r:=l.row.toRowW) (X:=(true==true))
  (show WShape.has [] (.bool true) .bool=true by first|rfl|decide|simp[WShape.has,WShape.arms,WShape.armsAll])
  (show (WTm.eq .res (.lit (.bool true))).value [] { args:=args,res:=some (.bool true),after:=args }=some (.bool (true==true)) from w_eq_bool (w_res rfl) w_lit) rfl
theorem attach_call {q:Program} {d:DefRec}
  (hn:l.most=some n) (hdf:d.params.defaults=[])
  (call:∀ (w:World) (s₀ s₁:Shared) (mg mb:Str->Option Value) (fa:Addr) (o:Obj) (pm cd doc:Value) (a:Addr) (vs:List Value) (ns:List Int),
   Ground q loose [] XP w s₀ mg mb s₁.heap->YP w s₁.heap ->
   s₁.heap.get? fa=some o->o.data=.func (docDef d.name d.params d.body d.scope pm cd doc)->s₁.heap.CodeRec cd d.name->mg d.name=some (.ref fa) ->
   s₁.heap.get? a=some {cls:=.type "list",data:=.seq vs.toArray }->IntsAre vs ns->ns.length<=n->s₁.gens=#[] ->
   codeAny (model l.prog w) callerA (.call (.ref fa) ⟨[.ref a],[]⟩) (λr s'=>r=.ok (.ret (.bool true))/\OldK s₁.heap s'.heap/\s'.os=s₁.os/\AllBare s'.gens) s₁) :
  WalkO q loose XP YP l.row.toRowW d [] (λf vs=>PySem.call f vs):=by
 intro w s₀ s₁ mg mb G Y fa o pm cd doc dV kV ho hd hcd hD hmg hg args vals as hpre hlay hrd hwl hlo;obtain rfl:dV=.none:=Dflts.none hD hdf;obtain rfl:kV=.none:=Dflts.noKw hD;obtain ⟨a,vs,ns,rfl,rfl,hobj,hints,hlen⟩:=B8e hn hpre hwl;refine enter_call (codeAny_mono (call w s₀ s₁ mg mb fa o pm cd doc a vs ns G Y ho (fd_plain hd) hcd hmg hobj hints hlen hg) λr s' hq=>?_);obtain ⟨rfl,h2,h3,h4⟩:=hq;exact ⟨.inl ⟨.bool true,.bool true,[],rfl,λ_=>rfl,.bool true,B7j l _,λ_=>⟨List.Pairwise.nil,λ_ hm=>(nomatch hm)⟩⟩,h2,h3,h4⟩
end Att
namespace L2
theorem A7a:∀ {vs:List Value} {ns:List Int},IntsAre vs ns->C6 (ns.map V.int) vs
 | _,_,.nil=>.nil
 | _,_,.cons n t h=>.cons ⟨t,rfl⟩ (A7a h)
def D5b (H:Hp):Prop:=∀ b,H b=none\/∃ o xs,H b=some (.frz o (.lst xs))
variable {w:World} {fd:FuncData} {K:W.Frag} {X:Cx} {qual:Str} {ps:List Str} {pos:Pos} {u:Value} {y v:V} {o:Option V} {kvs:List (List C1 × V)} {xs:List (List C1 × Addr × Value)} {Q:Value->Shared->Prop} {s:Shared}
theorem B9m {mg mb:Str->Option Value} {CX:CXT} {k:Nat} {a:Addr} {x:Str} {s₁:Shared} {vs:List Value} {ns:List Int}
  (KX:K.In s₁.heap) (hns:s₁.heap.Ns mainGlobals mg) (hb:s₁.heap.Ns builtinsNs mb) (hbb:∀ x:Str,x≠"__name__"->mb x=bootBuiltins x) (hlim:s₁.heap.NoLimit) (hse:s₁.heap.NoSeer) (hg:s₁.gens=#[])
  (ha:s₁.heap.get? a=some {cls:=.type "list",data:=.seq vs.toArray }) (hi:IntsAre vs ns) (hl:ns.length<=sizeLine) (hr:O3 k callerA)
  (F:∀ base:Heap,K.In base->base.Ns mainGlobals mg->I0 P w K mg base CX k fa fd [x] sp) (hbind:∀ (s:Shared) (u:Value),BindsTo s fd ⟨[u],[]⟩ [(x,u)])
  (hsp:∀ H:Hp,D5b H->O5 K H a (ns.map V.int)->sp [.ref a] H (λv _=>v=.bl true) λ_ _ _=>False)
  (hCX:∀ H e s',CX [] H s₁ (λ_ _ _=>False) e s'->False) :
  codeAny (model P w) callerA (.call (.ref fa) ⟨[.ref a],[]⟩) (λr s'=>r=.ok (.ret (.bool true))/\OldK s₁.heap s'.heap/\s'.os=s₁.os/\AllBare s'.gens) s₁:=by
 have rv:=A7a hi;have lenV:=hi.length;have core:∀ H:Hp,D5b H->O5 K H a (ns.map V.int)->HOk P w H s₁.heap->(∀ b,H b≠none->b=a)->(H a≠none->K.lookup a=none) ->
   codeAny (model P w) callerA (.call (.ref fa) ⟨[.ref a],[]⟩) (λr s'=>r=.ok (.ret (.bool true))/\OldK s₁.heap s'.heap/\s'.os=s₁.os/\AllBare s'.gens) s₁:=by
  intro H hO hS hok hA hK;have base_of:∀ {b:Addr} {o:Obj},s₁.heap.get? b=some o->H b=none->(A6b s₁.heap H).get? b=some o:=λe n=>C04 e n;have noA:∀ {b:Addr} {o:Obj} {es:Array DictEntry} {ep:Nat},s₁.heap.get? b=some o->o.data=.dict es ep->H b=none:=λ{b o es ep} e d=>by
   cases q:H b with
   | none=>rfl
   | some u =>
    have e':b=a:=hA b (by rw[q];simp);subst e';rw[ha] at e;cases e;have d':Data.seq vs.toArray _=Data.dict es ep:=d;cases d'
  have nsK:∀ {b:Addr} {m:Str->Option Value},s₁.heap.Ns b m->(A6b s₁.heap H).Ns b m:=λ{b m} ⟨o,es,ep,e,d,r⟩=>⟨o,es,ep,base_of e (noA e d),d,r⟩;have hKb:K.In (A6b s₁.heap H):=λb o e=>base_of (KX b o e) (by
   cases q:H b with
   | none=>rfl
   | some u =>
    have e':b=a:=hA b (by rw[q];simp);subst e';rw[hK (by rw[q];simp)] at e;cases e)
  have seK:(A6b s₁.heap H).NoSeer:=⟨let ⟨mc,h1,h2⟩:=hse.statics;⟨mc,nsK h1,h2⟩,let ⟨mm,h1,h2⟩:=hse.mods;⟨mm,nsK h1,h2⟩,let ⟨mx,h1,h2⟩:=hse.imp;⟨mx,nsK h1,h2⟩,by
   obtain ⟨mx,bm,ob,h1,h2,h3,h4,h5⟩:=hse.main;refine ⟨mx,bm,ob,nsK h1,h2,base_of h3 ?_,h4,h5⟩;cases q:H bm with
   | none=>rfl
   | some u =>
    have e':bm=a:=hA bm (by rw[q];simp);subst e';rw[ha] at h3;cases h3;exact absurd (show (Value.type "list")=.type "module" from h4) (by decide)⟩
  have hM:Mod K mg (A6b s₁.heap H):=⟨hKb,nsK hns,⟨mb,nsK hb,hbb⟩,let ⟨mc,h1,h2⟩:=hlim;⟨mc,nsK h1,h2⟩,seK⟩;have e0:B0l P w K mg (A6b s₁.heap H) callerA [] s₁ H:=⟨rfl,hM,λb o e=>C88 e,Nat.le_of_eq (B79 _ _),trivial,λb hb=>absurd (show b∈([]:List Addr) from hb) (by simp),hok,.of_eq hg⟩;refine codeAny_mono ((F _ hKb (nsK hns)).run callerA [] s₁ H ⟨[.ref a],[]⟩ [.ref a] [.ref a] _ _ hr e0 (hbind s₁ (.ref a)) (.cons rfl .nil) (hsp H hO hS)) λr s' h=>?_;cases r with
  | error e=>exact (hCX H e s' h).elim
  | ok fl =>
   cases fl with
   | next=>exact False.elim h
   | brk=>exact False.elim h
   | cont=>exact False.elim h
   | ret u =>
    obtain ⟨v,H',os,bare,un,hok',r',q⟩:=h;have q':v=.bl true:=q;subst q';obtain rfl:u=Value.bool true:=r';refine ⟨rfl,OldK.of_keep λb o e=>?_,os,bare⟩;cases q:H b with
    | none=>exact un.keep b o e q (by intro z;exact absurd (show b∈([]:List Addr) from z) (by simp)) (by simp)
    | some u =>
     rcases hO b with z|⟨ob,xs,z⟩
     ·rw[q] at z;cases z
     ·have z2:=un.frzs b ob _ z;obtain ⟨e1,_⟩:=hok b _ z;obtain ⟨e2,_⟩:=hok' b _ z2;rw[e] at e1;cases e1;exact e2
 cases hk:K.lookup a with
 | some o =>
  have e:=KX a o hk;rw[ha] at e;cases e;refine core (λ_=>none) (λ_=>.inl rfl) (.inr ⟨_,vs.toArray,_,hk,rfl,rfl,rfl,by rw[size_toArray,lenV];exact hl,by simpa using rv⟩) (λb u z=>by have z':(none:Option HO)=some u:=z;cases z') (λb z=>absurd rfl z) λz=>absurd rfl z
 | none =>
  refine core (λb=>if b=a then some (.frz { cls:=.type "list",data:=.seq vs.toArray } (.lst (ns.map V.int))) else none) (λb=>?_) (.inl (.inr ⟨{ cls:=.type "list",data:=.seq vs.toArray },qm rfl⟩)) (λb u z=>?_) (λb z=>?_) λ_=>hk
  ·by_cases hb:b=a
   ·exact .inr ⟨_,_,qm hb⟩
   ·exact .inl (qo hb)
  ·by_cases hb:b=a
   ·have z':=(qm hb).symm.trans z;cases z';subst hb;exact ⟨ha,by rw[qf];exact hl,vs,_,rv,ha⟩
   ·have z':=(qo hb).symm.trans z;cases z'
  ·by_cases hb:b=a
   ·exact hb
   ·exact absurd (qo hb) z
theorem C8i {l:W.OpenLaw} {n k:Nat} {q:Program} {d:DefRec} {K:Params->W.Frag} {CX:World->CXT} {sp:World->Sp} {x:Str}
  (hn:l.most=some n) (hn2:n<=sizeLine) (hdf:d.params.defaults=[]) (hr:O3 k callerA) (hi:importsNone q=true)
  (hY:∀ (w:World) (h:Heap),YP w h->(K w.params).In h)
  (F:∀ (w:World) (mg:Str->Option Value) (fa:Addr) (h:Heap),(K w.params).In h->h.Ns mainGlobals mg->mg d.name=some (.ref fa) ->
   ∃ fd:FuncData,(∀ (s:Shared) (u:Value),BindsTo s fd ⟨[u],[]⟩ [(x,u)]) /\
    ∀ base:Heap,(K w.params).In base->base.Ns mainGlobals mg->I0 l.prog w (K w.params) mg base (CX w) k fa fd [x] (sp w))
  (hsp:∀ (w:World) (H:Hp) (a:Addr) (ns:List Int),ns.length<=n->D5b H->O5 (K w.params) H a (ns.map V.int)->sp w [.ref a] H (λv _=>v=.bl true) λ_ _ _=>False)
  (hCX:∀ (w:World) (H:Hp) (s:Shared) (e:Value) (s':Shared),CX w [] H s (λ_ _ _=>False) e s'->False) :
  W.WalkO q loose XP YP l.row.toRowW d [] (λf vs=>PySem.call f vs):=by
 refine Att.attach_call hn hdf λw s₀ s₁ mg mb fa o pm cd doc a vs ns G Y ho hd hcd hmg hobj hints hlen hg=>?_;have KX:=hY w _ Y;obtain ⟨fd,hb,hF⟩:=F w mg fa _ KX G.T.g hmg;exact B9m KX G.T.g G.T.b G.T.builtins G.T.nolimit (G.T.seer hi) hg hobj hints (zn hlen hn2) hr hF hb (λH hO hS=>hsp w H a ns hlen hO hS) λH e s'=>hCX w H s₁ e s'
def X4 (s:Stmt):Arguments:=match s with
 | .FunctionDef _ a _ _ _ _ _ _ _ _=>a
 | _=>{ posonlyargs:=[],args:=[],vararg:=none,kwonlyargs:=[],kw_defaults:=[],kwarg:=none,defaults:=[] }
def M8 (s:Stmt):List Stmt:=match s with
 | .FunctionDef _ _ b _ _ _ _ _ _ _=>b
 | _=>[]
def B1 (s:Stmt):Scope:=match s with
 | .FunctionDef _ _ _ _ _ _ sc _ _ _=>sc
 | _=>{ kind:=.function,names:=[],isGenerator:=false,isCoroutine:=false }
abbrev Z2:CXT:=λ_ _ _ _ _ _=>False
abbrev E0:XK:=λ_ _ _=>False
theorem D6t:A1r Z2 X E0:=λ_ _ _ _ _ _ _ h=>h.elim
structure W2 (K:W.Frag) (x qual:Str) (st:Stmt) (f:Addr) (fd:FuncData):Prop where
 ex:∃ (oc:Value) (od:Option Addr) (kV doc pm:Value) (an:Option Addr) (cdv ct:Value) (osl:Array (Option Value)),
  fd=W.fnOf x qual (X4 st) (M8 st) (B1 st) .none kV doc pm an cdv ct/\K.lookup f=some ⟨oc,od,.func fd,osl⟩/\W.codeIn K cdv qual=true
 kp:W.keepIn K (.ref f)=true
section
variable {P:Program} {w:World} {K:W.Frag} {mg:Str->Option Value} {base:Heap}
theorem W2.ok {x:Str} {st:Stmt} {f:Addr} {N:List Str} {k:Nat} (F:W2 K x qual st f fd) (S:C0 N ps (B1 st)) (len:∀ vs H Q E,sp vs H Q E->vs.length=ps.length)
  (hbody:∀ (cdv:Value) (A:Around) (outer:List Env) (s:Shared) (H:Hp) (vs:List V) (Q:VK) (E:XK),O3 k (A.deeper (envOfC qual (B1 st) s.heap.objs.size f cdv))->sp vs H Q E ->
   ∃ t,PSs (Z5 Z2 P w K mg base N qual (B1 st) f cdv A outer s H E).nox (M8 st) t/\t {nx:=λ_ H'=>Q .non H',rt:=Q } (start N vs) H):I0 P w K mg base Z2 (k+1) f fd ps sp:=by
 obtain ⟨oc,od,kV,doc,pm,an,cdv,ct,osl,rfl,lk,hcd⟩:=F.ex;refine C9s lk hcd S len λA outer s H vs Q E hr hsp=>?_;obtain ⟨t,h,q⟩:=hbody cdv A outer s H vs Q E hr hsp;exact ⟨t,h.nox,q⟩
theorem W2.binds {x:Str} {st:Stmt} {f:Addr} (F:W2 K x qual st f fd)
  (h:∀ (kV doc pm:Value) (an:Option Addr) (cdv ct:Value) (us:List Value),us.length=ps.length->bindArgs (W.fnOf x qual (X4 st) (M8 st) (B1 st) .none kV doc pm an cdv ct) ⟨us,[]⟩=pure (ps.zip us)):A3b K fd ps []:=by
 obtain ⟨oc,od,kV,doc,pm,an,cdv,ct,osl,rfl,lk,hcd⟩:=F.ex;exact .all (h kV doc pm an cdv ct)
theorem C1o {x:Str} {st:Stmt} {f:Addr} {an:Option Addr} {kV pm ct:Value} (l:K.lookup f=some ⟨oc,od,.func (W.fnOf x qual (X4 st) (M8 st) (B1 st) .none kV doc pm an cdv ct),osl⟩)
  (c:W.codeIn K cdv qual=true) (k:W.keepIn K (.ref f)=true):W2 K x qual st f (W.fnOf x qual (X4 st) (M8 st) (B1 st) .none kV doc pm an cdv ct):=⟨⟨oc,od,kV,doc,pm,an,cdv,ct,osl,rfl,l,c⟩,k⟩
end
section
variable {X:Cx}
theorem pv (i:Nat) {x:Str} (hN:X.N[i]?=some x:=by rfl) (hv:Vis X.env.scope x:=by first|exact Or.inl rfl|exact Or.inr (Or.inl rfl)|exact Or.inr (Or.inr rfl)) (hd:noD x:=by decide)
  (hcd:(x==("__classdict__":Str))=false:=by decide):PE X (.Name x pos) (Z1 i):=D10 hN hv hd hcd
end
theorem B6k {c A:Prop} [Decidable c] (h1:c->A) (h2:¬ c->B):if c then A else B:=by
 by_cases h:c
 ·rw[qm h];exact h1 h
 ·rw[qo h];exact h2 h
def A9 (H H':Hp):Prop:=∀ b o,H b=some o->H' b=some o
theorem A9.refl (H:Hp):A9 H H:=λ_ _ h=>h
theorem A9.trans (a:A9 H H1) (b:A9 H1 H2):A9 H H2:=λc o h=>b c o (a c o h)
theorem A9.free (e:A9 H H') {l:Addr} (h:H' l=Option.none):H l=Option.none:=by
 cases q:H l with
 | none=>rfl
 | some o =>
  rw[e l o q] at h;cases h
theorem A9.seq {a:Addr} {xs:List V} (e:A9 H H') (h:O5 K H a xs):O5 K H' a xs:=by
 rcases h with (h|⟨o,h⟩)|h
 ·exact .inl (.inl (e _ _ h))
 ·exact .inl (.inr ⟨o,e _ _ h⟩)
 ·exact .inr h
section
variable {κ:Type} [DecidableEq κ]
def O4 (kvs:List (κ × V)) (k:κ):Option V:=(kvs.find? λkv=>decide (kv.1=k)).map (·.2)
def S4 (kvs:List (κ × V)) (k:κ) (v:V):List (κ × V) :=
 if (kvs.any λkv=>decide (kv.1=k))=true then kvs.map (λkv=>if kv.1=k then (kv.1,v) else kv) else kvs++[(k,v)]
theorem A5g {p:κ × V} {r:List (κ × V)} {k:κ} (e:p.1=k):O4 (p::r) k=some p.2:=by simp[O4,List.find?_cons,e]
theorem A5e {p:κ × V} {r:List (κ × V)} {k:κ} (e:¬ p.1=k):O4 (p::r) k=O4 r k:=by simp[O4,List.find?_cons,e]
theorem A5q (k:κ):∀ kvs:List (κ × V),(kvs.any λkv=>decide (kv.1=k))=(O4 kvs k).isSome
 | []=>rfl
 | p::r=>by
  rw[any_cons];by_cases e:p.1=k
  ·simp only[A5g e,decide_eq_true e,Bool.true_or,Option.isSome_some]
  ·rw[A5e e,decide_eq_false e,Bool.false_or];exact A5q k r
theorem A00 (kvs:List (κ × V)) (k:κ) (v:V):(S4 kvs k v).length<=kvs.length+1:=by
 unfold S4;split
 ·rw[qf];lia
 ·rw[length_append,length_cons,List.length_nil];lia
theorem B10 {kvs:List (κ × V)} {k:κ} (v:V) (h:O4 kvs k=none):S4 kvs k v=kvs++[(k,v)]:=by
 unfold S4;rw[A5q,h];exact qo (by decide)
theorem A5k.isSome_eq {u:Option Value} (r:A5k o u):o.isSome=u.isSome:=by
 cases o with
 | none=>cases u with
  | none=>rfl
  | some _=>exact (show False from r).elim
 | some _=>cases u with
  | none=>exact (show False from r).elim
  | some _=>rfl
theorem KV.val {kvs:List (κ × V)} {vs:List (κ × Value)} (r:KV kvs vs) (k:κ):A5k (O4 kvs k) (valueAt vs k):=by
 unfold KV at r
 induction r with
 | nil=>exact True.intro
 | @cons p q ps qs h t ih =>
  obtain ⟨h1,h2⟩:=h;by_cases e:p.1=k
  ·have e':q.1=k:=h1.symm.trans e;have b:valueAt (q::qs) k=some q.2:=by simp[valueAt,List.find?_cons,e']
   rw[A5g e,b];exact h2
  ·have e':¬ q.1=k:=λz=>e (h1.trans z);have b:valueAt (q::qs) k=valueAt qs k:=by simp[valueAt,List.find?_cons,e']
   rw[A5e e,b];exact ih
theorem KV.any {kvs:List (κ × V)} {vs:List (κ × Value)} (r:KV kvs vs) (k:κ):(kvs.any λkv=>decide (kv.1=k))=vs.any λkv=>decide (kv.1=k):=by
 unfold KV at r
 induction r with
 | nil=>rfl
 | cons h t ih=>rw[any_cons,any_cons,ih,h.1]
theorem KV.repl {kvs:List (κ × V)} {vs:List (κ × Value)} (r:KV kvs vs) (k:κ) (ry:D0 y u) :
  KV (kvs.map λkv=>if kv.1=k then (kv.1,y) else kv) (vs.map λkv=>if kv.1=k then (kv.1,u) else kv):=by
 unfold KV at r ⊢
 induction r with
 | nil=>exact .nil
 | @cons p q ps qs h t ih =>
  rw[map_cons,map_cons];refine .cons ?_ ih;obtain ⟨h1,h2⟩:=h;by_cases e:p.1=k
  ·rw[qm e,qm (h1.symm.trans e)];exact ⟨h1,ry⟩
  ·rw[qo e,qo (λz=>e (h1.trans z))];exact ⟨h1,h2⟩
theorem KV.put {kvs:List (κ × V)} {vs:List (κ × Value)} (r:KV kvs vs) (k:κ) (ry:D0 y u):KV (S4 kvs k y) (stored vs k u):=by
 unfold S4 stored;rw[r.any k];by_cases e:(vs.any λkv=>decide (kv.1=k))=true
 ·rw[qm e,qm e];exact r.repl k ry
 ·rw[qo e,qo e];exact Paired.snoc r ⟨rfl,ry⟩
theorem KV.length {kvs:List (κ × V)} {vs:List (κ × Value)} (r:KV kvs vs):kvs.length=vs.length:=Paired.length r
end
theorem A77 {k:C1} (r:D0 (kV k) u):(J4 P w).is k u=true:=by
 cases k with
 | inl i=>obtain ⟨t,e⟩:=(show ∃ t,u=Value.int i t from r);subst e;exact B28 P w i t
 | inr x=>obtain ⟨t,e⟩:=(show ∃ t,u=Value.str x t from r);subst e;exact B0m P w x t
theorem A79:∀ {ks:List C1} {us:List Value},C6 (ks.map kV) us->ItemsAre (J4 P w) ks us
 | [],_,r=>by rw[List.map_nil] at r;cases r;exact .nil
 | k::ks,_,r=>by
  rw[map_cons] at r;cases r with
  | cons h t=>exact .cons (A77 h) (A79 t)
abbrev KT (H:Hp):List (List C1 × V)->List (List C1 × Addr × Value)->Prop:=Paired λp q=>p.1=q.1/\H q.2.1=some (.tup (p.1.map kV))/\D0 p.2 q.2.2
theorem KT.val (r:KT H kvs xs) (k:List C1):A5k (O4 kvs k) ((atKey xs k).map (·.2)):=by
 induction r with
 | nil=>exact True.intro
 | @cons p q ps qs h t ih =>
  obtain ⟨h1,_,h2⟩:=h;by_cases e:p.1=k
  ·have e':q.1=k:=h1.symm.trans e;have b:atKey (q::qs) k=some q.2:=by simp[atKey,List.find?_cons,e']
   rw[A5g e,b];exact h2
  ·have e':¬ q.1=k:=λz=>e (h1.trans z);have b:atKey (q::qs) k=atKey qs k:=by simp[atKey,List.find?_cons,e']
   rw[A5e e,b];exact ih
theorem KT.repl (r:KT H kvs xs) (k:List C1) (ry:D0 y u) :
  KT H (kvs.map λkv=>if kv.1=k then (kv.1,y) else kv) (xs.map (putAt k u)):=by
 induction r with
 | nil=>exact .nil
 | @cons p q ps qs h t ih =>
  rw[map_cons,map_cons];refine .cons ?_ ih;obtain ⟨h1,h2,h3⟩:=h;unfold putAt;by_cases e:p.1=k
  ·rw[qm e,qm (h1.symm.trans e)];exact ⟨h1,h2,ry⟩
  ·rw[qo e,qo (λz=>e (h1.trans z))];exact ⟨h1,h2,h3⟩
theorem KT.put (r:KT H kvs xs) (k:List C1) {b:Addr} (hb:H b=some (.tup (k.map kV))) (ry:D0 y u) :
  KT H (S4 kvs k y) (storedH xs k b u):=by
 have e:(kvs.any λkv=>decide (kv.1=k))=(atKey xs k).isSome:=by
  rw[A5q,(r.val k).isSome_eq,Option.isSome_map]
 unfold S4 storedH;rw[e];by_cases q:(atKey xs k).isSome=true
 ·rw[qm q,qm q];exact r.repl k ry
 ·rw[qo q,qo q];exact Paired.snoc r ⟨rfl,hb,ry⟩
theorem KT.keeps (r:KT H kvs xs) (ht:∀ b ys,H b=some (.tup ys)->H' b=some (.tup ys)):KT H' kvs xs :=
 Paired.mapP r λ_ _ z=>⟨z.1,ht _ _ z.2.1,z.2.2⟩
section
variable {P:Program} {w:World} {H:Hp} {h:Heap} {a:Addr}
theorem C3n {u:HO} (ok:HOk P w H h) (e:Rd H a u):E5 P w H h a u:=e.ok ok
theorem A5a {kvs:List (C1 × V)} (ok:HOk P w H h) (e:Rd H a (.dK kvs)):kvs.length<=sizeLine/\(a==sysModules)=false/\∃ vs,KV kvs vs/\h.DictOf (J4 P w) a vs :=
 show E5 P w H h a (.dK kvs) from C3n ok e
theorem C1g {kvs:List (C1 × V)} (ok:HOk P w H h) (e:H a=some (.dK kvs)):kvs.length<=sizeLine/\(a==sysModules)=false/\∃ vs,KV kvs vs/\h.DictOf (J4 P w) a vs:=A5a ok (.inl e)
theorem A4k {ks:List C1} (ok:HOk P w H h) (e:H a=some (.tup (ks.map kV))):(tupleKind (J4 P w)).is h ks a:=by
 obtain ⟨_,its,r,o,h1,h2,n,h3⟩:=(show E5 P w H h a (.tup (ks.map kV)) from ok a _ e);exact ⟨o,its.toArray,n,h1,h2,h3,by simpa using A79 r⟩
theorem B1j (ok:HOk P w H h) (e:Rd H a (.dT kvs)):kvs.length<=sizeLine/\(a==sysModules)=false /\
  ∃ xs,KT H kvs xs/\h.DictOfH (tupleKind (J4 P w)) a xs:=by
 obtain ⟨z,y,xs,r,o,es,ep,h1,h2,h3,h4,h5⟩:=(show E5 P w H h a (.dT kvs) from C3n ok e);refine ⟨z,y,xs,r,o,es,ep,h1,h2,h3,h4,λx hx=>?_,h5⟩;have all:∀ {l:List (List C1 × V)} {m:List (List C1 × Addr × Value)},KT H l m->∀ x∈m,(tupleKind (J4 P w)).is h x.1 x.2.1:=by
  intro l m q
  induction q with
  | nil=>intro x hx;exact nomatch hx
  | @cons p q ps qs hq t ih =>
   intro x hx;rcases zk.mp hx with e|hx
   ·subst e;exact A4k ok (by rw[<-hq.1];exact hq.2.1)
   ·exact ih x hx
 exact all r x hx
theorem B9a (ok:HOk P w H h) (e:H a=some (.dT kvs)):kvs.length<=sizeLine/\(a==sysModules)=false /\
  ∃ xs,KT H kvs xs/\h.DictOfH (tupleKind (J4 P w)) a xs:=B1j ok (.inl e)
end
def Y6 (H:Hp) (a:Addr) (y:V) (r:Option V):Prop :=
 (∃ kvs k,Rd H a (.dK kvs)/\y=kV k/\r=O4 kvs k)\/∃ kvs k b,Rd H a (.dT kvs)/\y=.ref b/\H b=some (.tup (k.map kV))/\r=O4 kvs k
def A9a (H:Hp) (a:Addr) (y v:V) (H':Hp):Prop :=
 (∃ kvs k,H a=some (.dK kvs)/\y=kV k/\kvs.length < sizeLine/\H'=upd H a (.dK (S4 kvs k v))) \/
 ∃ kvs k b,H a=some (.dT kvs)/\y=.ref b/\H b=some (.tup (k.map kV))/\kvs.length < sizeLine/\H'=upd H a (.dT (S4 kvs k v))
theorem Y6.k {a:Addr} {kvs:List (C1 × V)} {k:C1} (e:H a=some (.dK kvs)):Y6 H a (kV k) (O4 kvs k):=.inl ⟨kvs,k,.inl e,rfl,rfl⟩
theorem Y6.t {a b:Addr} {k:List C1} (e:H a=some (.dT kvs)) (eb:H b=some (.tup (k.map kV))):Y6 H a (.ref b) (O4 kvs k):=.inr ⟨kvs,k,b,.inl e,rfl,eb,rfl⟩
theorem A9a.k {a:Addr} {kvs:List (C1 × V)} {k:C1} (e:H a=some (.dK kvs)) (hl:kvs.length < sizeLine):A9a H a (kV k) v (upd H a (.dK (S4 kvs k v))):=.inl ⟨kvs,k,e,rfl,hl,rfl⟩
theorem A9a.t {a b:Addr} {k:List C1} (e:H a=some (.dT kvs)) (eb:H b=some (.tup (k.map kV))) (hl:kvs.length < sizeLine) :
  A9a H a (.ref b) v (upd H a (.dT (S4 kvs k v))):=.inr ⟨kvs,k,b,e,rfl,eb,hl,rfl⟩
section
variable {X:Cx} {pins:List (Addr × Obj)} {U:St} {H:Hp} {s:Shared} {a:Addr} {y v:V} {u r:Value} {o:Option V} {A:Around} {E:Value->Shared->Prop}
theorem B6.big (I:B6 X pins U H s):sysModules < s.heap.objs.size:=by
 have h:mainGlobals < s.heap.objs.size:=(I.mod.glob.keeps I.bk).lt;exact Nat.lt_trans (by decide) h
theorem B8g (hu:A.units+1 < cLine) (I:B6 X pins U H s) (g:Y6 H a y (some v)) (ry:D0 y u) (h:∀ w' s',B6 X pins U H s'->D0 v w'->Q w' s') :
  wpAny (model X.prog X.w) A (getItem (.ref a) u) Q E s:=by
 rcases g with ⟨kvs,k,e,ey,l⟩|⟨kvs,k,b,e,ey,eb,l⟩
 ·subst ey;obtain ⟨z,hd,vs,rel,dd⟩:=A5a I.hok e;obtain ⟨w',hw,rw'⟩:=A5k.some_of (v:=v) (o:=valueAt vs k) (by rw[l];exact rel.val k);exact wpAny_getItem_of (A77 ry) dd.mapOf hw (h w' _ (I.tok _) rw')
 ·subst ey;cases (show u=Value.ref b from ry);obtain ⟨z,hd,xs,rel,dd⟩:=B1j I.hok e;obtain ⟨w',hw,rw'⟩:=A5k.some_of (v:=v) (o:=(atKey xs k).map (·.2)) (by rw[l];exact rel.val k);obtain ⟨p,hp,hp2⟩:=Option.map_eq_some_iff.mp hw;refine wpAny_getItem_heap (tupleKind_room_in1 hu) (A4k I.hok eb) dd hp ?_;rw[hp2];exact h w' _ (I.tok _) rw'
theorem E21 (hu:A.units+1 < cLine) (I:B6 X pins U H s) (g:Y6 H a y o) (ry:D0 y u) (h:∀ s',B6 X pins U H s'->Q (.bool o.isSome) s') :
  wpAny (model X.prog X.w) A (compareOp .In u (.ref a)) Q E s:=by
 rcases g with ⟨kvs,k,e,ey,l⟩|⟨kvs,k,b,e,ey,eb,l⟩
 ·subst ey;obtain ⟨z,hd,vs,rel,dd⟩:=A5a I.hok e;refine wpAny_in_of (A77 ry) hd dd.mapOf ?_;rw[<-(rel.val k).isSome_eq,<-l];exact h _ (I.tok _)
 ·subst ey;cases (show u=Value.ref b from ry);obtain ⟨z,hd,xs,rel,dd⟩:=B1j I.hok e;refine wpAny_in_heap (tupleKind_room_in1 hu) (A4k I.hok eb) hd dd ?_;have q:=(rel.val k).isSome_eq;rw[Option.isSome_map] at q;rw[<-q,<-l];exact h _ (I.tok _)
theorem C4z (hu:A.units+1 < cLine) (I:B6 X pins U H s) (g:Y6 H a y o) (ry:D0 y u) (h:∀ s',B6 X pins U H s'->Q (.bool (!o.isSome)) s') :
  wpAny (model X.prog X.w) A (compareOp .NotIn u (.ref a)) Q E s:=by
 rcases g with ⟨kvs,k,e,ey,l⟩|⟨kvs,k,b,e,ey,eb,l⟩
 ·subst ey;obtain ⟨z,hd,vs,rel,dd⟩:=A5a I.hok e;refine wpAny_notIn_of (A77 ry) hd dd.mapOf ?_;rw[<-(rel.val k).isSome_eq,<-l];exact h _ (I.tok _)
 ·subst ey;cases (show u=Value.ref b from ry);obtain ⟨z,hd,xs,rel,dd⟩:=B1j I.hok e;refine wpAny_notIn_heap (tupleKind_room_in1 hu) (A4k I.hok eb) hd dd ?_;have q:=(rel.val k).isSome_eq;rw[Option.isSome_map] at q;rw[<-q,<-l];exact h _ (I.tok _)
theorem A7u {ob:HO} (I:B6 X pins U H s) (mu:Mut (H a)) (hs:Heap.SameBut a s.heap h') (he:∃ q,h'.get? a=some q) (new:E5 X.prog X.w (upd H a ob) h' a ob) :
  B6 X pins U (upd H a ob) { s with heap:=h',toks:=t' } :=
 I.write (x:=a) (e:=a) mu (.inl rfl) (λb q hb z=>(hs.2 b hb).trans z) he new
theorem C0y {kvs:List (C1 × V)} {vs:List (C1 × Value)} (z:kvs.length<=sizeLine) (hd:(a==sysModules)=false) (rel:KV kvs vs) (dd:h'.DictOf (J4 P w) a vs) :
  E5 P w H' h' a (.dK kvs):=⟨z,hd,vs,rel,dd⟩
theorem B8t {Q:Unit->Shared->Prop} (hu:A.units+1 < cLine) (I:B6 X pins U H s) (g:A9a H a y v H') (ry:D0 y u) (rv:D0 v r) (h:∀ s',B6 X pins U H' s'->Q () s') :
  wpAny (model X.prog X.w) A (setItem (.ref a) u r) Q E s:=by
 rcases g with ⟨kvs,k,e,ey,l,eH⟩|⟨kvs,k,b,e,ey,eb,l,eH⟩
 ·subst ey eH;obtain ⟨z,hd,vs,rel,dd⟩:=C1g I.hok e;have hz:vs.length<=sizeLine:=by rw[<-rel.length];exact z
  have hl:(S4 kvs k v).length<=sizeLine:=by have:=A00 kvs k v;lia
  refine wpAny_setItem_pairs (hsz:=hz) (A77 ry) dd λh' dd' hs=>h _ ?_;have he:∃ q,h'.get? a=some q:=let ⟨q,_,_,hq,_⟩:=dd';⟨q,hq⟩
  exact A7u I (by rw[e];exact True.intro) hs he (C0y hl hd (rel.put k rv) dd')
 ·subst ey eH;cases (show u=Value.ref b from ry);obtain ⟨z,hd,xs,rel,dd⟩:=B9a I.hok e;have hz:xs.length<=sizeLine:=by rw[<-Paired.length rel];exact z
  have hl:(S4 kvs k v).length<=sizeLine:=by have:=A00 kvs k v;lia
  refine wpAny_setItem_heap (hsz:=hz) (tupleKind_room_in1 hu) (A4k I.hok eb) dd λh' dd' hs=>h _ ?_;obtain ⟨q,es,ep,hq,h2,h3,h4,_,h5⟩:=dd';refine A7u I (by rw[e];exact True.intro) hs ⟨q,hq⟩ ⟨hl,hd,_,(rel.put k eb rv).keeps λc ys ec=>?_,q,es,ep,hq,h2,h3,h4,h5⟩;rw[B5 (B20 ec e (λz=>nomatch z))];exact ec
end
section
variable {X:Cx} {pins:List (Addr × Obj)} {U:St} {H:Hp} {s:Shared} {a:Addr} {kvs:List (C1 × V)} {A:Around} {E:Value->Shared->Prop}
theorem D8v (I:B6 X pins U H s) (e:Rd H a (.dK kvs)) (h:∀ t s',B6 X pins U H s'->Q (.int kvs.length t) s'):wpAny (model X.prog X.w) A (call (.builtin "len") [.ref a]) Q E s:=by
 obtain ⟨z,hd,vs,rel,dd⟩:=A5a I.hok e;refine call_len_dict hd dd (by rw[<-rel.length];rw[sizeLine_eq] at z;lia) ?_;rw[<-rel.length];exact h _ _ (I.tok _)
end
def B7m (i:Expr):Prop:=∀ ov iv,subscripted i false ov iv=operate [ov,iv] (getItem ov iv)
theorem C8s {prog:Program} {A:Around} {env:Env} {slice:Expr} {T id:String} 
  (hl:typeLookup (.type T) "__getitem__"=pure (some (.builtin id))) (hs:B7m slice)
  (h:wpAny (model prog w) A (eval value env) (λo s₁=>wpAny (model prog w) A (eval slice env) (λi s₂=>s₂.TypeIs o T/\wpAny (model prog w) A (getItem o i) Q E s₂) E s₁) E s) :
  wpAny (model prog w) A (eval (.Subscript value slice pos) env) Q E s:=by
 refine Subscript_ (jc h (λo s₁ h₁=>jc h₁ (λi s₂ h₂=>?_) λ_ _ x=>x) λ_ _ x=>x);obtain ⟨hT,h₂⟩:=h₂;unfold subscriptTail;refine qb ?_;rw[getitemInPython_of_ne hT.not_modules];refine qb (wpAny_specialOf hT hl ?_);have fin:wpAny (model prog w) A (subscripted slice false o i) (λr s₃=>wpAny (model prog w) A (letTemporaryGo value o r >>= λ_=>pure r) Q E s₃) E s₂:=by
  rw[hs o i];exact wpAny_operating (jc h₂ (λr s₃ h₃=>qb (wpAny_letTemporaryGo (qc h₃))) λ_ _ x=>x)
 first
  | exact qc (qb fin)
  | exact qb (qc (qb fin))
  | exact qb fin
theorem B0t {U:St} {a:Addr} (I:B6 X pins U H s) (g:Y6 H a y o):s.TypeIs (.ref a) "dict":=by
 rcases g with ⟨kvs,k,e,_,_⟩|⟨kvs,k,b,e,_,_,_⟩
 ·obtain ⟨_,_,vs,_,dd⟩:=A5a I.hok e;exact dd.typeIs
 ·obtain ⟨_,_,xs,_,dd⟩:=B1j I.hok e;exact dd.typeIs
def D08 (td ty:TE):TE:=λU H Q=>td U H λx H1=>ty U H1 λy H2=>∃ a v,x=.ref a/\Y6 H2 a y (some v)/\Q v H2
def C4e (ty td:TE):TE:=λU H Q=>ty U H λy H1=>td U H1 λx H2=>∃ a o,x=.ref a/\Y6 H2 a y o/\Q (.bl o.isSome) H2
def A4b (ty td:TE):TE:=λU H Q=>ty U H λy H1=>td U H1 λx H2=>∃ a o,x=.ref a/\Y6 H2 a y o/\Q (.bl (!o.isSome)) H2
def B64 (td ty tv:TE):TS:=λD U H=>tv U H λv H1=>td U H1 λx H2=>ty U H2 λy H3=>∃ a H4,x=.ref a/\A9a H3 a y v H4/\D.nx U H4
section
variable {X:Cx} {o i value:Expr} {pos pos':Pos} {td ty tv:TE}
theorem C79 (hu:X.A.units+1 < cLine) (ho:PE X o td) (hi:PE X i ty) (hs:B7m i):PE X (.Subscript o i pos) (D08 td ty):=by
 intro pins s U H Q I h;refine C8s PySem.F.slot_dict_getitem.lookup hs (E1 (ho pins s U H _ I h) λu s1 ⟨x,H1,I1,rx,q1⟩=>E1 (hi pins s1 U H1 _ I1 q1) λiv s2 ⟨y,H2,I2,ry,a,v,ex,g,q2⟩=>?_);subst ex;obtain rfl:u=Value.ref a:=rx;exact ⟨B0t I2 g,B8g hu I2 g ry λw' s3 I3 rw'=>⟨v,H2,I3,rw',q2⟩⟩
theorem C0m (hu:X.A.units+1 < cLine) (hi:PE X i ty) (ho:PE X o td):PC X .In i o (C4e ty td):=by
 intro pins s U H Q I h;refine E1 (hi pins s U H _ I h) λiv s1 ⟨y,H1,I1,ry,q1⟩=>E1 (ho pins s1 U H1 _ I1 q1) λu s2 ⟨x,H2,I2,rx,a,ov,ex,g,q2⟩=>?_;subst ex;obtain rfl:u=Value.ref a:=rx;exact E21 hu I2 g ry λs3 I3=>⟨.bl ov.isSome,H2,I3,rfl,q2⟩
theorem B81 (hu:X.A.units+1 < cLine) (hi:PE X i ty) (ho:PE X o td):PC X .NotIn i o (A4b ty td):=by
 intro pins s U H Q I h;refine E1 (hi pins s U H _ I h) λiv s1 ⟨y,H1,I1,ry,q1⟩=>E1 (ho pins s1 U H1 _ I1 q1) λu s2 ⟨x,H2,I2,rx,a,ov,ex,g,q2⟩=>?_;subst ex;obtain rfl:u=Value.ref a:=rx;exact C4z hu I2 g ry λs3 I3=>⟨.bl (!ov.isSome),H2,I3,rfl,q2⟩
theorem C6h (hu:X.A.units+1 < cLine) (ho:PE X o td) (hi:PE X i ty) (hv:PE X value tv) (hs:swapsWith value (some (.Subscript o i pos')) pos.line X.env=pure false) :
  PS X (.Assign [.Subscript o i pos'] value pos) (B64 td ty tv):=by
 intro pins s U H D I h;refine wpAny_Assign_Subscript (E1 (hv pins s U H _ I h) λr s1 ⟨v,H1,I1,rv,q1⟩=>E1 (ho pins s1 U H1 _ I1 q1) λu s2 ⟨x,H2,I2,rx,q2⟩=>E1 (hi pins s2 U H2 _ I2 q2) λiv s3 ⟨y,H3,I3,ry,a,H4,ex,g,q3⟩=>?_) hs;subst ex;obtain rfl:u=Value.ref a:=rx;exact B8t hu I3 g ry rv λs4 I4=>⟨U,H4,I4,q3⟩
end
theorem A2c (h:Heap) (hb:sysModules < h.objs.size):E5 P w H (h.push { cls:=.type "dict",data:=.dict #[] }) h.objs.size (.dK []) :=
 ⟨zz _,beq_eq_false_iff_ne.mpr (Ne.symm (ze hb)),[],.nil,Heap.DictOf.new h⟩
def C2s:TE:=λ_ H Q=>∀ p,H p=none->Q (.ref p) (upd H p (.dK []))
section
variable {X:Cx} {pos:Pos}
theorem C3w:PE X (.Dict [] [] pos) C2s:=λpins s U H Q I h =>
 wpAny_Dict_empty ⟨.ref s.heap.objs.size,_,I.laid (a:=s.heap.objs.size) (o:=.dK []) (t':=s.toks) (λ_ _ q=>qa _ q) (qp _) (A2c s.heap I.big),rfl,h _ (I.hok.fresh (qp _))⟩
end
end L2
set_option maxHeartbeats 4000000
namespace L2
def PTs (Y:Cx) (ifs:List Expr) (t:TT):Prop :=
 ∀ (pins:List (Addr × Obj)) (s:Shared) (U:St) (H:Hp) (Q:Bool->Hp->Prop),B6 Y pins U H s->t U H Q ->
  wpAny (model Y.prog Y.w) Y.A (forIn ifs true λc r=>if r=true then do let ok <- isTrue c Y.env (eval c Y.env);pure (ForInStep.yield ok) else pure (ForInStep.yield r)) (TP Y pins U Q) Y.xe s
theorem C6s {Y:Cx}:PTs Y [] (λ_ H Q=>Q true H):=by
 intro pins s U H Q I h;rw[List.forIn_nil];exact qc ⟨H,I,h⟩
theorem C5k {Y:Cx} {c:Expr} {t:TT} (hc:PT Y c t):PTs Y [c] t:=by
 intro pins s U H Q I h;rw[List.forIn_cons];refine qb ?_;rw[qm rfl];refine qb (E1 (hc pins s U H Q I h) λb s1 q=>qc ?_);show wpAny _ _ (forIn [] b _) _ _ _;rw[List.forIn_nil];exact qc q
def LcW (prog:Program) (w:World) (A:Around) (elt:Expr) (gens:List Comprehension) (scope:Scope) (pos:Pos) (d:Nat) (acc:Value) (env:Env) (Q:Shared->Prop) (s:Shared):Prop :=
 match gens[d+1]? with
 | some g'=>(g'.is_async=0/\∀ x,foldedSetIterable g'.iter env x=pure x)/\wpAny (model prog w) A (eval g'.iter env) (λx s4=>wpAny (model prog w) A (pyIter x) (λitv s5 =>
   codeAny (model prog w) A (.compStart (.ListComp elt gens scope pos) (d+1) itv acc env) (λr s6=>r=.ok .next/\Q s6) s5) (λ_ _=>False) s4) (λ_ _=>False) s
 | none=>wpAny (model prog w) A (eval elt env) (λx s4=>wpAny (model prog w) A (call (.builtin "list.append") [acc,x]) (λ_ s5=>Q s5) (λ_ _=>False) s4) (λ_ _=>False) s
variable {it:Value} {s:Shared} {A:Around} {M:Model} {y:Str} {w:World} {ps N:List Str} {to:TE} {o:HO} {K:W.Frag} {Q:Option Value->Shared->Prop} {mg:Str->Option Value} {C:Addr} {kvs:List (C1 × V)}
section
variable {prog:Program} {w:World} {A:Around} {R:Result->Shared->Prop} {s:Shared}
variable {gens:List Comprehension} {scope:Scope} {acc:Value} {elt:Expr} {pos:Pos} {env:Env} {d:Nat}
theorem A85 (hg:gens[d]?=some ⟨target,iter,ifs,0⟩) (I:Nat->Shared->Prop)
  (turn:∀ n s,I n s->wpAny (model prog w) A (pyNext it) (λr s₁=>match r with
   | none=>R (.ok .next) s₁
   | some v=>wpAny (model prog w) A (letOwnedTupleGo target it v) (λ_ s₁'=>wpAny (model prog w) A (assign target env v) (λ_ s₂ =>
     wpAny (model prog w) A (forIn ifs true λc r=>if r=true then do let ok <- isTrue c env (eval c env);pure (ForInStep.yield ok) else pure (ForInStep.yield r)) (λok s₃ =>
      if ok=true then LcW prog w A elt gens scope pos d acc env (λs₅=>∃ m,m < n/\I m s₅) s₃
      else ∃ m,m < n/\I m s₃) (λ_ _=>False) s₂) (λ_ _=>False) s₁') (λ_ _=>False) s₁) (λ_ _=>False) s)
  (n:Nat) (h:I n s) :
  codeAny (model prog w) A (.compLoop (.ListComp elt gens scope pos) d it acc env) R s:=by
 refine codeAny_loop rfl I (λn s hI=>?_) n h;show wpAny _ A ((compTurn (.ListComp elt gens scope pos) d it acc env).onRaise (λx=>do noteFrame x env;theTreesLotGoes x)) _ _ s;refine wpAny_noted (wpAny_noRaise ?_);unfold compTurn;dsimp only;rw[hg];dsimp only;refine qb (wpAny_standAt (qb (E1 (turn n s hI) (λr s₁ h₁=>?_))));cases r with
 | none=>exact qc h₁
 | some v =>
  refine qb (E1 h₁ λ_ s₁' h₁=>qb (E1 h₁ λ_ s₂ h₂=>qb (E1 h₂ λok s₃ h₃=>?_)));cases ok with
  | false=>exact qc ⟨rfl,h₃⟩
  | true =>
   rw[qm rfl] at h₃ ⊢;unfold LcW at h₃;cases e:gens[d+1]? with
   | none =>
    rw[e] at h₃;exact qb (qb (E1 h₃ λx s₄ h₄=>qb (E1 h₄ λ_ s₅ h₅=>qc (qc ⟨rfl,h₅⟩))))
   | some g' =>
    rw[e] at h₃;dsimp only at h₃ ⊢;obtain ⟨⟨ha,hf⟩,h₃⟩:=h₃;refine qb (E1 h₃ λx s₄ h₄=>qb (wpAny_standAt ?_));rw[ha,qo (by decide)];refine qb (wpAny_of_eq (hf x) (qb (wpAny_holding ?_)));rw[qo (by decide)];refine E1 h₄ λitv s₅ h₅=>qb (wpAny_runOwn (codeAny_mono h₅ λr s₆ ⟨hr,q⟩=>?_));subst hr;exact qc ⟨rfl,q⟩
theorem U7 (hg:gens[d]?=some ⟨target,iter,ifs,0⟩)
  (h0:codeAny (model prog w) A (.compLoop (.ListComp elt gens scope pos) d it acc env) R s)
  (h:wpAny (model prog w) A (pyIter it) (λit' s'=>codeAny (model prog w) A (.compLoop (.ListComp elt gens scope pos) d it' acc env) R s') (λ_ _=>False) s) :
  codeAny (model prog w) A (.compStart (.ListComp elt gens scope pos) d it acc env) R s:=by
 refine codeAny_of_tree ?_;show wpAny _ _ ((compStart (.ListComp elt gens scope pos) d it acc env).onRaise (λx=>do noteFrame x env;standAt theWindowsPlace)) _ _ s;refine wpAny_notedAt (wpAny_noRaise ?_);unfold compStart;have hc:clausesOf (.ListComp elt gens scope pos)=gens:=rfl;rw[hc,hg];show wpAny _ _ (ask >>= _) _ _ s;refine qb (wpAny_askSetting (wpAny_ite ?_));split
 ·first
   | exact qb (qc (qc (And.intro rfl h0)))
   | exact qc (And.intro rfl h0)
 ·first
   | exact qb (wpAny_rule (qb (wpAny_standAt (qb (jc h (λit' s' h'=>qc (And.intro rfl h')) λ_ _ x=>x)))))
   | (refine qb (wpAny_rule ?_);show wpAny _ _ (standAt iter.pos >>= _) _ _ s;exact qb (wpAny_standAt (qb (jc h (λit' s' h'=>qc (And.intro rfl h')) λ_ _ x=>x))))
end
def A4z (J:It) (g:TG) (tb:TS):TS:=λD U H=>∃ W:Nat->Nat->St->Hp->Prop,(∃ m,W 0 m U H)/\∀ i m U H,W i m U H ->
 (J.stop i H/\D.nx U H)\/(J.go i H/\∃ N:St->Hp->Prop,(∀ U' H',N U' H'->∃ m',m' < m/\W (i+1) m' U' H')/\∀ x H',J.yld i H x H'->g x U H' λσ2 H2=>tb { D with nx:=N,ct:=N,bk:=D.nx } σ2 H2)
def A4n (ti:TT) (tb:TS):TS:=λD U H=>ti U H λb H1=>if b=true then tb D U H1 else D.nx U H1
def PB (Y:Cx) (elt:Expr) (gens:List Comprehension) (scope:Scope) (pos:Pos) (d:Nat) (acc:Addr) (tb:TS):Prop :=
 ∀ (pins:List (Addr × Obj)) (s:Shared) (U:St) (H:Hp) (D:V7),B6 Y pins U H s->tb D U H->LcW Y.prog Y.w Y.A elt gens scope pos d (.ref acc) Y.env (λs'=>∃ U' H',B6 Y pins U' H' s'/\D.nx U' H') s
section
variable {Y:Cx} {elt:Expr} {gens:List Comprehension} {scope:Scope} {pos:Pos} {d:Nat} {acc:Addr}
def B0k (acc:Addr) (te:TE):TS:=λD U H=>te U H λv H1=>∃ xs,H1 acc=some (.lst xs)/\xs.length < sizeLine/\D.nx U (upd H1 acc (.lst (xs++[v])))
theorem C5j {te:TE} (hg:gens[d+1]?=none) (hx:Y.xe=λ_ _=>False) (he:PE Y elt te):PB Y elt gens scope pos d acc (B0k acc te):=by
 intro pins s U H D I h;unfold LcW;rw[hg];dsimp only;have he':=he pins s U H _ I h;rw[hx] at he';refine E1 he' λu s1 ⟨v,H1,I1,r1,xs,e,hl,q⟩=>?_;have a2:=A6r pins s1 U H1 (.ref acc) [v] (.ref acc) [u] (λ_ H2=>D.nx U H2) I1 rfl (.cons r1 .nil) ⟨acc,xs,v,rfl,rfl,e,hl,q⟩;rw[hx] at a2;exact E1 a2 λ_ s2 ⟨_,H2,I2,_,q2⟩=>⟨U,H2,I2,q2⟩
variable {tg:Expr} {tb:TS}
theorem A7o {U:St} {D:V7} {it:Addr} 
  (hgd:gens[d]?=some ⟨tg,iter,ifs,0⟩) (hx:Y.xe=λ_ _=>False) (hc:Y.calm=true) (hg:PG Y tg g) (ht:PTs Y ifs ti) (hb:PB Y elt gens scope pos d acc tb)
  (I:B6 Y pins U H s) (T:B1l Y.prog Y.w Y.K tg J fp it tn) (st:tn 0 s.heap) (f2:∀ b∈fp,V5 Y pins H b) (h:A4z J g (A4n ti tb) D U H) :
  codeAny (model Y.prog Y.w) Y.A (.compLoop (.ListComp elt gens scope pos) d (.ref it) (.ref acc) Y.env) (λr s'=>r=.ok .next/\∃ U' H',B6 Y pins U' H' s'/\D.nx U' H') s:=by
 obtain ⟨W,⟨m0,w0⟩,turn⟩:=h;have stat:∀ {H':Hp},(∀ b∈fp,H' b=none)->∀ b∈fp,V5 Y pins H' b:=λhn b hb=>⟨hn b hb,(f2 b hb).2⟩;refine A85 hgd (λn s'=>∃ i U' H',B6 Y pins U' H' s'/\tn i s'.heap/\(∀ b∈fp,H' b=none)/\W i n U' H') ?_ m0 ⟨0,U,H,I,st,λb hb=>(f2 b hb).1,w0⟩;rintro n s3 ⟨i,σ3,H3,I3,st3,fr3,w3⟩;rcases turn i n σ3 H3 w3 with ⟨stop,qn⟩|⟨go,N,hN,step⟩
 ·refine E1 (T.done Y rfl rfl rfl hc i pins s3 σ3 H3 _ I3 (stat fr3) st3 stop) λr s4 ⟨hr,I4⟩=>?_;subst hr;exact ⟨rfl,σ3,H3,I4,qn⟩
 ·refine E1 (T.item Y rfl rfl rfl hc i pins s3 σ3 H3 _ I3 (stat fr3) st3 go) λr s4 ⟨u,hr,h4⟩=>?_;subst hr;refine E1 h4 λ_ s5 ⟨x,H5,I5,r5,y5,st5,fr5⟩=>?_;have I5':=I5.pinned (stat fr5) (T.obj _ _ st5);have a1:=hg _ s5 σ3 H5 x u _ I5' r5 (step x H5 y5);rw[hx] at a1;refine E1 a1 λ_ s6 ⟨σ6,H6,I6,q6⟩=>?_;have a2:=ht _ s6 σ6 H6 _ I6 q6;rw[hx] at a2;refine E1 a2 λok s7 ⟨H7,I7,q7⟩=>?_;have again:∀ {s8:Shared} {σ7:St} {H7:Hp},B6 Y (pins++A5r fp s5.heap) σ7 H7 s8->N σ7 H7->∃ m,m < n/\∃ i U' H',B6 Y pins U' H' s8/\tn i s8.heap/\(∀ b∈fp,H' b=none)/\W i m U' H':=λ{s8 σ7 H7} I7 n7=>by
   obtain ⟨m',hm,w7⟩:=hN σ7 H7 n7;refine ⟨m',hm,i+1,σ7,H7,I7.unpinned,T.keep _ _ _ st5 λb hb o e=>(I7.pin (b,o) (qw _ (qw _ (L8 hb e)))).1,λb hb=>?_,w7⟩;obtain ⟨o,e,d⟩:=T.obj _ _ st5 b hb;exact (I7.pin (b,o) (qw _ (qw _ (L8 hb e)))).2.1
  cases ok with
  | false =>
   rw[qo qt] at q7 ⊢;exact again I7 q7
  | true =>
   rw[qm rfl] at q7 ⊢;have a3:=hb _ s7 σ6 H7 _ I7 q7;unfold LcW at a3 ⊢;cases e:gens[d+1]? with
   | none =>
    rw[e] at a3;exact E1 a3 λx s8 h8=>E1 h8 λ_ s9 ⟨σ9,H9,I9,n9⟩=>again I9 n9
   | some g' =>
    rw[e] at a3;exact ⟨a3.1,E1 a3.2 λx s8 h8=>E1 h8 λ_ s9 h9=>codeAny_mono h9 λr s10 ⟨hr,σ9,H9,I9,n9⟩=>⟨hr,again I9 n9⟩⟩
theorem D1m (hgd:gens[d+1]?=some ⟨tg,iter,ifs,0⟩) (hx:Y.xe=λ_ _=>False) (hc:Y.calm=true) (hs:∀ x,foldedSetIterable iter Y.env x=pure x) (hi:PI Y tg iter wi) (hg:PG Y tg g) (ht:PTs Y ifs ti)
  (hb:PB Y elt gens scope pos (d+1) acc tb):PB Y elt gens scope pos d acc (C12 wi g (A4n ti tb)):=by
 intro pins s U H D I h;unfold LcW;rw[hgd];dsimp only;refine ⟨⟨rfl,hs⟩,?_⟩;have a1:=hi pins s U H _ I h;rw[hx] at a1;refine E1 a1 λx s1 h1=>E1 h1 λitv s2 ⟨it,fp,tn,J,H2,e,I2,T,st2,f2,q2⟩=>?_;subst e;have lp:=A7o (acc:=acc) hgd hx hc hg ht hb I2 T st2 f2 q2;exact U7 hgd lp (T.self _ _ _ _ _ st2 lp)
end
def K4 (env:Env):List (Str × NameKind)->List (Str × Addr)->List (Str × Addr)
 | [],acc=>acc
 | (n,k)::r,acc=>if k==.free then K4 env r ((n,(env.cells.lookup n).getD 0)::acc) else K4 env r acc
theorem A2r {env:Env} (f:Str × NameKind->List (Str × Addr)->Sem (ForInStep (List (Str × Addr))))
  (hf:∀ n k cs,f (n,k) cs=if k==.free then (do let c <- cellOf env n;pure (.yield ((n,c)::cs))) else pure (.yield cs)) :
  ∀ (names:List (Str × NameKind)) (acc:List (Str × Addr)),(∀ x∈names,x.2=.free->∃ c,env.cells.lookup x.1=some c)->forIn names acc f=pure (K4 env names acc)
 | [],acc,_=>by rw[List.forIn_nil];rfl
 | (n,k)::r,acc,h=>by
  rw[List.forIn_cons,hf];unfold K4;by_cases hk:(k==NameKind.free)=true
  ·rw[qm hk,qm hk];obtain ⟨c,hc⟩:=h (n,k) qu (by simpa using hk);have hc':env.cells.lookup n=some c:=hc;have e:cellOf env n=pure c:=by unfold cellOf;rw[hc']
   rw[e,hc'];exact A2r f hf r _ λx hx=>h x (qv _ hx)
  ·rw[qo hk,qo hk];exact A2r f hf r _ λx hx=>h x (qv _ hx)
theorem P7 {scope:Scope} {env:Env} (h:∀ x∈scope.names,x.2=.free->∃ c,env.cells.lookup x.1=some c):closureFor scope env=pure (K4 env scope.names []):=by
 unfold closureFor;dsimp only;rw[A2r (env:=env) _ (λn k cs=>by cases hk:k==NameKind.free<;>simp[hk]) scope.names [] h];rfl
theorem A09 {env:Env} {x:Str} {c:Addr}:∀ (names:List (Str × NameKind)) (acc:List (Str × Addr)),(∀ y∈names,y.2=.free->∃ c,env.cells.lookup y.1=some c) ->
  (K4 env names acc).lookup x=some c->(((x,NameKind.free)∈names/\env.cells.lookup x=some c)\/acc.lookup x=some c)
 | [],acc,_,e=>.inr e
 | (n,k)::r,acc,h,e=>by
  unfold K4 at e;have hr:∀ y∈r,y.2=.free->∃ c,env.cells.lookup y.1=some c:=λy hy=>h y (qv _ hy);by_cases hk:(k==NameKind.free)=true
  ·rw[qm hk] at e;have hk':k=.free:=by simpa using hk
   subst hk';rcases A09 r _ hr e with ⟨h1,h2⟩|h1
   ·exact .inl ⟨qv _ h1,h2⟩
   ·rw[List.lookup_cons] at h1;cases q:x==n with
    | true =>
     rw[q] at h1;have:x=n:=by simpa using q
     subst this;obtain ⟨c',hc'⟩:=h (x,.free) qu rfl;have hc'':env.cells.lookup x=some c':=hc';rw[hc''] at h1;exact .inl ⟨qu,by rw[hc''];exact h1⟩
    | false =>
     rw[q] at h1;exact .inr h1
  ·rw[qo hk] at e;rcases A09 r _ hr e with ⟨h1,h2⟩|h1
   ·exact .inl ⟨qv _ h1,h2⟩
   ·exact .inr h1
theorem T1 {env:Env} {x:Str}:∀ (names:List (Str × NameKind)) (acc:List (Str × Addr)),(x,NameKind.free)∈names\/(acc.lookup x).isSome=true->((K4 env names acc).lookup x).isSome=true
 | [],acc,h=>by rcases h with h|h;cases h;exact h
 | (n,k)::r,acc,h=>by
  unfold K4;by_cases hk:(k==NameKind.free)=true
  ·rw[qm hk];refine T1 r _ ?_;rw[List.lookup_cons];cases q:x==n with
   | true=>exact .inr rfl
   | false =>
    rcases h with h|h
    ·rcases zk.mp h with e|e
     ·cases e;simp at q
     ·exact .inl e
    ·exact .inr h
  ·rw[qo hk];refine T1 r _ ?_;rcases h with h|h
   ·rcases zk.mp h with e|e
    ·cases e;exact absurd rfl hk
    ·exact .inl e
   ·exact .inr h
theorem A1g {env:Env} {x:Str} {c:Addr}:∀ (names:List (Str × NameKind)) (acc:List (Str × Addr)),(∀ y∈names,y.2=.free->∃ c,env.cells.lookup y.1=some c)->(x,c)∈K4 env names acc->env.cells.lookup x=some c\/(x,c)∈acc
 | [],acc,_,e=>.inr e
 | (n,k)::r,acc,h,e=>by
  unfold K4 at e;have hr:∀ y∈r,y.2=.free->∃ c,env.cells.lookup y.1=some c:=λy hy=>h y (qv _ hy);by_cases hk:(k==NameKind.free)=true
  ·rw[qm hk] at e;have hk':k=.free:=by simpa using hk
   subst hk';rcases A1g r _ hr e with h1|h1
   ·exact .inl h1
   ·rcases zk.mp h1 with q|q
    ·obtain ⟨c',hc'⟩:=h (n,.free) qu rfl;have hc'':env.cells.lookup n=some c':=hc';rw[hc''] at q;cases q;exact .inl hc''
    ·exact .inr q
  ·rw[qo hk] at e;exact A1g r _ hr e
theorem S6 {x:Str} {c:Addr}:∀ (names:List (Str × NameKind)) (n:Nat) (acc:List (Str × Addr)),(cellsFrom n names acc).lookup x=some c->((x,NameKind.cell)∈names/\n<=c)\/acc.lookup x=some c
 | [],n,acc,e=>.inr e
 | (y,k)::r,n,acc,e=>by
  unfold cellsFrom at e;by_cases hk:(k==NameKind.cell)=true
  ·rw[qm hk] at e;have hk':k=.cell:=by simpa using hk
   subst hk';rcases S6 r _ _ e with ⟨h1,h2⟩|h1
   ·exact .inl ⟨qv _ h1,by lia⟩
   ·rw[List.lookup_cons] at h1;cases q:x==y with
    | true =>
     rw[q] at h1;have:x=y:=by simpa using q
     subst this;cases h1;exact .inl ⟨qu,qp _⟩
    | false=>rw[q] at h1;exact .inr h1
  ·rw[qo hk] at e;rcases S6 r _ _ e with ⟨h1,h2⟩|h1
   ·exact .inl ⟨qv _ h1,h2⟩
   ·exact .inr h1
theorem U5 {x:Str}:∀ (names:List (Str × NameKind)) (n:Nat) (acc:List (Str × Addr)),(x,NameKind.cell)∉names->(cellsFrom n names acc).lookup x=acc.lookup x
 | [],n,acc,_=>rfl
 | (y,k)::r,n,acc,h=>by
  unfold cellsFrom;have hr:(x,NameKind.cell)∉r:=λz=>h (qv _ z);by_cases hk:(k==NameKind.cell)=true
  ·rw[qm hk,U5 r _ _ hr,List.lookup_cons];cases q:x==y with
   | true =>
    have:x=y:=by simpa using q
    subst this;have hk':k=.cell:=by simpa using hk
    subst hk';exact absurd qu h
   | false=>rfl
  ·rw[qo hk];exact U5 r _ _ hr
theorem U8:∀ (names:List (Str × NameKind)) (h:Heap) (acc:List (Str × Addr)) (lo:Nat),lo<=h.objs.size->(∀ y c,(y,c)∈acc->lo<=c->h.IsCell c none)->(acc.Pairwise λx y=>lo<=x.2->x.2≠y.2)->(∀ y c,(y,c)∈acc->c < h.objs.size) ->
  (∀ y c,(y,c)∈cellsFrom h.objs.size names acc->lo<=c->(pushCells h names).IsCell c none)/\((cellsFrom h.objs.size names acc).Pairwise λx y=>lo<=x.2->x.2≠y.2)
 | [],h,acc,lo,_,h1,h2,_=>⟨h1,h2⟩
 | (n,k)::r,h,acc,lo,hlo,h1,h2,h3=>by
  unfold cellsFrom pushCells;by_cases hk:(k==NameKind.cell)=true
  ·rw[qm hk,qm hk];have:=U8 r (h.push { cls:=.type "cell",data:=.cell none }) ((n,h.objs.size)::acc) lo (by rw[Heap.size_push];lia) (λy c hm hc=>by
    rcases zk.mp hm with e|hm
    ·cases e;exact ⟨_,ql _ rfl,rfl⟩
    ·exact (h1 y c hm hc).keeps λb o e=>qa _ e) (List.pairwise_cons.mpr ⟨λy hy _ e=>by
     have:=h3 y.1 y.2 hy;have e':h.objs.size=y.2:=e;exact absurd (e' ▸ this) (Nat.lt_irrefl _),h2⟩) (λy c hm=>by
    rw[Heap.size_push];rcases zk.mp hm with e|hm
    ·cases e;exact Nat.lt_succ_self _
    ·exact Nat.lt_succ_of_lt (h3 y c hm))
   rw[Heap.size_push] at this;exact this
  ·rw[qo hk,qo hk];exact U8 r h acc lo hlo h1 h2 h3
def D88 (scope:Scope) (env:Env) (C:Addr):Env :=
 { scope:=relabel scope env,locals:=C,globals:=env.globals,cells:=cellsFrom (C+1) scope.names (K4 env scope.names []),qual:=env.qual,func:=none,code:=env.code,frame:=env.frame,builtins:=env.builtins }
theorem A0u {scope:Scope} {env:Env} {Q:Env->Shared->Prop}
  (h:Q (newEnv scope s.heap.objs.size env.globals (cellsFrom (s.heap.objs.size+1) scope.names (K4 env scope.names [])) env.qual none .none (some env) builtinsNs)
   { s with heap:=pushCells (s.heap.push {cls:=.type "dict",data:=.dict #[] }) scope.names }) :
  wpAny M A (newFunctionEnv scope env.globals (K4 env scope.names []) [] env.qual none .none (some env)) Q E s:=by
 simp only[newFunctionEnv,Option.isSome_some,if_true];refine qb (wpAny_alloc ?_);refine qb (wpAny_layCells _ (λname kind cells=>by cases hkc:kind==NameKind.cell<;>simp[hkc]) _ _ _ _ ?_);rw[show ({ s with heap:=s.heap.push { cls:=.type "dict",data:=.dict #[] } }:Shared).heap.objs.size=s.heap.objs.size+1 from Heap.size_push ..];rw[List.forIn_nil];exact qb (qc (qc h))
def Cx.inn (X:Cx) (scope:Scope) (N:List Str) (s₃:Shared) (H₃:Hp) (fp:List Addr):Cx :=
 { X with N:=N,s₀:=s₃,H₀:=H₃,env:=D88 scope X.env s₃.heap.objs.size,outer:=X.stack,stack:=X.stack,ex:=fp,fn:=λx=>scope.names.lookup x==some .cell,pn:=[],xe:=λ_ _=>False }
def D2 (own:List Str) (cap:List (Str × Nat)):List Str:=own++cap.map (·.1)
def A68 (own:List Str) (cap:List (Str × Nat)) (U:St):St:=own.map (λ_=>none)++cap.map λp=>(U[p.2]?).join
structure C2 (X:Cx) (scope:Scope) (own:List Str) (cap:List (Str × Nat)):Prop where
 kind:scope.kind=.function
 nd:(scope.names.map (·.1)).Nodup
 loc:∀ x∈scope.names,x.2=.local->scope.names.lookup x.1=some .local
 fre:∀ x∈scope.names,x.2=.free->X.env.kindOf x.1=some .cell\/X.env.kindOf x.1=some .free
 cap:∀ p∈cap,X.N[p.2]?=some p.1/\(p.1,NameKind.free)∈scope.names
theorem A60 {names:List (Str × NameKind)} (nd:(names.map (·.1)).Nodup) {x:Str} {k k':NameKind} (h:(x,k)∈names) (h':(x,k')∈names):k=k':=by
 induction names with
 | nil=>cases h
 | cons p r ih =>
  rw[map_cons,nodup_cons] at nd;rcases zk.mp h with e|h<;>rcases zk.mp h' with e'|h'
  ·rw[<-e] at e';cases e';rfl
  ·exact absurd (zg.mpr ⟨_,h',by rw[<-e]⟩) nd.1
  ·exact absurd (zg.mpr ⟨_,h,by rw[<-e']⟩) nd.1
  ·exact ih nd.2 h h'
theorem B31 {names:List (Str × NameKind)} (nd:(names.map (·.1)).Nodup) {x:Str} {k:NameKind} (h:(x,k)∈names):names.lookup x=some k:=by
 cases e:names.lookup x with
 | some k'=>rw[A60 nd h (zw e)]
 | none =>
  have:∀ p∈names,(x==p.1)=false:=by
   have:=List.lookup_eq_none_iff.mp e;intro p hp;have:=this p hp;simpa using this
  have:=this _ h;simp at this
theorem A14 {lo:Nat}:∀ {cs:List (Str × Addr)},(cs.Pairwise λx y=>lo<=x.2->x.2≠y.2)->∀ {n n':Str} {c:Addr},(n,c)∈cs->(n',c)∈cs->lo<=c->n=n'
 | x::r,hp,n,n',c,h,h',hc=>by
  obtain ⟨h1,h2⟩:=List.pairwise_cons.mp hp;rcases zk.mp h with e|h<;>rcases zk.mp h' with e'|h'
  ·rw[<-e'] at e;exact (Prod.mk.inj e).1
  ·exact absurd (by rw[<-e]) (h1 _ h' (by rw[<-e];exact hc))
  ·exact absurd (by rw[<-e']) (h1 _ h (by rw[<-e'];exact hc))
  ·exact A14 h2 h h' hc
theorem B0v {f:Str->NameKind->Bool} {x:Str}:∀ {names:List (Str × NameKind)},(names.map λp=>if f p.1 p.2=true then (p.1,NameKind.cell) else p).lookup x=(names.lookup x).map λk=>if f x k=true then NameKind.cell else k
 | []=>rfl
 | (n,k)::r=>by
  rw[map_cons];have ih:=@B0v f x r;cases hx:x==n with
  | true =>
   have:x=n:=by simpa using hx
   subst this;cases hc:f x k<;>simp[List.lookup_cons,hc]
  | false =>
   cases hc:f n k<;>simp only[List.lookup_cons,hx,hc,if_true,if_false,zo]<;>exact ih
theorem A9n {scope:Scope} {env:Env} {x:Str}:(relabel scope env).names.lookup x =
  (scope.names.lookup x).map λk=>if (k==NameKind.free&&env.scope.kind==.function&&env.kindOf x==some .cell)=true then NameKind.cell else k:=by
 have e:(relabel scope env).names=scope.names.map λp=>if (λn k=>(k==NameKind.free&&env.scope.kind==.function&&env.kindOf n==some .cell)) p.1 p.2=true then (p.1,NameKind.cell) else p:=by
  unfold relabel;dsimp only
 rw[e];exact B0v (f:=λn k=>(k==NameKind.free&&env.scope.kind==.function&&env.kindOf n==some .cell))
section
variable {X:Cx} {pins:List (Addr × Obj)} {U:St} {H:Hp} {s:Shared} {scope:Scope} {own:List Str} {cap:List (Str × Nat)} {fp:List Addr}
theorem A8q (L:C2 X scope own cap) (I:B6 X pins U H s) (hf:∀ b∈fp,V5 X pins H b) (ho:∀ b∈fp,∃ o,s.heap.get? b=some o) :
  B6 (X.inn scope (D2 own cap) s H fp) [] (A68 own cap U) H { s with heap:=pushCells (s.heap.push { cls:=.type "dict",data:=.dict #[] }) scope.names }:=by
 have hcl:∀ x∈scope.names,x.2=.free->∃ c,X.env.cells.lookup x.1=some c:=λx hx hk=>I.ok.has x.1 (L.fre x hx hk);have old:∀ x c,(K4 X.env scope.names []).lookup x=some c->(x,NameKind.free)∈scope.names/\X.env.cells.lookup x=some c:=λx c e=>by
  rcases A09 _ _ hcl e with h|h
  ·exact h
  ·cases h
 have keep:∀ b o,s.heap.get? b=some o->(pushCells (s.heap.push { cls:=.type "dict",data:=.dict #[] }) scope.names).get? b=some o:=λb o e=>pushCells_keeps _ _ b o (qa _ e);have look:∀ x c,(X.inn scope (D2 own cap) s H fp).env.cells.lookup x=some c->((x,NameKind.cell)∈scope.names/\s.heap.objs.size+1<=c)\/((x,NameKind.free)∈scope.names/\X.env.cells.lookup x=some c):=λx c e=>by
  rcases S6 _ _ _ e with h|h
  ·exact .inl h
  ·exact .inr (old x c h)
 have oldlt:∀ x c,X.env.cells.lookup x=some c->c < s.heap.objs.size:=λx c e=>by
  obtain ⟨v,hv⟩:=I.cell x c e;exact hv.lt
 have nf:∀ x,(x,NameKind.free)∈scope.names->(x,NameKind.cell)∉scope.names:=λx h h'=>by cases A60 L.nd h h'
 have ml:∀ y c,(y,c)∈K4 X.env scope.names []->c < s.heap.objs.size:=λy c hm=>by
  rcases A1g _ _ hcl hm with h|h
  ·exact oldlt y c h
  ·cases h
 have clnd:(K4 X.env scope.names []).Pairwise λx y=>s.heap.objs.size+1<=x.2->x.2≠y.2:=List.pairwise_iff_forall_sublist.mpr λ{a b} hs hle=>by
  have:a∈K4 X.env scope.names []:=hs.subset qu;have:=ml a.1 a.2 this;exact absurd (qq hle this) (Nat.not_lt.mpr (Nat.le_succ _))
 have nst:=U8 scope.names (s.heap.push { cls:=.type "dict",data:=.dict #[] }) (K4 X.env scope.names []) (s.heap.objs.size+1) (by rw[Heap.size_push];exact qp _)
  (λy c hm hc=>absurd (qq hc (ml y c hm)) (Nat.not_lt.mpr (Nat.le_succ _))) clnd (λy c hm=>by rw[Heap.size_push];exact Nat.lt_succ_of_lt (ml y c hm))
 rw[Heap.size_push] at nst;have newcell:∀ x c,(X.inn scope (D2 own cap) s H fp).env.cells.lookup x=some c->s.heap.objs.size+1<=c->(pushCells (s.heap.push { cls:=.type "dict",data:=.dict #[] }) scope.names).IsCell c none:=λx c e hc=>nst.1 x c (zw e) hc;have kindY:∀ x,(X.inn scope (D2 own cap) s H fp).env.kindOf x=(scope.names.lookup x).map λk=>if (k==NameKind.free&&X.env.scope.kind==.function&&X.env.kindOf x==some .cell)=true then NameKind.cell else k:=λx=>A9n
 refine ⟨⟨I.ok.mod,L.kind,I.ok.glob,I.ok.blt,qp _,λx y c h1 h2=>?inj,λx hx=>?has,λx c hx h=>?cab,I.ok.hd,I.ok.frames,.inl rfl,λb hb=>⟨?ex1,λx c h=>?ex2⟩,λb o e=>I.bs b o e,zn I.ok.bsz I.sz,λb o e hb=>?noex,λb hb hb'=>?exfs,I.stack,I.stkFree⟩,
  rfl,I.bare,Un.kept keep,⟨λ_=>none,?ns,λi x v h1 h2 h3=>?look⟩,λx c h=>?cell,I.fresh,λx c h=>?freeC,λp hp=>absurd (show p∈([]:List (Addr × Obj)) from hp) (by simp),I.hok.kept keep,?len⟩
 case inj =>
  rcases look x c h1 with ⟨_,g1⟩|⟨_,g1⟩<;>rcases look y c h2 with ⟨_,g2⟩|⟨_,g2⟩
  ·exact A14 nst.2 (zw h1) (zw h2) g1
  ·exact absurd (qq g1 (oldlt y c g2)) (Nat.not_lt.mpr (Nat.le_succ _))
  ·exact absurd (qq g2 (oldlt x c g1)) (Nat.not_lt.mpr (Nat.le_succ _))
  ·exact I.ok.inj x y c g1 g2
 case has =>
  rw[kindY] at hx;cases e:scope.names.lookup x with
  | none=>rw[e] at hx;rcases hx with h|h<;>cases h
  | some k =>
   rw[e] at hx;have hm:=zw e;have hk:k=.cell\/k=.free:=by
    by_cases hc:(k==NameKind.free&&X.env.scope.kind==.function&&X.env.kindOf x==some .cell)=true
    ·simp only[zb,beq_iff_eq] at hc;exact .inr hc.1.1
    ·rw[Option.map_some,qo hc] at hx;rcases hx with h|h
     ·exact .inl (zp h)
     ·exact .inr (zp h)
   rcases hk with rfl|rfl
   ·exact Option.isSome_iff_exists.mp (W.cellsFrom_some scope.names _ _ (.inl e))
   ·exact Option.isSome_iff_exists.mp (W.cellsFrom_some scope.names _ _ (.inr (T1 _ _ (.inl hm))))
 case cab =>
  have hx':scope.names.lookup x=some .cell:=by simpa [Cx.inn] using hx
  rcases look x c h with ⟨_,g⟩|⟨g,_⟩
  ·exact Nat.le_of_succ_le g
  ·exact absurd (zw hx') (nf x g)
 case ex1 =>
  obtain ⟨o,e⟩:=ho b hb;exact ze (qi e)
 case ex2 =>
  obtain ⟨o,e⟩:=ho b hb;rcases look x c h with ⟨_,g⟩|⟨_,g⟩
  ·rintro rfl;exact absurd (qq g (qi e)) (Nat.not_lt.mpr (Nat.le_succ _))
  ·exact (hf b hb).2.2.2.2.1 x c g
 case noex =>
  rcases (hf b hb).2.2.2.1 with g|g
  ·exact I.ok.noex b o e g
  ·exact absurd (qr (qi e) I.ok.bsz) (Nat.not_lt.mpr g)
 case exfs =>
  rcases zk.mp (I.stkSub b hb') with g|g
  ·exact (hf b hb).2.1 g
  ·exact (hf b hb).2.2.1 g
 case ns=>exact (Heap.Ns.new s.heap (.type "dict")).keeps (pushCells_keeps _ _)
 case look =>
  obtain ⟨j,p,hp,rfl,hv⟩:∃ (j:Nat) (p:Str × Nat),cap[j]?=some p/\p.1=x/\U[p.2]?=some (some v):=by
   have h1:(own++cap.map (·.1))[i]?=some x:=h1;unfold A68 at h2;by_cases hi:i < own.length
   ·rw[List.getElem?_append_left (by simpa using hi),qk] at h2;cases e:own[i]? with
    | none=>rw[e] at h2;cases h2
    | some y=>rw[e] at h2;cases h2
   ·rw[List.getElem?_append_right (by lia)] at h1;rw[List.getElem?_append_right (by simpa using hi)] at h2;rw[qf] at h2;rw[qk] at h1 h2;cases e:cap[i - own.length]? with
    | none=>rw[e] at h1;cases h1
    | some p =>
     rw[e] at h1 h2;refine ⟨_,p,e,zp h1,?_⟩;have h2:(U[p.2]?).join=some v:=zp h2;cases q:U[p.2]? with
     | none=>rw[q] at h2;cases h2
     | some z=>rw[q] at h2;exact congrArg some h2
  obtain ⟨c1,c2⟩:=L.cap p (zr hp);have hk:=L.fre _ c2 rfl;obtain ⟨m,hn,hl⟩:=I.loc;obtain ⟨u,ru,lk⟩:=hl p.2 p.1 v c1 hv (.inr hk);refine ⟨u,ru,.inr ?_⟩;rcases lk with ⟨lk,_⟩|⟨_,c,e,hc⟩
  ·rcases hk with hk|hk
   ·have:X.env.kindOf p.1=some .cell:=hk;rw[lk] at this;cases this
   ·have:X.env.kindOf p.1=some .free:=hk;rw[lk] at this;cases this
  ·have hlk:=B31 L.nd c2;refine ⟨?_,c,?_,hc.keeps keep⟩
   ·rw[kindY,hlk,Option.map_some];split
    ·exact .inl rfl
    ·exact .inr rfl
   ·show (cellsFrom _ scope.names _).lookup p.1=some c;rw[U5 _ _ _ (nf _ c2)];obtain ⟨c',e'⟩:=Option.isSome_iff_exists.mp (T1 (env:=X.env) scope.names [] (.inl c2));rw[e',<-e];exact (old _ _ e').2.symm
 case cell =>
  rcases look x c h with ⟨_,g⟩|⟨_,g⟩
  ·exact ⟨_,newcell x c h g⟩
  ·obtain ⟨v,hv⟩:=I.cell x c g;exact ⟨v,hv.keeps keep⟩
 case freeC =>
  rcases look x c h with ⟨_,g⟩|⟨_,g⟩
  ·exact I.hok.fresh (Nat.le_of_succ_le g)
  ·exact I.freeC x c g
 case len =>
  show (A68 own cap U).length=(D2 own cap).length;unfold A68 D2;simp
end
def tLC (wi:TI) (g:TG) (ti:TT) (tb:Addr->TS) (own:List Str) (cap:List (Str × Nat)):TE:=λU H Q=>wi U H λJ H1=>∀ acc,H1 acc=none ->
 A4z J g (A4n ti (tb acc)) { nx:=λ_ H'=>Q (.ref acc) H',rt:=λ_ _=>False } (A68 own cap U) (upd H1 acc (.lst []))
theorem D7h {X:Cx} {elt tg:Expr} {rest:List Comprehension} {scope:Scope} {pos:Pos} {tb:Addr->TS} (own:List Str) (cap:List (Str × Nat)) (hc:X.calm=true) (L:C2 X scope own cap) (hi:PI X tg iter wi)
  (hin:∀ (s₃:Shared) (H₃:Hp) (fp:List Addr) (acc:Addr),PG (X.inn scope (D2 own cap) s₃ H₃ fp) tg g/\PTs (X.inn scope (D2 own cap) s₃ H₃ fp) ifs ti/\PB (X.inn scope (D2 own cap) s₃ H₃ fp) elt (⟨tg,iter,ifs,0⟩::rest) scope pos 0 acc (tb acc))
  (hs:∀ x,foldedSetIterable iter X.env x=pure x:=by intro _;rfl):PE X (.ListComp elt (⟨tg,iter,ifs,0⟩::rest) scope pos) (tLC wi g ti tb own cap):=by
 intro pins s U H Q I h;rw[eval_ListComp];have hcl:∀ x∈scope.names,x.2=.free->∃ c,X.env.cells.lookup x.1=some c:=λx hx hk=>I.ok.has x.1 (L.fre x hx hk);refine wpAny_comprehension_free (use:=none) rfl hs (P7 hcl) L.kind L.loc (E1 (hi pins s U H _ I h) λx s1 h1=>E1 h1 λitv s2 ⟨it,fp,tn,J,H2,e,I2,T,st2,f2,q2⟩=>?_);subst e;refine wpAny_newObj_type ?_;have I3:=I2.lnew (t':=s2.toks) (ys:=[]) (its:=[]) .nil (zz _);have fr2:H2 s2.heap.objs.size=none:=I2.fresh;have f3:∀ b∈fp,V5 X pins (upd H2 s2.heap.objs.size (.lst [])) b:=λb hb=>by
  obtain ⟨o,eo,_⟩:=T.obj 0 _ st2 b hb;obtain ⟨g1,g2⟩:=f2 b hb;exact ⟨by rw[B5 (ze (qi eo))];exact g1,g2⟩
 have k3:∀ b o,s2.heap.get? b=some o->(s2.heap.push { cls:=.type "list",data:=.seq ([]:List Value).toArray }).get? b=some o:=λb o e=>qa _ e;have st3:tn 0 (s2.heap.push { cls:=.type "list",data:=.seq ([]:List Value).toArray }):=T.keep 0 _ _ st2 λb _ o e=>k3 b o e;refine A0u ?_;have I4:=A8q L I3 f3 λb hb=>by obtain ⟨o,eo,_⟩:=T.obj 0 _ st3 b hb;exact ⟨o,eo⟩
 obtain ⟨hg,ht,hb⟩:=hin { s2 with heap:=s2.heap.push { cls:=.type "list",data:=.seq ([]:List Value).toArray },toks:=s2.toks } (upd H2 s2.heap.objs.size (.lst [])) fp s2.heap.objs.size;have st4:=T.keep 0 _ (pushCells ((s2.heap.push { cls:=.type "list",data:=.seq ([]:List Value).toArray }).push { cls:=.type "dict",data:=.dict #[] }) scope.names) st3 λb _ o e=>pushCells_keeps _ _ b o (qa _ e);have f4:∀ b∈fp,V5 (X.inn scope (D2 own cap) { s2 with heap:=s2.heap.push { cls:=.type "list",data:=.seq ([]:List Value).toArray },toks:=s2.toks } (upd H2 s2.heap.objs.size (.lst [])) fp) [] (upd H2 s2.heap.objs.size (.lst [])) b:=λb hb =>
  ⟨(f3 b hb).1,(I4.ok.exf b hb).1,I4.ok.exfs b hb,.inl hb,(I4.ok.exf b hb).2,λp hp=>absurd (show p∈([]:List (Addr × Obj)) from hp) (by simp)⟩
 have lp:=A7o (Y:=X.inn scope (D2 own cap) { s2 with heap:=s2.heap.push { cls:=.type "list",data:=.seq ([]:List Value).toArray },toks:=s2.toks } (upd H2 s2.heap.objs.size (.lst [])) fp) (acc:=s2.heap.objs.size) (gens:=⟨tg,iter,ifs,0⟩::rest) (d:=0) rfl rfl hc hg ht hb I4 T st4 f4 (q2 _ fr2);have lp':=codeAny_mono lp (R':=compPost (model X.prog X.w) X.A X.xe none (EP X pins U Q) (.ref s2.heap.objs.size) (s2.heap.push { cls:=.type "list",data:=.seq ([]:List Value).toArray }).objs.size) λr s' ⟨hr,U',H',I',q'⟩=>by
  subst hr;obtain ⟨m',hn',_⟩:=id I'.loc;refine ⟨m',hn',λh' hsb=>?_⟩;refine ⟨.ref s2.heap.objs.size,H',?_,rfl,q'⟩;have neC:∀ b o,(s2.heap.push { cls:=.type "list",data:=.seq ([]:List Value).toArray }).get? b=some o->b≠(s2.heap.push { cls:=.type "list",data:=.seq ([]:List Value).toArray }).objs.size:=λb o e=>ze (qi e);have B:=I'.base;refine I3.call' (ch:=fp) I'.os ⟨λb o e n hb hx=>(hsb.2 b (neC b o e)).trans (B.keep b o e n hb hx),λb o e n hb hx=>?_,B.free,λb o e hx=>?_,B.tups,B.frzs,B.tbls⟩ (λb u e=>?_) I'.bare λb hb=>⟨(f3 b hb).2.2.2.1,(f3 b hb).2.1,(f3 b hb).2.2.2.2.1,(f3 b hb).2.2.2.2.2⟩
  ·obtain ⟨sl,e1⟩:=B.slot b o e n hb hx;exact ⟨sl,(hsb.2 b (neC b o e)).trans e1⟩
  ·obtain ⟨o',e1⟩:=B.there b o e hx;exact ⟨o',(hsb.2 b (neC b o e)).trans e1⟩
  ·have hC:H' (s2.heap.push { cls:=.type "list",data:=.seq ([]:List Value).toArray }).objs.size=none:=I'.free;refine (I'.hok b u e).stay (λc v hc' q=>(hsb.2 c ?_).trans q) (λ_ q=>q) λ_ _ q=>q;rintro rfl;rcases hc' with hc'|hc'
   ·rw[<-hc',hC] at e;cases e
   ·rw[hC] at hc';cases hc'
 exact U7 rfl lp' (T.self _ _ _ _ _ st4 lp')
theorem C0v {X:Cx} {i:Nat} {elt tg:Expr} {rest:List Comprehension} {scope:Scope} {pos:Pos} {tb:Addr->TS} (own:List Str) (cap:List (Str × Nat)) (hN:X.N.Nodup) (hyi:X.N[i]?=some y) (hy:X.env.scope.names.lookup y=some .local) (hc:X.calm=true) (L:C2 X scope own cap) (hi:PI X tg iter wi)
  (hin:∀ (s₃:Shared) (H₃:Hp) (fp:List Addr) (acc:Addr),PG (X.inn scope (D2 own cap) s₃ H₃ fp) tg g/\PTs (X.inn scope (D2 own cap) s₃ H₃ fp) ifs ti/\PB (X.inn scope (D2 own cap) s₃ H₃ fp) elt (⟨tg,iter,ifs,0⟩::rest) scope pos 0 acc (tb acc))
  (hsw:swapsWith (.ListComp elt (⟨tg,iter,ifs,0⟩::rest) scope pos) (some (.Name y py)) spos.line X.env=pure true:=by rfl) (hs:∀ x,foldedSetIterable iter X.env x=pure x:=by intro _;rfl) :
  PS X (.Assign [.Name y py] (.ListComp elt (⟨tg,iter,ifs,0⟩::rest) scope pos) spos) (B18 (tLC wi g ti tb own cap) (N1 i)):=by
 intro pins s U H D I h;rw[exec_Assign_Name_used _ _ _ _ hsw];refine qb (wpAny_standAt (qb ?_));show wpAny _ X.A (do let _ <- comprehension (.ListComp elt (⟨tg,iter,ifs,0⟩::rest) scope pos) scope X.env _ (newList []) false (eval iter X.env) (some (assign (.Name y py) X.env))) _ _ s;have hcl:∀ x∈scope.names,x.2=.free->∃ c,X.env.cells.lookup x.1=some c:=λx hx hk=>I.ok.has x.1 (L.fre x hx hk);refine qb (jc (wpAny_comprehension_free (use:=some (assign (.Name y py) X.env)) (Q:=λ_ s'=>SP X pins D .next s') rfl hs (P7 hcl) L.kind L.loc (E1 (hi pins s U H _ I h) λx s1 h1=>E1 h1 λitv s2 ⟨it,fp,tn,J,H2,e,I2,T,st2,f2,q2⟩=>?_)) (λ_ s' hq=>qc (qc hq)) λ_ _ e=>e);subst e;refine wpAny_newObj_type ?_;have I3:=I2.lnew (t':=s2.toks) (ys:=[]) (its:=[]) .nil (zz _);have fr2:H2 s2.heap.objs.size=none:=I2.fresh;have f3:∀ b∈fp,V5 X pins (upd H2 s2.heap.objs.size (.lst [])) b:=λb hb=>by
  obtain ⟨o,eo,_⟩:=T.obj 0 _ st2 b hb;obtain ⟨g1,g2⟩:=f2 b hb;exact ⟨by rw[B5 (ze (qi eo))];exact g1,g2⟩
 have k3:∀ b o,s2.heap.get? b=some o->(s2.heap.push { cls:=.type "list",data:=.seq ([]:List Value).toArray }).get? b=some o:=λb o e=>qa _ e;have st3:tn 0 (s2.heap.push { cls:=.type "list",data:=.seq ([]:List Value).toArray }):=T.keep 0 _ _ st2 λb _ o e=>k3 b o e;refine A0u ?_;have I4:=A8q L I3 f3 λb hb=>by obtain ⟨o,eo,_⟩:=T.obj 0 _ st3 b hb;exact ⟨o,eo⟩
 obtain ⟨hg,ht,hb⟩:=hin { s2 with heap:=s2.heap.push { cls:=.type "list",data:=.seq ([]:List Value).toArray },toks:=s2.toks } (upd H2 s2.heap.objs.size (.lst [])) fp s2.heap.objs.size;have st4:=T.keep 0 _ (pushCells ((s2.heap.push { cls:=.type "list",data:=.seq ([]:List Value).toArray }).push { cls:=.type "dict",data:=.dict #[] }) scope.names) st3 λb _ o e=>pushCells_keeps _ _ b o (qa _ e);have f4:∀ b∈fp,V5 (X.inn scope (D2 own cap) { s2 with heap:=s2.heap.push { cls:=.type "list",data:=.seq ([]:List Value).toArray },toks:=s2.toks } (upd H2 s2.heap.objs.size (.lst [])) fp) [] (upd H2 s2.heap.objs.size (.lst [])) b:=λb hb =>
  ⟨(f3 b hb).1,(I4.ok.exf b hb).1,I4.ok.exfs b hb,.inl hb,(I4.ok.exf b hb).2,λp hp=>absurd (show p∈([]:List (Addr × Obj)) from hp) (by simp)⟩
 have lp:=A7o (Y:=X.inn scope (D2 own cap) { s2 with heap:=s2.heap.push { cls:=.type "list",data:=.seq ([]:List Value).toArray },toks:=s2.toks } (upd H2 s2.heap.objs.size (.lst [])) fp) (acc:=s2.heap.objs.size) (gens:=⟨tg,iter,ifs,0⟩::rest) (d:=0) rfl rfl hc hg ht hb I4 T st4 f4 (q2 _ fr2);have lp':=codeAny_mono lp (R':=compPost (model X.prog X.w) X.A X.xe (some (assign (.Name y py) X.env)) (λ_ s'=>SP X pins D .next s') (.ref s2.heap.objs.size) (s2.heap.push { cls:=.type "list",data:=.seq ([]:List Value).toArray }).objs.size) λr s' ⟨hr,U',H',I',q'⟩=>by
  subst hr;obtain ⟨m',hn',_⟩:=id I'.loc;have B:=I'.base;have I5:B6 X pins U H' s':=I3.call' (ch:=fp) I'.os B I'.hok I'.bare λb hb=>⟨(f3 b hb).2.2.2.1,(f3 b hb).2.1,(f3 b hb).2.2.2.2.1,(f3 b hb).2.2.2.2.2⟩;have hC:H' (s2.heap.push { cls:=.type "list",data:=.seq ([]:List Value).toArray }).objs.size=none:=I'.free;show wpAny _ X.A (assign (.Name y py) X.env (.ref s2.heap.objs.size)) _ _ _;refine wpAny_assign_Name (A31 I5 hN hyi (.inl hy) (v:=.ref s2.heap.objs.size) rfl (λs6 I6 ⟨a6,sb6,ha6⟩=>?_) (.inr hy));have neL:X.env.locals≠(s2.heap.push { cls:=.type "list",data:=.seq ([]:List Value).toArray }).objs.size:=ze I3.lt;have ha:a6≠(s2.heap.push { cls:=.type "list",data:=.seq ([]:List Value).toArray }).objs.size:=by
   rcases ha6 with rfl|ha6
   ·exact neL
   ·obtain ⟨v,hv⟩:=I3.cell y a6 ha6;exact ze hv.lt
  refine ⟨m',hn'.sameBut sb6 ha.symm,λh' hsb=>?_⟩;refine ⟨_,H',?_,q'⟩;have kb:∀ b o,b≠(s2.heap.push { cls:=.type "list",data:=.seq ([]:List Value).toArray }).objs.size->s6.heap.get? b=some o->h'.get? b=some o:=λb o hb e=>(hsb.2 b hb).trans e;refine I6.turned (t':=s6.toks) (it:=(s2.heap.push { cls:=.type "list",data:=.seq ([]:List Value).toArray }).objs.size) kb hC neL.symm (.inr I3.sz) (λx c e z=>?_) (λp hp z=>?_)
  ·obtain ⟨v,hv⟩:=I3.cell x c e;exact absurd z (ze hv.lt)
  ·have:=(I3.pin p hp).1;exact absurd z (ze (qi this))
 exact U7 rfl lp' (T.self _ _ _ _ _ st4 lp')
mutual
inductive Den (K:W.Frag) (H:Hp):V->PyData->Prop
 | non:Den K H .non .none
 | bl (b):Den K H (.bl b) (.bool b)
 | int (i):Den K H (.int i) (.int i)
 | str (x):Den K H (.str x) (.str x)
 | lst {a us ds}:O5 K H a us->Dens K H us ds->Den K H (.ref a) (.list ds)
 | tup {a us ds}:V2 K H a us->Dens K H us ds->Den K H (.ref a) (.tuple ds)
inductive Dens (K:W.Frag) (H:Hp):List V->List PyData->Prop
 | nil:Dens K H [] []
 | cons {v vs d ds}:Den K H v d->Dens K H vs ds->Dens K H (v::vs) (d::ds)
end
theorem A9.tup {K:W.Frag} {H H':Hp} {a:Addr} {xs:List V} (e:A9 H H') (h:V2 K H a xs):V2 K H' a xs:=by
 rcases h with (h|⟨o,h⟩)|h
 ·exact .inl (.inl (e _ _ h))
 ·exact .inl (.inr ⟨o,e _ _ h⟩)
 ·exact .inr h
section
variable {X:Cx} {pins:List (Addr × Obj)} {U:St} {H:Hp} {s:Shared}
mutual
theorem Den.reads (I:B6 X pins U H s):∀ {v d} {u:Value},Den X.K H v d->D0 v u->∃ as,Reads s.heap u d as
 | _,_,_,.non,r=>by cases r;exact ⟨_,.none⟩
 | _,_,_,.bl b,r=>by cases r;exact ⟨_,.bool b⟩
 | _,_,_,.int i,r=>by obtain ⟨t,rfl⟩:=r;exact ⟨_,.int i t⟩
 | _,_,_,.str i,r=>by obtain ⟨t,rfl⟩:=r;exact ⟨_,.str i t⟩
 | _,_,_,.lst h hr,r=>by
  cases r;obtain ⟨its,rv,⟨o,n,e,c,_,d⟩,_⟩:=I.list h;obtain ⟨as,q⟩:=Dens.reads I hr rv;exact ⟨_,.list e c d (by simpa using q)⟩
 | _,_,_,.tup h hr,r=>by
  cases r;obtain ⟨its,rv,⟨o,e,c,n,d⟩,_⟩:=I.tuple h;obtain ⟨as,q⟩:=Dens.reads I hr rv;exact ⟨_,.tuple e c d (by simpa using q)⟩
theorem Dens.reads (I:B6 X pins U H s):∀ {vs ds} {us:List Value},Dens X.K H vs ds->C6 vs us->∃ as,ReadsAll s.heap us ds as
 | _,_,_,.nil,r=>by cases r;exact ⟨_,.nil⟩
 | _,_,_,.cons h hr,r=>by
  cases r with
  | cons r1 r2 =>
   obtain ⟨as,q⟩:=Den.reads I h r1;obtain ⟨bs,q2⟩:=Dens.reads I hr r2;exact ⟨_,.cons q q2⟩
end
end
def B9x (K:W.Frag) (f:Bool->Bool):R2:=λx y H Q=>∃ dx dy,Den K H x dx/\Den K H y dy/\dx.canLay0=true/\dy.canLay0=true/\dx.depth<=32/\Q (.bl (f (PyData.eqv dx dy))) H
section
variable {X:Cx}
theorem D2j (hu:X.A.units+64 < cLine):U1 X (compareOp .Eq) (B9x X.K id):=by
 intro pins s U H x y v u Q I rx ry h;obtain ⟨dx,dy,h1,h2,h3,h4,h5,q⟩:=h;obtain ⟨as,r1⟩:=h1.reads I rx;obtain ⟨bs,r2⟩:=h2.reads I ry;exact SeqAt.compareEq_reads r1 r2 h3 h4 (by lia) ⟨.bl _,H,I,rfl,q⟩
theorem D0y (hu:X.A.units+64 < cLine):U1 X (compareOp .NotEq) (B9x X.K not):=by
 intro pins s U H x y v u Q I rx ry h;obtain ⟨dx,dy,h1,h2,h3,h4,h5,q⟩:=h;obtain ⟨as,r1⟩:=h1.reads I rx;obtain ⟨bs,r2⟩:=h2.reads I ry;exact SeqAt.compareNe_reads r1 r2 h3 h4 (by lia) ⟨.bl _,H,I,rfl,q⟩
theorem A1s {bs:List Bool}:∀ {us:List Value},C6 (bs.map V.bl) us->us=bs.map Value.bool:=by
 induction bs with
 | nil=>intro us h;cases h;rfl
 | cons b r ih =>
  intro us h;cases h with
  | cons h1 h2=>cases h1;rw[ih h2];rfl
theorem B7f {bs:List Bool}:(List.range bs.length).all (λi=>bs.getD i false)=bs.all id:=by
 rw[zu,all_eq_true,all_eq_true];constructor
 ·intro h b hb;obtain ⟨i,hi,rfl⟩:=List.mem_iff_getElem.mp hb;have:=h i (mem_range.mpr hi);simpa [hi] using this
 ·intro h i hi;have hi:=mem_range.mp hi;have:=h _ (List.getElem_mem hi);simpa [hi] using this
theorem A7i {bs:List Bool}:(List.range bs.length).any (λi=>bs.getD i false)=bs.any id:=by
 rw[zu,any_eq_true,any_eq_true];constructor
 ·rintro ⟨i,hi,h⟩;have hi:=mem_range.mp hi;exact ⟨_,List.getElem_mem hi,by simpa [hi] using h⟩
 ·rintro ⟨b,hb,h⟩;obtain ⟨i,hi,rfl⟩:=List.mem_iff_getElem.mp hb;exact ⟨i,mem_range.mpr hi,by simpa [hi] using h⟩
theorem A0j {prog:Program} {bs:List Bool}:TruthOf prog w A (λi v=>(bs.map Value.bool).toArray[i]?=some v) (λi=>bs.getD i false):=by
 intro i v s Q E hv hq;simp only[List.getElem?_toArray,qk] at hv;cases e:bs[i]? with
 | none=>rw[e] at hv;cases hv
 | some b =>
  rw[e] at hv;cases hv;have hq:Q (bs.getD i false) s:=hq;rw[List.getD_eq_getElem?_getD,e] at hq;exact wpAny_truthy_bool hq
theorem A4t (hc:X.calm=true):J2 X (.builtin "all") (λxs H Q=>∃ (a:Addr) (bs:List Bool),xs=[.ref a]/\O5 X.K H a (bs.map V.bl)/\Q (.bl (bs.all id)) H):=by
 intro pins s U H xs us Q I r h;obtain ⟨a,bs,rfl,hq,q⟩:=h;obtain ⟨u,rfl,r1⟩:=U0 r;cases r1;obtain ⟨its,rv,p,hz⟩:=I.list hq;cases A1s rv;refine call_all_walk (wpAny_pyIter_list p.isList ?_);have hne:a≠s.heap.objs.size:=by obtain ⟨o,n,e,_⟩:=p;exact ze (qi e)
 refine ⟨_,_,_,_,_,_,_,rfl,Walks.list (A:=X.A.in1) (I.ok.hd hc) s.heap.objs.size a hne _,⟨⟨_,ql _ rfl,rfl,rfl⟩,(p.keeps λb o e=>qa _ e).isList⟩,A0j,λh' tk k=>?_⟩;have e1:((bs.map Value.bool).toArray.size)=bs.length:=by simp
 rw[e1,B7f];refine ⟨.bl _,H,I.kept λb o e=>k b o ?_ (qa _ e),rfl,q⟩;simp only[zc];exact ze (qi e)
theorem A4q (hc:X.calm=true):J2 X (.builtin "any") (λxs H Q=>∃ (a:Addr) (bs:List Bool),xs=[.ref a]/\O5 X.K H a (bs.map V.bl)/\Q (.bl (bs.any id)) H):=by
 intro pins s U H xs us Q I r h;obtain ⟨a,bs,rfl,hq,q⟩:=h;obtain ⟨u,rfl,r1⟩:=U0 r;cases r1;obtain ⟨its,rv,p,hz⟩:=I.list hq;cases A1s rv;refine call_any_walk (wpAny_pyIter_list p.isList ?_);have hne:a≠s.heap.objs.size:=by obtain ⟨o,n,e,_⟩:=p;exact ze (qi e)
 refine ⟨_,_,_,_,_,_,_,rfl,Walks.list (A:=X.A.in1) (I.ok.hd hc) s.heap.objs.size a hne _,⟨⟨_,ql _ rfl,rfl,rfl⟩,(p.keeps λb o e=>qa _ e).isList⟩,A0j,λh' tk k=>?_⟩;have e1:((bs.map Value.bool).toArray.size)=bs.length:=by simp
 rw[e1,A7i];refine ⟨.bl _,H,I.kept λb o e=>k b o ?_ (qa _ e),rfl,q⟩;simp only[zc];exact ze (qi e)
end
def B5r (osc:Scope) (oN:List Str) (scope:Scope) (own:List Str) (cap:List (Str × Nat)):Bool :=
 scope.kind==.function&&decide ((scope.names.map (·.1)).Nodup)&&(scope.names.all λx=>x.2 != .local||scope.names.lookup x.1==some .local)
  && (scope.names.all λx=>x.2 != .free||(osc.names.lookup x.1==some .cell||osc.names.lookup x.1==some .free))
  && (cap.all λp=>oN[p.2]?==some p.1&&scope.names.contains (p.1,NameKind.free))
theorem C2.of {X:Cx} {scope:Scope} {own:List Str} (h:B5r X.env.scope X.N scope own cap=true):C2 X scope own cap:=by
 unfold B5r at h;simp only[zb,all_eq_true,beq_iff_eq,zq,Bool.or_eq_true,bne_iff_ne,ne_eq] at h;obtain ⟨⟨⟨⟨h1,h2⟩,h3⟩,h4⟩,h5⟩:=h;refine ⟨h1,h2,λx hx hk=>?_,λx hx hk=>?_,λp hp=>?_⟩
 ·rcases h3 x hx with z|z
  ·exact absurd hk z
  ·exact z
 ·rcases h4 x hx with z|z
  ·exact absurd hk z
  ·exact z
 ·obtain ⟨a,b⟩:=h5 p hp;exact ⟨a,by simpa using b⟩
section
variable {X:Cx} {e:Expr} {te:TE} {pos:Pos}
theorem E0z (i:Nat) {x:Str} (hN:X.N.Nodup) (he:PE X e te) (hi:X.N[i]?=some x:=by rfl) (hx:Loc X.env.scope x:=by first|exact Or.inl rfl|exact Or.inr rfl) (hs:swapsWith e (some (.Name x pos')) pos.line X.env=pure false:=by rfl)
  (hf:X.fn x=true\/X.env.scope.names.lookup x=some .local:=by first|exact .inl rfl|exact .inr rfl|assumption):PS X (.Assign [.Name x pos'] e pos) (B18 te (N1 i)):=D2n hN hi hx he hs hf
theorem pgn (i:Nat) {x:Str} (hN:X.N.Nodup) (hi:X.N[i]?=some x:=by rfl) (hx:Loc X.env.scope x:=by first|exact Or.inl rfl|exact Or.inr rfl) (hf:X.fn x=true\/X.env.scope.names.lookup x=some .local:=by first|exact .inl rfl|exact .inr rfl|assumption):PG X (.Name x pos) (N1 i):=C72 hN hi hx hf
end
structure Df (P:Program) (w:World) (K:W.Frag) (mg:Str->Option Value) (base:Heap) (x:Str) (ps:List Str) (k:Nat) (sp:Sp):Prop where
 ex:∃ f fd,I0 P w K mg base Z2 k f fd ps sp/\mg x=some (.ref f)/\W.keepIn K (.ref f)=true/\A3b K fd ps []
theorem D70 {X:Cx} {x:Str} {k:Nat} {p pos:Pos} {e:Expr} {es:List Expr} {t:TA} (D:Df X.prog X.w X.K X.mg X.base x ps k sp) (hr:O3 k X.A) (ha:PA X (e::es) t) (hg:Gl X x:=by rfl) (hdb:noD x:=by decide)
  (he:stE e es X.env:=by rfl) (hpl:stB pos es X.env:=by rfl):PE X (.Call (.Name x p) (e::es) [] pos) (B1v sp [] E0 t):=by
 obtain ⟨f,fd,F,hm,hk,hb⟩:=D.ex;exact B5d F hr hg hm hk hb .nil D6t ha hdb he hpl
section
variable {X:Cx} {o e:Expr} {to:TE} {te:TE} {apos cpos:Pos}
theorem B8x (ho:PE X o to) (he:PE X e te) (hs:starEach [e] X.env=[(false,eval e X.env)]) (hbase:attributeBase o "append" X.env (eval o X.env)=eval o X.env:=by rfl)
  (hline:(apos.endLine==cpos.line)=true:=by rfl):PE X (.Call (.Attribute o "append" apos) [e] [] cpos) (tBM X.K "list" A3u to (B1s te C45)) :=
 D03 PySem.F.plainAttrs_list PySem.F.slot_list_append PySem.F.type_list_append A6r ho (A9i he B4k hs) hbase (by rw[hs];rfl) hline hs rfl
end
theorem N2 (h:decide N.Nodup=true):N.Nodup:=of_decide_eq_true h
section
variable {X:Cx} {K:W.Frag}
theorem C6p (K:W.Frag) (n:Nat) (hK:X.K=K) {es:List Expr} {k:Nat} {t:TGs} {pos:Pos} (hc:X.calm=true) (h:PGs X es t) (hn:(assignEach es X.env).length=n) (hst:(assignEach es X.env).findIdx? (·.1)=none):PG X (.Tuple es k pos) (D50 K n t):=by
 subst hK;exact D4t hc h hn hst
variable {tg l:Expr} {tl:TE}
theorem C2a (K:W.Frag) (hK:X.K=K) (hl:PE X l tl):PI X tg l (C2n K tl):=by subst hK;exact C8u hl
theorem C90 (K:W.Frag) (hK:X.K=K) (hl:PE X l tl):PI X tg l (D29 K tl):=by subst hK;exact D1s hl
def E1q (K:W.Frag):List V->Hp->VK->Prop:=λxs H Q=>∃ p ys,xs=[.ref p]/\(O5 K H p ys\/V2 K H p ys)/\Q (.int ys.length) H
theorem B8k (K:W.Frag) (hK:X.K=K):J2 X (.builtin "len") (E1q K):=by subst hK;exact A87
def E2f (K:W.Frag):List V->Hp->VK->Prop:=λxs H Q=>∃ (a:Addr) (bs:List Bool),xs=[.ref a]/\O5 K H a (bs.map V.bl)/\Q (.bl (bs.all id)) H
def D84 (K:W.Frag):List V->Hp->VK->Prop:=λxs H Q=>∃ (a:Addr) (bs:List Bool),xs=[.ref a]/\O5 K H a (bs.map V.bl)/\Q (.bl (bs.any id)) H
def C7h (K:W.Frag):List V->Hp->VK->Prop:=λxs H Q=>∃ p ys,xs=[.ref p]/\(O5 K H p ys\/V2 K H p ys)/\∀ l,H l=none->Q (.ref l) (upd H l (.lst ys))
theorem B73 (K:W.Frag) (hK:X.K=K) (hc:X.calm=true):J2 X (.builtin "all") (E2f K):=by subst hK;exact A4t hc
theorem B82 (K:W.Frag) (hK:X.K=K) (hc:X.calm=true):J2 X (.builtin "any") (D84 K):=by subst hK;exact A4q hc
theorem B46 (K:W.Frag) (hK:X.K=K):J2 X (.type "list") (C7h K):=by subst hK;exact A83
theorem D3m (K:W.Frag) (hK:X.K=K) (hu:X.A.units+64 < cLine):U1 X (compareOp .Eq) (B9x K id):=by subst hK;exact D2j hu
theorem D5j (K:W.Frag) (hK:X.K=K) (hu:X.A.units+64 < cLine):U1 X (compareOp .NotEq) (B9x K not):=by subst hK;exact D0y hu
theorem D1p (K:W.Frag) (hK:X.K=K):U1 X (compareOp .In) (rIn K false):=by subst hK;exact B7r
theorem B89 (K:W.Frag) (hK:X.K=K):U1 X (compareOp .NotIn) (rIn K true):=by subst hK;exact A97
theorem B33 (K:W.Frag) (hK:X.K=K) {o e:Expr} {te:TE} (ho:PE X o to) (he:PE X e te) (hs:starEach [e] X.env=[(false,eval e X.env)]) (hbase:attributeBase o "append" X.env (eval o X.env)=eval o X.env)
  (hline:(apos.endLine==cpos.line)=true):PE X (.Call (.Attribute o "append" apos) [e] [] cpos) (tBM K "list" A3u to (B1s te C45)):=by subst hK;exact B8x ho he hs hbase hline
end
def D1c (e:Expr):Option Int:=match e with
 | .Constant (.int i) _ _=>some i
 | _=>none
theorem C5z {e:Expr} {i:Int} (h:D1c e=some i):∃ k p,e=.Constant (.int i) k p:=by
 unfold D1c at h;split at h
 ·cases h;exact ⟨_,_,rfl⟩
 ·cases h
def A5p:List Expr->Option (List Int)
 | []=>some []
 | e::r=>match D1c e,A5p r with
  | some i,some l=>some (i::l)
  | _,_=>none
theorem B5h {X:Cx}:∀ {es:List Expr} {ns:List Int},A5p es=some ns->PA X es (λ_ H Q=>Q (ns.map V.int) H)
 | [],ns,h=>by
  cases h;exact B4k
 | e::r,ns,h=>by
  unfold A5p at h;split at h
  ·rename_i i ms e1 e2;cases h;obtain ⟨k,p,rfl⟩:=C5z e1;exact A9i C11 (B5h e2) rfl
  ·cases h
theorem M6 {b:Bool} {A:Prop} (h1:b=true->A) (h2:b=false->B):if b=true then A else B:=by
 cases b
 ·rw[qo qt];exact h2 rfl
 ·rw[qm rfl];exact h1 rfl
theorem A9.put {p:Addr} (e:A9 H H') (h:H p=none):A9 H (upd H' p o):=λb o' hb=>by rw[B5 (P1 hb h)];exact e b o' hb
theorem A9.new {p:Addr} (h:H p=none):A9 H (upd H p o):=(A9.refl H).put h
theorem A9.gone {p:Addr} (e:A9 H H') (h:H' p=none):H p=none:=e.free h
theorem tyl {p:Addr} {xs:List V} (h:O5 K H p xs):tyV K "list" (.ref p) H:=.inl ⟨rfl,_,h⟩
structure QE (X:Cx) (e:Expr) (t:TE):Prop where
 h:PE X e t
structure QT (X:Cx) (e:Expr) (t:TT):Prop where
 h:PT X e t
structure QW (X:Cx) (e:Expr) (t:TT):Prop where
 h:PW X e t
structure QA (X:Cx) (e:List Expr) (t:TA):Prop where
 h:PA X e t
structure QS (X:Cx) (e:Stmt) (t:TS):Prop where
 h:PS X e t
structure QSs (X:Cx) (e:List Stmt) (t:TS):Prop where
 h:PSs X e t
structure QG (X:Cx) (e:Expr) (t:TG):Prop where
 h:PG X e t
structure QGs (X:Cx) (e:List Expr) (t:TGs):Prop where
 h:PGs X e t
structure QTs (X:Cx) (e:List Expr) (t:TT):Prop where
 h:PTs X e t
structure QO (X:Cx) (e:Option Expr) (t:TO):Prop where
 h:PO X e t
structure QI (X:Cx) (tg e:Expr) (t:TI):Prop where
 h:PI X tg e t
structure QB (Y:Cx) (elt:Expr) (gens:List Comprehension) (scope:Scope) (pos:Pos) (d:Nat) (acc:Addr) (tb:TS):Prop where
 h:PB Y elt gens scope pos d acc tb
theorem qpv (i:Nat) {x:Str} {pos:Pos} (hN:X.N[i]?=some x:=by rfl) (hv:Vis X.env.scope x:=by first|exact Or.inl rfl|exact Or.inr (Or.inl rfl)|exact Or.inr (Or.inr rfl)) (hd:noD x:=by decide) (hcd:(x==("__classdict__":Str))=false:=by decide):QE X (.Name x pos) (Z1 i):=⟨pv i hN hv hd hcd⟩
theorem B1o {x:Str} {v:V} {u:Value} {pos:Pos} (hg:Gl X x) (hm:X.mg x=none) (hv:bootBuiltins x=some u) (r:D0 v u) (hn:x≠"__name__":=by decide) (hd:noD x:=by decide):QE X (.Name x pos) (tC v):=⟨C81 hg hm hv r hn hd⟩
theorem D0l {b j pos}:QE X (.Constant (.bool b) j pos) (tC (.bl b)):=⟨C23 ⟩
theorem C5d {j pos}:QE X (.Constant .none j pos) (tC .non):=⟨D27 ⟩
theorem C52 {i j pos}:QE X (.Constant (.int i) j pos) (tC (.int i)):=⟨C11 ⟩
theorem B5u {x j pos}:QE X (.Constant (.str x) j pos) (tC (.str x)):=⟨D14 ⟩
theorem D2z {op:UnaryOp} {r:V->Hp->VK->Prop} (ho:UnR X (unaryOp op) r) (ha:QE X a ta):QE X (.UnaryOp op a pos) (tUn r ta):=⟨D6b ho ha.h⟩
theorem C6c (ha:QE X a ta):QE X (.UnaryOp .Not a pos) (C9y ta):=⟨D5p ha.h⟩
theorem D37 {op:Operator} {r:R2} (ho:U1 X (binaryOp op) r) (ha:QE X a ta) (hb:QE X b tb):QE X (.BinOp a op b pos) (tOp r ta tb):=⟨D91 ho ha.h hb.h⟩
theorem C6x {rest:List Expr} (ha:QE X a ta) (hb:QE X (.BoolOp .And (b::rest) pos) tb):QE X (.BoolOp .And (a::b::rest) pos) (C98 ta tb):=⟨D40 ha.h hb.h⟩
theorem C4w {op} {t:TE} (h:QE X a t):QE X (.BoolOp op [a] pos) t:=⟨D4m h.h⟩
theorem C42 {op:CmpOp} {r:R2} (ho:U1 X (compareOp op) r) (ha:QE X a ta) (hb:QE X b tb) (hm:behindInMarks op b=false):QE X (.Compare a [op] [b] pos) (tOp r ta tb):=⟨C61 ho ha.h hb.h hm⟩
theorem B4r {x1} (h:QA X es t):QE X (.Tuple es x1 pos) (D6e t):=⟨D1v h.h⟩
theorem C7m (h:QA X es t):QE X (.List es pos) (D8c t):=⟨D5e h.h⟩
theorem A2s {lo hi:Option Expr} {r:V->Option Int->Option Int->Hp->VK->Prop} (hr:SlR X r) (he:QE X e te) (hl:QO X lo tl) (hu:QO X hi th):QE X (.Subscript e (.Slice lo hi none p2) pos) (tSl r te tl th):=⟨C2f hr he.h hl.h hu.h⟩
theorem D28 {r:R2} (hr:IxR X r) (ha:QE X a ta) (hb:QE X b tb) (hs:A9l b):QE X (.Subscript a b pos) (tOp r ta tb):=⟨D8m hr ha.h hb.h hs⟩
theorem D2f {X:Cx} {x:Str} {k:Nat} {p pos:Pos} {e:Expr} {es:List Expr} {t:TA} (D:Df X.prog X.w X.K X.mg X.base x ps k sp) (hr:O3 k X.A) (ha:QA X (e::es) t) (hg:Gl X x:=by rfl) (hdb:noD x:=by decide) (he:stE e es X.env:=by rfl) (hpl:stB pos es X.env:=by rfl):QE X (.Call (.Name x p) (e::es) [] pos) (B1v sp [] E0 t):=⟨D70 D hr ha.h hg hdb he hpl⟩
theorem V3 {id:String} (hc:J2 X (.builtin id) r) (hg:Gl X x) (hm:X.mg x=none) (hv:bootBuiltins x=some (.builtin id)) (ha:QA X (e::es) t) (hn:x≠"__name__":=by decide) (hdb:noD x:=by decide) (he:stE e es X.env:=by rfl) (hpl:stB pos es X.env:=by rfl):QE X (.Call (.Name x p) (e::es) [] pos) (tCB r t):=⟨B9b hc hg hm hv ha.h hn hdb he hpl⟩
theorem B2p (hc:J2 X (.type T) r) (hg:Gl X x) (hm:X.mg x=none) (hv:bootBuiltins x=some (.type T)) (ha:QA X (e::es) t) (hn:x≠"__name__":=by decide) (hdb:noD x:=by decide) (he:stE e es X.env:=by rfl) (hpl:stB pos es X.env:=by rfl):QE X (.Call (.Name x p) (e::es) [] pos) (tCB r t):=⟨B76 hc hg hm hv ha.h hn hdb he hpl⟩
theorem B0s (K:W.Frag) (hK:X.K=K) {o e:Expr} {te:TE} (ho:QE X o to) (he:QE X e te) (hs:starEach [e] X.env=[(false,eval e X.env)]) (hbase:attributeBase o "append" X.env (eval o X.env)=eval o X.env) (hline:(apos.endLine==cpos.line)=true):QE X (.Call (.Attribute o "append" apos) [e] [] cpos) (tBM K "list" A3u to (B1s te C45)):=⟨B33 K hK ho.h he.h hs hbase hline⟩
theorem B8f (K:W.Frag) (hK:X.K=K) {tg l:Expr} {tl:TE} (hl:QE X l tl):QI X tg l (C2n K tl):=⟨C2a K hK hl.h⟩
theorem C0t (K:W.Frag) (hK:X.K=K) {tg l:Expr} {tl:TE} (hl:QE X l tl):QI X tg l (D29 K tl):=⟨C90 K hK hl.h⟩
theorem B3s {a:Expr} {ta:TA} {p pos:Pos} (hg:Gl X "range") (hm:X.mg "range"=none) (ha:QA X [a] ta) (hs:starEach [a] X.env=[(false,eval a X.env)]:=by rfl):QI X tg (.Call (.Name "range" p) [a] [] pos) (D0e ta):=⟨B8y hg hm ha.h hs⟩
theorem A11 (i:Nat) {x:Str} (hN:X.N.Nodup) (hi:X.N[i]?=some x:=by rfl) (hx:Loc X.env.scope x:=by first|exact Or.inl rfl|exact Or.inr rfl) (hf:X.fn x=true\/X.env.scope.names.lookup x=some .local:=by first|exact .inl rfl|exact .inr rfl|assumption):QG X (.Name x pos) (N1 i):=⟨pgn i hN hi hx hf⟩
theorem B1y (K:W.Frag) (n:Nat) (hK:X.K=K) {es:List Expr} {k:Nat} {t:TGs} {pos:Pos} (hc:X.calm=true) (h:QGs X es t) (hn:(assignEach es X.env).length=n) (hst:(assignEach es X.env).findIdx? (·.1)=none):QG X (.Tuple es k pos) (D50 K n t):=⟨C6p K n hK hc h.h hn hst⟩
theorem J8 {e:Expr} {es:List Expr} {t:TG} {u:TGs} (h1:QG X e t) (h2:QGs X es u) (hs:(assignEach (e::es) X.env).map (·.2)=assign e X.env::(assignEach es X.env).map (·.2):=by rfl):QGs X (e::es) (B9v t u):=⟨B9c h1.h h2.h hs⟩
theorem A0g :QGs X [] D4p:=⟨C5i ⟩
theorem C26 {op:CmpOp} {r:R2} (ho:U1 X (compareOp op) r) (ha:QE X a ta) (hb:QE X b tb) (hm:behindInMarks op b=false):QT X (.Compare a [op] [b] pos) (B59 (tOp r ta tb)):=⟨C5o ho ha.h hb.h hm⟩
theorem B8i {op:CmpOp} {r:R2} (ho:U1 X (compareOp op) r) (ho':U1 X (compareOp op') r') (ha:QE X a ta) (hb:QE X b tb) (hc:QE X c tc) (hm:lastMarks [op,op'] [b,c]=false:=by with_unfolding_all rfl):QT X (.Compare a [op,op'] [b,c] pos) (B59 (B3v r r' ta tb tc)):=⟨C25 ho ho' ha.h hb.h hc.h hm⟩
theorem D7a {X:Cx} {e:Expr} {t:TT} (h:QW X e t):QT X e t:=⟨PW.pt h.h⟩
theorem C5n {rest:List Expr} (ha:QT X a tA) (hb:QW X (.BoolOp .And (b::rest) pos) tB'):QW X (.BoolOp .And (a::b::rest) pos) (D3v tA tB'):=⟨D5a ha.h hb.h⟩
theorem B9f (ha:QT X a tA):QW X (.BoolOp .And [a] pos) tA:=⟨C7y ha.h⟩
theorem D1a {rest:List Expr} (ha:QT X a tA) (hb:QW X (.BoolOp .Or (b::rest) pos) tB'):QW X (.BoolOp .Or (a::b::rest) pos) (tOr tA tB'):=⟨D64 ha.h hb.h⟩
theorem C5g (ha:QT X a tA):QW X (.BoolOp .Or [a] pos) tA:=⟨D1z ha.h⟩
theorem C75 (ha:QT X a tA):QT X (.UnaryOp .Not a pos) (D7e tA):=⟨D4b ha.h⟩
theorem C83 {e:Expr} {t:TE} (h:QE X e t) (he:∀ whole,isTrue e X.env whole=(do let v <- whole;standAt e.pos;holding [v] (truthy v)):=by intro _;rfl):QT X e (tB t):=⟨D12 h.h he⟩
theorem B8l {st:Stmt} {rest:List Stmt} (h1:QS X st t) (h2:QSs X rest u):QSs X (st::rest) (D8d t u):=⟨C0k h1.h h2.h⟩
theorem B1u {st:Stmt} (h1:QS X st t):QSs X [st] t:=⟨C7g h1.h⟩
theorem C18 :QSs X [] C9n:=⟨C89 ⟩
theorem C6q (he:QE X e te):QS X (.Return (some e) pos) (D77 te):=⟨D59 he.h⟩
theorem B16 (he:QE X e te) (hs:swapsWith e none pos.line X.env=pure false:=by rfl):QS X (.Expr e pos) (C9e te):=⟨C4x he.h hs⟩
theorem D8o (i:Nat) {x:Str} (hN:X.N.Nodup) (he:QE X e te) (hi:X.N[i]?=some x:=by rfl) (hx:Loc X.env.scope x:=by first|exact Or.inl rfl|exact Or.inr rfl) (hs:swapsWith e (some (.Name x pos')) pos.line X.env=pure false:=by rfl) (hf:X.fn x=true\/X.env.scope.names.lookup x=some .local:=by first|exact .inl rfl|exact .inr rfl|assumption):QS X (.Assign [.Name x pos'] e pos) (B18 te (N1 i)):=⟨E0z i hN he.h hi hx hs hf⟩
theorem C8c {tg e:Expr} {te:TE} (he:QE X e te) (hg:QG X tg g) (hs:swapsWithSole [tg] e pos.line X.env=pure false:=by rfl) (hw:swappedStores [tg] e X.env=pure none:=by rfl) (h1:(assignEach [tg] X.env).map (·.2)=[assign tg X.env]:=by rfl):QS X (.Assign [tg] e pos) (B18 te g):=⟨D4a he.h hg.h hs hw h1⟩
theorem C6t {i:Nat} {x:Str} {e:Expr} {te:TE} {op:Operator} {ti:TIp} (hN:X.N.Nodup) (hi:X.N[i]?=some x) (hx:Loc X.env.scope x) (he:QE X e te) (ho:PIp X op ti) (hf:X.fn x=true\/X.env.scope.names.lookup x=some .local:=by first|exact .inl rfl|exact .inr rfl|assumption):QS X (.AugAssign (.Name x pos') op e pos) (D8f i te ti):=⟨D0j hN hi hx he.h ho hf⟩
theorem D23 {c:Expr} {a b:List Stmt} {tc:TT} (hc:QT X c tc) (ha:QSs X a t) (hb:QSs X b u):QS X (.If c a b pos) (D6h tc t u):=⟨D7v hc.h ha.h hb.h⟩
theorem A8z {tb:TS} {pos:Pos} (hp:PassesOwn (model X.prog X.w) X.A X.env X.xe) (hc:X.calm=true) (hi:QI X tg iter wi) (hg:QG X tg g) (hb:QSs X body tb) (hs:∀ x,foldedSetIterable iter X.env x=pure x:=by intro _;rfl):QS X (.For tg iter body [] pos) (C12 wi g tb):=⟨D38 hp hc hi.h hg.h hb.h hs⟩
theorem B90 {c:Expr} {tc:TT} {tb:TS} (hp:PassesOwn (model X.prog X.w) X.A X.env X.xe) (hc:QT X c tc) (hb:QSs X body tb):QS X (.While c body [] pos) (B9q tc tb):=⟨C3b hp hc.h hb.h⟩
theorem C4i {Y:Cx}:QTs Y [] (λ_ H Q=>Q true H):=⟨C6s ⟩
theorem B9j {Y:Cx} {c:Expr} {t:TT} (hc:QT Y c t):QTs Y [c] t:=⟨C5k hc.h⟩
theorem A5w {te:TE} (hg:gens[d+1]?=none) (hx:Y.xe=λ_ _=>False) (he:QE Y elt te):QB Y elt gens scope pos d acc (B0k acc te):=⟨C5j hg hx he.h⟩
theorem C55 {tg:Expr} {tb:TS} (hgd:gens[d+1]?=some ⟨tg,iter,ifs,0⟩) (hx:Y.xe=λ_ _=>False) (hc:Y.calm=true) (hs:∀ x,foldedSetIterable iter Y.env x=pure x) (hi:QI Y tg iter wi) (hg:QG Y tg g) (ht:QTs Y ifs ti) (hb:QB Y elt gens scope pos (d+1) acc tb):QB Y elt gens scope pos d acc (C12 wi g (A4n ti tb)):=⟨D1m hgd hx hc hs hi.h hg.h ht.h hb.h⟩
theorem K0 (ha:QE X e te) (hr:QA X es t) (hs:stE e es X.env:=by rfl):QA X (e::es) (B1s te t):=⟨A9i ha.h hr.h hs⟩
theorem T8 :QA X [] C45:=⟨B4k ⟩
theorem C3p :QO X none B5a:=⟨C7q ⟩
theorem B9l (h:QE X e te):QO X (some e) (D0a te):=⟨C70 h.h⟩
theorem C1d {X:Cx} {es:List Expr} {ns:List Int} (h:A5p es=some ns):QA X es (λ_ H Q=>Q (ns.map V.int) H):=⟨B5h h⟩
theorem B2w {X:Cx} {elt tg:Expr} {rest:List Comprehension} {scope:Scope} {pos:Pos} {tb:Addr->TS} (own:List Str) (cap:List (Str × Nat)) (hc:X.calm=true) (L:C2 X scope own cap) (hi:QI X tg iter wi)
  (hin:∀ (s₃:Shared) (H₃:Hp) (fp:List Addr) (acc:Addr),QG (X.inn scope (D2 own cap) s₃ H₃ fp) tg g/\QTs (X.inn scope (D2 own cap) s₃ H₃ fp) ifs ti/\QB (X.inn scope (D2 own cap) s₃ H₃ fp) elt (⟨tg,iter,ifs,0⟩::rest) scope pos 0 acc (tb acc))
  (hs:∀ x,foldedSetIterable iter X.env x=pure x:=by intro _;rfl):QE X (.ListComp elt (⟨tg,iter,ifs,0⟩::rest) scope pos) (tLC wi g ti tb own cap):=⟨D7h own cap hc L hi.h (λa b c d=>⟨(hin a b c d).1.h,(hin a b c d).2.1.h,(hin a b c d).2.2.h⟩) hs⟩
theorem B8w {X:Cx} {i:Nat} {elt tg:Expr} {rest:List Comprehension} {scope:Scope} {pos:Pos} {tb:Addr->TS} (own:List Str) (cap:List (Str × Nat)) (hN:X.N.Nodup) (hyi:X.N[i]?=some y) (hy:X.env.scope.names.lookup y=some .local) (hc:X.calm=true) (L:C2 X scope own cap) (hi:QI X tg iter wi)
  (hin:∀ (s₃:Shared) (H₃:Hp) (fp:List Addr) (acc:Addr),QG (X.inn scope (D2 own cap) s₃ H₃ fp) tg g/\QTs (X.inn scope (D2 own cap) s₃ H₃ fp) ifs ti/\QB (X.inn scope (D2 own cap) s₃ H₃ fp) elt (⟨tg,iter,ifs,0⟩::rest) scope pos 0 acc (tb acc))
  (hsw:swapsWith (.ListComp elt (⟨tg,iter,ifs,0⟩::rest) scope pos) (some (.Name y py)) spos.line X.env=pure true:=by rfl) (hs:∀ x,foldedSetIterable iter X.env x=pure x:=by intro _;rfl) :
  QS X (.Assign [.Name y py] (.ListComp elt (⟨tg,iter,ifs,0⟩::rest) scope pos) spos) (B18 (tLC wi g ti tb own cap) (N1 i)):=⟨C0v own cap hN hyi hy hc L hi.h (λa b c d=>⟨(hin a b c d).1.h,(hin a b c d).2.1.h,(hin a b c d).2.2.h⟩) hsw hs⟩
section
variable {X:Cx} {i o value:Expr} {ty td tv:TE} {pos pos':Pos}
theorem B8c:QE X (.Dict [] [] pos) C2s:=⟨C3w⟩
theorem A4p (hu:X.A.units+1 < cLine) (hi:QE X i ty) (ho:QE X o td) (hm:behindInMarks .NotIn o=false):QT X (.Compare i [.NotIn] [o] pos) (tB (A4b ty td)):=⟨C2h (B81 hu hi.h ho.h) hm⟩
theorem B52 (hu:X.A.units+1 < cLine) (hi:QE X i ty) (ho:QE X o td) (hm:behindInMarks .In o=false):QT X (.Compare i [.In] [o] pos) (tB (C4e ty td)):=⟨C2h (C0m hu hi.h ho.h) hm⟩
theorem C5h (hu:X.A.units+1 < cLine) (hi:QE X i ty) (ho:QE X o td) (hm:behindInMarks .In o=false):QE X (.Compare i [.In] [o] pos) (C4e ty td):=⟨D44 (C0m hu hi.h ho.h) hm⟩
theorem B0p (hu:X.A.units+1 < cLine) (ho:QE X o td) (hi:QE X i ty) (hv:QE X value tv) (hs:swapsWith value (some (.Subscript o i pos')) pos.line X.env=pure false):QS X (.Assign [.Subscript o i pos'] value pos) (B64 td ty tv):=⟨C6h hu ho.h hi.h hv.h hs⟩
theorem A4y (hu:X.A.units+1 < cLine) (ho:QE X o td) (hi:QE X i ty) (hs:B7m i):QE X (.Subscript o i pos) (D08 td ty):=⟨C79 hu ho.h hi.h hs⟩
end
section
variable {X:Cx}
theorem C8h:U1 X (binaryOp .Mult) (rI IntMulOk λi j=>.int (i*j)):=opI λ_ _ _ _ _ _ _ hc q=>mul_int q hc
end
def TrX (h base:Heap) (e:Addr) (cls a0 fl:Value):Prop :=
 ∃ oe vs T oT ts,h.get? e=some oe/\(oe.cls=cls/\vs[0]?=some a0/\vs[2]?=some .none)/\oe.data=.fields vs/\vs[1]?=some (.ref T)/\base.get? T=none/\T≠e/\h.get? T=some oT/\oT.data=.fields ts/\ts[3]?=some fl
def A0f (base:Heap) (l:List Env) (e:Addr) (cls a0:Value) (h:Heap):Prop:=base.StaysIn h/\base.get? e=none/\h.FunFrames base l/\TrX h base e cls a0 .none
def D02 (base:Heap) (l:List Env) (e:Addr) (cls a0:Value) (L:Addr) (h:Heap):Prop:=base.StaysIn h/\base.get? e=none/\h.FunFrames base l/\TrX h base e cls a0 (rawInt L)
theorem A0f.own {base h:Heap} {l:List Env} {e:Addr} (x:A0f base l e cls a0 h):∃ oe vs,h.get? e=some oe/\oe.cls=cls/\oe.data=.fields vs/\vs[2]?=some .none :=
 let ⟨_,_,_,oe,vs,_,_,_,he,hc,hd,_⟩:=x;⟨oe,vs,he,hc.1,hd,hc.2.2⟩
section
variable {M:Model} {A:Around} {E:Value->Shared->Prop} {s:Shared} {base:Heap} {env:Env} {outer l:List Env} {L e:Addr} {oe:Obj} {vs:Array Value} {cls a0:Value} {Q:Unit->Shared->Prop}
theorem C4a {head:Value} {nx:Bool} (hfr:A.frames=some (env::outer)) (hl:s.heap.FunFrames base (env::outer)) (hf:env.frame=some L)
  (he:s.heap.get? e=some oe) (hkb:base.StaysIn s.heap) (hen:base.get? e=none) (hd:oe.data=.fields vs) (hsz:1 < vs.size) (h0:vs[0]?=some a0) (h2:vs[2]?=some .none)
  (h:∀ h',base.StaysIn h'->h'.FunFrames base (env::outer)->TrX h' base e oe.cls a0 (rawInt L)->s.heap.UpToSlots h'->Q () { s with heap:=h' }) :
  wpAny M A (do setField (.ref e) 1 (<- EntryCells.newEntry head (<- frameOf env) .none (rawInt L) .none (<- entryPlaceOf L nx))) Q E s:=by
 have nf:e∉(env::outer).filterMap (·.frame):=λz=>by
  obtain ⟨_,o,q,n⟩:=hl.mem z;rw[he] at q;cases q;exact n vs hd
 refine qb (wpAny_frameOf_fun hfr hl hf λh1 k1=>?_);refine qb (wpAny_entryPlaceOf λpl hp=>?_);unfold EntryCells.newEntry newFields;refine qb (wpAny_newObj_type ?_ (hp.sizeOk5 _ _ _ _ _));generalize ho:({ cls:=.type "traceback",dict:=none,data:=.fields ([head,.ref L,.none,rawInt L,.none]++(if pl.isEmpty then List.replicate 6 Value.none else pl)).toArray }:Obj)=oT;have e1:h1.get? e=some oe:=(k1.2.1 e nf).trans he;have b1:base.StaysIn h1:=λb o q=>(k1.2.1 b λz=>by rw[(hl.mem z).1] at q;cases q).trans (hkb b o q);have ne:h1.objs.size≠e:=Nat.ne_of_gt (qi e1);have e2:(h1.push oT).get? e=some oe:=qa oT e1;have d3:=Obj.data_mapFields hd (·.setIfInBounds 1 (Value.ref h1.objs.size));refine wpAny_setField e2 hd hsz ?_;have t2:(h1.push oT).get? h1.objs.size=some oT:=by rw[<-ho];exact ql _ rfl
 have keep:∀ b o,b≠e->h1.get? b=some o->((h1.push oT).update e (Obj.mapFields (·.setIfInBounds 1 (Value.ref h1.objs.size)))).get? b=some o:=λb o hb q=>by
  rw[zt _ _ (Ne.symm hb)];exact qa _ q
 have noe:∀ b o,s.heap.get? b=some o->(∀ ws,o.data≠.fields ws)->b≠e:=λb o q n z=>by
  rw[z,he] at q;cases q;exact n vs hd
 have up:∀ b o,s.heap.get? b=some o->(∀ ws,o.data≠.fields ws)->∃ sl,((h1.push oT).update e (Obj.mapFields (·.setIfInBounds 1 (Value.ref h1.objs.size)))).get? b=some { o with slots:=sl }:=λb o q n=>by
  obtain ⟨sl,z⟩:=k1.2.2 b o q;exact ⟨sl,keep b _ (noe b o q n) z⟩
 refine h _ (λb o q=>keep b o (λz=>by rw[z,hen] at q;cases q) (b1 b o q)) (hl.of_keeps λb o q n=>?_) ?_ up
 ·obtain ⟨sl,z⟩:=up b o q n;exact ⟨_,z,rfl⟩
 ·refine ⟨_,_,h1.objs.size,oT,_,Heap.get?_update_self _ e2 (Obj.isFreed_of_fields d3),⟨Obj.cls_mapFields _ _,?_,?_⟩,d3,by simp[hsz],b1.fresh,ne,?_,by rw[<-ho],?_⟩
  ·rw[Array.getElem?_setIfInBounds_ne (by decide)];exact h0
  ·rw[Array.getElem?_setIfInBounds_ne (by decide)];exact h2
  ·rw[zt _ _ (Ne.symm ne)];exact t2
  ·first|(simp;done)|(rcases hp with rfl|⟨_,_,_,_,_,_,_,rfl⟩<;>simp)
theorem C4h (hfr:A.frames=some (env::outer)) (hl:s.heap.FunFrames base (env::outer)) (hf:env.frame=some L)
  (he:s.heap.get? e=some oe) (hkb:base.StaysIn s.heap) (hen:base.get? e=none) (hd:oe.data=.fields vs) (h0:vs[0]?=some a0) (h2:vs[2]?=some .none)
  (h1:vs[1]?=some .none\/∃ T oT ts,vs[1]?=some (.ref T)/\base.get? T=none/\T≠e/\s.heap.get? T=some oT/\oT.data=.fields ts/\ts[3]?=some .none)
  (h:∀ h',base.StaysIn h'->h'.FunFrames base (env::outer)->TrX h' base e oe.cls a0 (rawInt L)->s.heap.UpToSlots h'->Q () { s with heap:=h' }):wpAny M A (noteFrame (.ref e) env) Q E s:=by
 unfold noteFrame;simp only[hf];rcases h1 with h1|⟨T,oT,ts,h1,bT,nT,hT,dT,t3⟩
 ·refine qb (wpAny_field he hd h1 ?_);rw[qo (by decide)];exact C4a hfr hl hf he hkb hen hd (zl.mp h1).1 h0 h2 h
 ·refine qb (wpAny_field he hd h1 ?_);rw[qm (show (Value.ref T != Value.none)=true from by simp)];refine qb (wpAny_field hT dT t3 ?_);rw[qo (show ¬ ((Value.none==rawInt L)=true) from by simp[rawInt])];refine qb (wpAny_setField hT dT (zl.mp t3).1 ?_);have oth:∀ b,b≠T->(s.heap.update T (Obj.mapFields (·.setIfInBounds 3 Value.none))).get? b=s.heap.get? b:=λb hb=>zt _ _ (Ne.symm hb);have noT:∀ b o,s.heap.get? b=some o->(∀ ws,o.data≠.fields ws)->b≠T:=λb o q n z=>by
   rw[z,hT] at q;cases q;exact n ts dT
  refine C4a hfr (hl.of_keeps λb o q n=>⟨o,(oth b (noT b o q n)).trans q,rfl⟩) hf ((oth e (Ne.symm nT)).trans he) (λb o q=>(oth b λz=>by rw[z,bT] at q;cases q).trans (hkb b o q)) hen hd (zl.mp h1).1 h0 h2 λh' x1 x2 x3 x4=>?_;exact h h' x1 x2 x3 λb o q n=>x4 b o ((oth b (noT b o q n)).trans q) n
theorem A3s {fl:Value} (hkb:base.StaysIn s.heap) (hl:s.heap.FunFrames base l) (ht:TrX s.heap base e cls a0 fl)
  (h:∀ h',base.StaysIn h'->h'.FunFrames base l->TrX h' base e cls a0 .none->s.heap.UpToSlots h'->Q () { s with heap:=h' }):wpAny M A (setFlight (.ref e) none) Q E s:=by
 obtain ⟨oe,vs,T,oT,ts,he,hc,hd,h1,bT,nT,hT,dT,t3⟩:=ht;have oth:∀ b,b≠T->(s.heap.update T (Obj.mapFields (·.setIfInBounds 3 ((none:Option Addr).elim Value.none λf=>rawInt f)))).get? b=s.heap.get? b:=λb hb=>zt _ _ (Ne.symm hb);have noT:∀ b o,s.heap.get? b=some o->(∀ ws,o.data≠.fields ws)->b≠T:=λb o q n z=>by
  rw[z,hT] at q;cases q;exact n ts dT
 have z3:3 < ts.size:=(zl.mp t3).1;unfold setFlight;refine qb (wpAny_field he hd h1 ?_);rw[qm (show (Value.ref T != Value.none)=true from by simp)];refine wpAny_setField hT dT z3 (h _ (λb o q=>(oth b λz=>by rw[z,bT] at q;cases q).trans (hkb b o q)) (hl.of_keeps λb o q n=>⟨o,(oth b (noT b o q n)).trans q,rfl⟩) ?_ λb o q n=>⟨o.slots,(oth b (noT b o q n)).trans q⟩);exact ⟨oe,vs,T,_,_,(oth e (Ne.symm nT)).trans he,hc,hd,h1,bT,nT,Heap.get?_update_self _ hT (Obj.isFreed_of_fields (Obj.data_mapFields dT _)),Obj.data_mapFields dT _,by simp[z3]⟩
theorem B2q (hfr:A.frames=some (env::outer)) (hf:env.frame=some L) (fl:A0f base (env::outer) e cls a0 s.heap)
  (hQ:∀ h',A0f base outer e cls a0 h'->s.heap.UpToSlots h'->Q () { s with heap:=h' }):wpAny M A (leaving env (.ref e)) Q E s:=by
 obtain ⟨f1,f2,f3,oe,vs,T,oT,ts,he,⟨rfl,h0,h2⟩,hd,h1,r⟩:=fl;unfold leaving;refine qb (C4h hfr f3 hf he f1 f2 hd h0 h2 (.inr ⟨T,oT,ts,h1,r⟩) λh' x1 x2 x3 x4=>?_);refine A3s (s:={ s with heap:=h' }) x1 x2 x3 λh'' y1 y2 y3 y4=>?_;obtain ⟨_,_,y2⟩:=y2;exact hQ h'' ⟨y1,f2,y2,y3⟩ (x4.trans y4)
theorem A8i {h:Heap} {args:List Value} (hfr:A.frames=some (env::outer)) (hf:env.frame=some L) (hkb:base.StaysIn h) (hl:h.FunFrames base (env::outer)) (hx:Heap.MadeExcOf h s.heap e cls args)
  (hQ:∀ h' t,A0f base outer e cls (.ref t) h'->h'.TupAt t args->base.get? t=none->s.heap.UpToSlots h'->Q () { s with heap:=h' }):wpAny M A (leaving env (.ref e)) Q E s:=by
 obtain ⟨t,he,htn,ht⟩:=hx.there;have fresh:∀ b,h.get? b=none->base.get? b=none:=λb hb=>by
  cases q:base.get? b with
  | none=>rfl
  | some o=>have:=hkb b o q;rw[hb] at this;cases this
 unfold leaving;refine qb (C4h (a0:=.ref t) hfr (hl.of_keeps λb o q _=>⟨o,hx.keeps b o q,rfl⟩) hf he (λb o q=>hx.keeps b o (hkb b o q)) (fresh e hx.new) rfl rfl rfl (.inl rfl) λh' x1 x2 x3 x4=>?_);refine A3s (s:={ s with heap:=h' }) x1 x2 x3 λh'' y1 y2 y3 y4=>?_;obtain ⟨_,_,y2⟩:=y2;exact hQ h'' t ⟨y1,fresh e hx.new,y2,y3⟩ (Heap.TupAt.of_slots ⟨_,_,ht,rfl,rfl⟩ (x4.trans y4)) (fresh t htn) (x4.trans y4)
theorem A6f (hfr:A.frames=some (env::outer)) (hf:env.frame=some L) (fl:A0f base (env::outer) e cls a0 s.heap)
  (hQ:∀ h',D02 base (env::outer) e cls a0 L h'->s.heap.UpToSlots h'->Q () { s with heap:=h' }):wpAny M A (noteFrame (.ref e) env) Q E s:=by
 obtain ⟨f1,f2,f3,oe,vs,T,oT,ts,he,⟨rfl,h0,h2⟩,hd,h1,r⟩:=fl;exact C4h hfr f3 hf he f1 f2 hd h0 h2 (.inr ⟨T,oT,ts,h1,r⟩) λh' x1 x2 x3 x4=>hQ h' ⟨x1,f2,x2,x3⟩ x4
theorem C1u (hh:D02 base l e cls a0 L s.heap) (hQ:∀ h',A0f base l e cls a0 h'->s.heap.UpToSlots h'->Q () { s with heap:=h' }):wpAny M A (setFlight (.ref e) none) Q E s :=
 A3s hh.1 hh.2.2.1 hh.2.2.2 λh' x1 x2 x3 x4=>hQ h' ⟨x1,hh.2.1,x2,x3⟩ x4
theorem A24 (hh:A0f base l e cls a0 s.heap) (hQ:∀ h',A0f base l e cls a0 h'->s.heap.UpToSlots h'->Q () { s with heap:=h' }):wpAny M A (setFlight (.ref e) none) Q E s :=
 A3s hh.1 hh.2.2.1 hh.2.2.2 λh' x1 x2 x3 x4=>hQ h' ⟨x1,hh.2.1,x2,x3⟩ x4
end
open PySem.Calls
def A7g (oe:Obj):Prop:=∃ ws,oe.data=.fields ws/\ws[2]?=some .none
def XOf (oe:Obj) (C:Addr):Prop:=oe.cls=.ref C/\A7g oe
theorem A6a:entryFor table "proto.unchain"=some Builtin.«proto.unchain»:=entryFor_of_fast (by kernel_rfl)
section
variable {prog:Program} {w:World} {A:Around} {E:Value->Shared->Prop} {s:Shared} {ea it l:Addr} {oe:Obj}
theorem B48 {α:Type} {a:Addr} {ox:Obj} {vs:Array Value} {Q:α->Shared->Prop} (hh:A.handled=some (.ref ea)) (he:s.heap.get? ea=some oe) (hn:A7g oe) (hne:a≠ea) (ha:s.heap.get? a=some ox) (hd:ox.data=.fields vs) (hz:2 < vs.size)
  (h:E (.ref a) { s with heap:=s.heap.update a (Obj.mapFields (·.setIfInBounds 2 (.ref ea))) }):wpAny (model prog w) A (raiseNew (α:=α) (.ref a)) Q E s:=by
 obtain ⟨ws,w1,w2⟩:=hn;unfold raiseNew;refine qb (wpAny_handled ?_);rw[hh];dsimp only;rw[qm (show (Value.ref ea != Value.ref a)=true by simp;exact λz=>hne z.symm)];refine qb (wpAny_holding (wpAny_runValue (codeAny_builtin A6a ?_)));unfold Builtin.«proto.unchain»;show wpAny _ _ (field (.ref ea) 2 >>= _) _ _ s;refine qb (wpAny_field he w1 w2 ?_);rw[qm (by rfl)];refine qc ?_;show wpAny (model prog w) A (updateField a 2 (.ref ea) >>= λ_=>throw (.ref a)) Q E s;unfold updateField;refine qb (qb (wpAny_load ha ?_));rw[hd];dsimp only;rw[qm hz];exact wpAny_update ha (wpAny_throw h)
theorem B6s {i:Nat} (hh:A.handled=some (.ref ea)) (he:s.heap.get? ea=some oe) (hn:A7g oe) (hne:ea≠it)
  (hit:s.heap.IsListIter it l i) (hl:s.heap.IsList l items) (hx:items[i]?=none)
  (hQ:∀ h',Heap.ExtBut it s.heap h'->Q none {s with heap:=h' }):wpAny (model prog w) A (pyNext (.ref it)) Q E s:=by
 obtain ⟨o,ho,hc,hd⟩:=id hit;obtain ⟨ol,hol,_,nl,hdl⟩:=hl;unfold pyNext;refine qb (wpAny_attempt (wpAny_callSpecial?_slot (name:=Str.ofString "__next__") hit.typeIs slot_listiter_next
  (wpAny_call_entry slot_listiter_next hit.typeIs entry_listiter_next ?_ (args_listiter_next _))))
 show wpAny _ _ (field (.ref it) 0 >>= _) _ _ s;refine qb (wpAny_field ho hd (x:=.ref l) rfl ?_);show wpAny _ _ (if (Value.ref l==Value.none)=true then _ else _) _ _ s;rw[qo (show ¬ ((Value.ref l==Value.none)=true) from qt)];show wpAny _ _ (field (.ref it) 1 >>= _) _ _ s;refine qb (wpAny_field ho hd (x:=.int i 0) rfl ?_);show wpAny _ _ (seqItems? (.ref l) >>= _) _ _ s;refine qb (wpAny_seqItems hol hdl ?_);simp only[Int.toNat_natCast,hx];refine qb (wpAny_rule (qb (wpAny_setField ho hd (by simp) ?_)));show wpAny _ _ (newExc (.type "StopIteration") [] >>= _) _ _ _;refine qb ?_;simp only[newExc,newTuple];refine qb (wpAny_newObj_type ?_ (by size_fits));refine qb (m:=firstArgMember _ _) (wpAny_of_eq (a:=Value.none) (by first|rfl|(simp only[firstArgMember];rfl)) ?_);refine wpAny_newObj_type ?_ (by size_fits);have k0:=(Heap.SameBut.update s.heap it (Obj.mapFields (·.setIfInBounds 0 Value.none))).extBut;generalize s.heap.update it (Obj.mapFields (·.setIfInBounds 0 Value.none))=h1 at k0 ⊢;have k2:=(k0.push { cls:=.type "tuple",dict:=none,data:=.seq [].toArray }) ;refine B48 (A:=A.in1) hh (qa _ (k2 ea oe hne he)) hn (λz=>?_) (ql _ rfl) rfl (by simp;lia) ?_
 ·exact ze (qi (k2 ea oe hne he)) z.symm
 ·refine qb (wpAny_isInstance (T:="StopIteration") (b:=true) ⟨_,Heap.get?_update_self _ (ql _ rfl) rfl,rfl⟩ isSubtype_stop ?_);refine qc (hQ _ λb o hb q=>?_);have q2:=k2 b o hb q;rw[Heap.get?_update_ne _ _ _ _ (ze (qi q2))];exact qa _ q2
theorem B1w (hh:A.handled=some (.ref ea)) (hn:A7g oe) (I:Addr) (hne:l≠I) (hne2:ea≠I) (items:Array Value) :
  Walks prog w A I [I,l,ea] [I] items.size (λi v=>items[i]?=some v) (λi h=>h.IsListIter I l i/\h.IsList l items/\h.get? ea=some oe) where
 sub:=λb hb=>by simp at hb;simp[hb]
 frame:=λ_ _ _ st hk=>⟨st.1.at λo e=>hk I (by simp) o e,st.2.1.at λo e=>hk l (by simp) o e,hk ea (by simp) _ st.2.2⟩
 item:=λi s Q E hi st hQ=>by
  refine wpAny_pyNext_list_item st.1 st.2.1 (x:=items[i]) (by simp[hi]) λh' hit' hs'=>?_;exact hQ _ h' s.toks (by simp[hi]) ⟨hit',st.2.1.extBut hs'.extBut hne,hs'.extBut ea _ hne2 st.2.2⟩ λb o hb e=>hs'.extBut b o (λh=>hb (by simp[h])) e
 done:=λs Q E st hQ=>B6s hh st.2.2 hn hne2 st.1 st.2.1 (by simp) λh' he'=>hQ h' s.toks λb o hb e=>he' b o (λh=>hb (by simp[h])) e
 self:=λ_ _ _ _ st hQ=>wpAny_pyIter_listiter st.1 hQ
end
section
variable {X:Cx}
theorem B8q (K:W.Frag) (hK:X.K=K) (hp:(ea,oe)∈X.pn) (hn:A7g oe) (hh:X.A.handled=some (.ref ea)):J2 X (.builtin "any") (D84 K):=by
 subst hK;intro pins s U H xs us Q I r h;obtain ⟨a,bs,rfl,hq,q⟩:=h;obtain ⟨u,rfl,r1⟩:=U0 r;cases r1;obtain ⟨its,rv,p,hz⟩:=I.list hq;cases A1s rv;obtain ⟨p1,_⟩:=I.pin (ea,oe) (qz _ hp);refine call_any_walk (wpAny_pyIter_list p.isList ?_);have hne:a≠s.heap.objs.size:=by obtain ⟨o,n,e,_⟩:=p;exact ze (qi e)
 have hne2:ea≠s.heap.objs.size:=ze (qi p1);refine ⟨_,_,_,_,_,_,_,rfl,B1w (A:=X.A.in1) hh hn s.heap.objs.size hne hne2 _,⟨⟨_,ql _ rfl,rfl,rfl⟩,(p.keeps λb o e=>qa _ e).isList,qa _ p1⟩,A0j,λh' tk k=>?_⟩;have e1:((bs.map Value.bool).toArray.size)=bs.length:=by simp
 rw[e1,A7i];refine ⟨.bl _,H,I.kept λb o e=>k b o ?_ (qa _ e),rfl,q⟩;simp only[zc];exact ze (qi e)
end
theorem E5.there {h:Heap} {a:Addr} (x:E5 P w H h a o):∃ ob,h.get? a=some ob:=by
 cases o with
 | lst xs=>obtain ⟨_,_,_,_,e⟩:=x;exact ⟨_,e⟩
 | tup xs=>obtain ⟨_,_,_,o,e,_⟩:=x;exact ⟨_,e⟩
 | dK kvs=>obtain ⟨_,_,_,_,o,_,_,e,_⟩:=x;exact ⟨_,e⟩
 | dT kvs=>obtain ⟨_,_,_,_,o,_,_,e,_⟩:=x;exact ⟨_,e⟩
 | set S n=>obtain ⟨o,_,_,_,e,_⟩:=x;exact ⟨_,e⟩
 | ins C dx fs=>obtain ⟨_,_,_,e,_⟩:=x;exact ⟨_,e⟩
 | own y=>obtain ⟨_,e⟩:=x;exact ⟨_,e⟩
 | xd fs=>obtain ⟨_,⟨_,_,_,e,_⟩,_⟩:=x;exact ⟨_,e⟩
 | rng lo hi=>obtain ⟨_,_,_,e⟩:=x;exact ⟨_,e⟩
 | frz ob u=>obtain ⟨e,_⟩:=x;exact ⟨_,e⟩
 | tbl ps=>exact ⟨_,(show h.get? a=some _ from x)⟩
 | met f y=>exact ⟨_,(show h.get? a=some _ from x)⟩
 | ext φ=>obtain ⟨_,⟨_,e⟩,_⟩:=x;exact ⟨_,e⟩
def Fly (base:Heap) (l:List Env) (ea:Addr) (cls:Value) (H:Hp) (h0 h:Heap):Prop :=
 ∃ (B:Heap) (a0:Value),base.StaysIn B/\A0f B l ea cls a0 h/\∀ b,B.get? b=none->b∉frs l->(∃ o,h.get? b=some o)->h0.get? b=none/\H b=none
def CXE (P:Program) (w:World) (base:Heap):CXT:=λouter H s E e s' =>
 ∃ (ea:Addr) (cls:Value) (H':Hp),e=.ref ea/\s'.os=s.os/\AllBare s'.gens/\Un (frs outer) [] H H' s.heap s'.heap/\HOk P w H' s'.heap/\Fly base outer ea cls H' s.heap s'.heap/\E cls none H'
section
variable {X:Cx} {pins:List (Addr × Obj)} {U:St} {H:Hp} {s:Shared}
theorem B6.in0 (I:B6 X pins U H s) (hex:X.ex=[]) {b:Addr} (h:s.heap.get? b=none):X.s₀.heap.get? b=none:=by
 cases q:X.s₀.heap.get? b with
 | none=>rfl
 | some o =>
  obtain ⟨o',e⟩:=I.base.there b o q (by rw[hex];simp);rw[h] at e;cases e
theorem A1l {B:Heap} {E:XK} (I:B6 X pins U H s) (hex:X.ex=[]) (hst:X.stack=X.env::X.outer) (hf:X.env.frame=some X.env.locals)
  (hb:X.base.StaysIn B) (hB:B.StaysIn s.heap) (fl:A0f B X.outer ea cls a0 h') (up:s.heap.UpToSlots h')
  (pr:∀ b,B.get? b=none->b∉frs X.stack->(∃ o,s.heap.get? b=some o)->X.s₀.heap.get? b=none/\H b=none) (hE:E cls none H) :
  CXE X.prog X.w X.base X.outer X.H₀ X.s₀ E (.ref ea) { s with heap:=h' }:=by
 have hB':B.StaysIn h':=fl.1;have inB:∀ b o,s.heap.get? b=some o->b∉frs X.stack->(X.s₀.heap.get? b≠none\/H b≠none)->B.get? b=some o:=by
  intro b o e hb hp;cases q:B.get? b with
  | some o'=>have:=hB b o' q;rw[e] at this;rw[this]
  | none =>
   obtain ⟨h1,h2⟩:=pr b q hb ⟨o,e⟩;rcases hp with z|z
   ·exact absurd h1 z
   ·exact absurd h2 z
 have L0:∀ b o,X.s₀.heap.get? b=some o->b≠X.env.locals:=λb o e=>ze (qr (qi e) I.ok.above);have fsS:frs X.stack=X.env.locals::X.fs:=by rw[hst];unfold frs;rw[List.filterMap_cons,hf];rfl
 have nS:∀ b o,X.s₀.heap.get? b=some o->b∉X.fs->b∉frs X.stack:=λb o e hb z=>by
  rw[fsS] at z;rcases zk.mp z with z|z
  ·exact L0 b o e z
  ·exact hb z
 have hx0:∀ b:Addr,b∉X.ex:=λb=>by rw[hex];simp
 refine ⟨ea,cls,H,rfl,I.os,I.bare,⟨λb o e n hbf _=>?_,λb o e n hbf _=>?_,λb o e n _=>I.base.free b o e n (hx0 b),λb o e _=>?_,I.base.tups,I.base.frzs,I.base.tbls⟩,λb u e=>?_,⟨B,a0,hb,fl,λb hbn hbf he=>?_⟩,hE⟩
 ·exact hB' b o (inB b o (I.base.keep b o e n hbf (hx0 b)) (nS b o e hbf) (.inl (by rw[e];simp)))
 ·obtain ⟨sl,q⟩:=I.base.slot b o e n hbf (hx0 b);obtain ⟨_,o',q',nf⟩:=I.funs.mem hbf;rw[q] at q';cases q';obtain ⟨sl',q''⟩:=up b _ q nf;exact ⟨sl',q''⟩
 ·obtain ⟨o',q⟩:=I.base.there b o e (hx0 b);by_cases hbf:b∈X.fs
  ·obtain ⟨_,o'',q',nf⟩:=I.funs.mem hbf;rw[q] at q';cases q';obtain ⟨sl',q''⟩:=up b _ q nf;exact ⟨_,q''⟩
  ·exact ⟨o',hB' b o' (inB b o' q (nS b o e hbf) (.inl (by rw[e];simp)))⟩
 ·refine (I.hok b u e).stay (λc v hc q=>?_) (λ_ q=>q) (λ_ _ q=>q);have hcn:H c≠none:=by
   rcases hc with z|z
   ·rw[z,e];simp
   ·rw[z];simp
  exact hB' c v (inB c v q (λz=>hcn (I.stkFree c z)) (.inr hcn))
 ·obtain ⟨o,e⟩:=he;cases q:s.heap.get? b with
  | some ob =>
   by_cases hL:b=X.env.locals
   ·rw[hL];exact ⟨Heap.get?_none_of_le I.ok.above,I.free⟩
   ·refine pr b hbn (λz=>?_) ⟨ob,q⟩;rw[fsS] at z;rcases zk.mp z with z|z
    ·exact hL z
    ·exact hbf z
  | none =>
   refine ⟨I.in0 hex q,?_⟩;cases z:H b with
   | none=>rfl
   | some u =>
    obtain ⟨ob,q'⟩:=E5.there (I.hok b u z);rw[q] at q';cases q'
end
def A44 (X:Cx) (E:XK):Prop:=∀ (pins:List (Addr × Obj)) (U:St) (H:Hp) (s:Shared) (ea:Addr) (cls:Value) (vs:List Value) (h':Heap),B6 X pins U H s->Heap.MadeExcOf s.heap h' ea cls vs->E cls none H->X.xe (.ref ea) { s with heap:=h' }
section
variable {P:Program} {w:World} {K:W.Frag} {mg:Str->Option Value} {base:Heap} {N:List Str} {qual:Str} {scope:Scope} {f:Addr} {cd:Value} {A:Around} {outer:List Env} {s0:Shared} {H0:Hp} {E:XK}
theorem P4:A44 (Z5 (CXE P w base) P w K mg base N qual scope f cd A outer s0 H0 E) E:=by
 intro pins U H s ea cls vs h' I hx hE;have hin:∀ env∈(Z5 (CXE P w base) P w K mg base N qual scope f cd A outer s0 H0 E).stack,∀ b,env.frame=some b->b∈frs (Z5 (CXE P w base) P w K mg base N qual scope f cd A outer s0 H0 E).stack:=λenv he b hb=>List.mem_filterMap.mpr ⟨env,he,hb⟩;show wpAny _ _ (leaving _ _) _ _ _;refine A8i (base:=W.hideAll s.heap (frs (Z5 (CXE P w base) P w K mg base N qual scope f cd A outer s0 H0 E).stack)) (h:=s.heap) I.ok.frames rfl (λb o q=>W.of_hideAll _ q) (W.funFrames_hide I.stack hin) hx λh'' t fl tup bt up=>?_;refine A1l I rfl rfl rfl (λb o e=>W.hideAll_get _ (I.bk b o e) λhm=>?_) (λb o q=>W.of_hideAll _ q) fl ((Heap.UpToSlots.of_keeps hx.keeps).trans up) (λb hbn hbf he=>?_) hE
 ·have:=(I.stack.mem hm).1;rw[show (Z5 (CXE P w base) P w K mg base N qual scope f cd A outer s0 H0 E).base.get? b=some o from e] at this;cases this
 ·obtain ⟨o,e⟩:=he;rw[W.hideAll_get _ e hbf] at hbn;cases hbn
theorem B4x:A1r (CXE P w base) (Z5 (CXE P w base) P w K mg base N qual scope f cd A outer s0 H0 E) E:=by
 rintro pins U H s e s' I ⟨ea,cls,H',rfl,os,bare,un,hok,⟨B,a0,hb,fl,pr⟩,hE⟩;have I':=I.call' (ch:=[]) os un hok bare (λ_ z=>nomatch z);show wpAny _ _ (leaving _ _) _ _ _;refine B2q I.ok.frames rfl fl λh' fl' up=>?_;refine A1l I' rfl rfl rfl hb fl.1 fl' up (λb h1 h2 h3=>?_) hE;obtain ⟨q1,q2⟩:=pr b h1 h2 h3;exact ⟨I.in0 rfl q1,q2⟩
end
abbrev bmV:List Value:=[.type "ValueError",.type "Exception",.type "BaseException",.type "object"]
structure W4 (K:W.Frag) (mg:Str->Option Value) (x:Str) (C:Addr):Prop where
 mgx:mg x=some (.ref C)
 exc:W.excIn K C bmV "ValueError.__new__"=true
theorem W4.own {x:Str} {h:Heap} (c:W4 K mg x C) (X:K.In h):OwnCls x C bmV "ValueError.__new__" mg h:=by
 obtain ⟨hm,hq⟩:=c;refine ⟨hm,?_⟩;unfold W.excIn at hq;split at hq
 case h_2=>cases hq
 case h_1 dk cdk slk hok =>
  split at hq
  case h_2=>cases hq
  case h_1 Ck bk a0 a1 a2 a3 nk a5 hmro hsl =>
   rw[zb,zb,zb,zb,zb,beq_iff_eq,beq_iff_eq,beq_iff_eq] at hq;obtain ⟨⟨⟨⟨⟨e1,e2⟩,e3⟩,e4⟩,e5⟩,e6⟩:=hq;have e3:cdk.hasDel=false:=by simpa using e3
   have hok':=X _ _ hok;cases e1;cases e2;cases cdk with
   | mk x1 x2 x3 x4 x5 x6 x7 x8 x9 x10 x11 =>
    cases slk with
    | mk lk =>
     cases hmro;cases e3;cases hsl;exact ⟨_,_,_,_,_,_,_,_,_,_,_,_,_,_,_,_,_,hok',Heap.Ns.of_isNs (W.isNs_of_in X e5),W.nsMap_none_of_in X e5 e6,W.tail_of_in X e4⟩
section
variable {X:Cx} {pos np cpos:Pos} {x:Str} {C:Addr} {E:XK} {e0:Expr} {es:List Expr} {ta:TA}
def C2p (C:Addr) (E:XK) (ta:TA):TS:=λ_ U H=>ta U H λvs H1=>vs.length<=sizeLine/\E (.ref C) none H1
theorem C13 (hx:A44 X E) (hc:X.calm=true) (c:W4 X.K X.mg x C) (hg:Gl X x) (ha:PA X (e0::es) ta) (hdb:noD x:=by decide)
  (he:stE e0 es X.env:=by rfl) (hpl:stB cpos es X.env:=by rfl) :
  PS X (.Raise (some (.Call (.Name x np) (e0::es) [] cpos)) none pos) (C2p C E ta):=by
 intro pins s U H D I h;obtain ⟨tl,N,nm,q,bs,hdct,sn,sub,ab,col,dd,k0,k1,k2,k3,k5,mN,hC,hN,hni,T⟩:=(c.own I.mod.kin).obj;refine wpAny_Raise_call_subU (C:=C) (nm:=nm) (q:=q) (N:=N) (bs:=bs) (bm:=tl) (hdct:=hdct) (sn:=sn) (sub:=sub) (ab:=ab) (col:=col) (dd:=dd) (k0:=k0) (k1:=k1) (k2:=k2) (k3:=k3) (k5:=k5) PySem.F.excBase_ValueError (by decide +kernel) PySem.F.excBase_ValueError (mN:=mN) (T.hasType (by decide +kernel)) (I.ok.hd hc) ?_ hni (U2 I hg c.mgx ⟨rfl,?_⟩ hdb)
 ·rw[he];show (false||(backTo cpos (starEach es X.env)).any (·.1))=false;rw[hpl];rfl
 have ha':=ha cpos pins s U H _ I h;rw[he] at ha' ⊢;refine Calls.evalArgs_plain (E1 ha' λus s1 ⟨vs,H1,I1,r1,hl,q1⟩=>?_);exact ⟨rfl,by rw[<-r1.length];exact hl,I1.bk _ _ hC,hN.keeps I1.bk,T.keeps I1.bk,λh' e hm=>hx pins U H1 s1 e (.ref C) us h' I1 hm q1⟩
end
structure DfE (P:Program) (w:World) (K:W.Frag) (mg:Str->Option Value) (base:Heap) (x:Str) (ps:List Str) (k:Nat) (sp:Sp):Prop where
 ex:∃ f fd,I0 P w K mg base (CXE P w base) k f fd ps sp/\mg x=some (.ref f)/\W.keepIn K (.ref f)=true/\A3b K fd ps []
theorem D1l {X:Cx} {x:Str} {k:Nat} {p pos:Pos} {e:Expr} {es:List Expr} {t:TA} {E:XK} (D:DfE X.prog X.w X.K X.mg X.base x ps k sp) (hx:A1r (CXE X.prog X.w X.base) X E) (hr:O3 k X.A) (ha:PA X (e::es) t) (hg:Gl X x:=by rfl) (hdb:noD x:=by decide)
  (he:stE e es X.env:=by rfl) (hpl:stB pos es X.env:=by rfl):PE X (.Call (.Name x p) (e::es) [] pos) (B1v sp [] E t):=by
 obtain ⟨f,fd,F,hm,hk,hb⟩:=D.ex;exact B5d F hr hg hm hk hb .nil hx ha hdb he hpl
theorem PS.nox {X:Cx} {st:Stmt} {t:TS} (h:PS X.nox st t):PS X st t:=λpins s U H D I hw =>
 jc (h pins s U H D (I.wish _) hw) (λ_ _ q=>q.unwish) λ_ _ z=>False.elim z
theorem W2.okE {base:Heap} {x qual:Str} {st:Stmt} {f:Addr} {fd:FuncData} {k:Nat} (F:W2 K x qual st f fd) (S:C0 N ps (B1 st)) (len:∀ vs H Q E,sp vs H Q E->vs.length=ps.length)
  (hbody:∀ (cdv:Value) (A:Around) (outer:List Env) (s:Shared) (H:Hp) (vs:List V) (Q:VK) (E:XK),O3 k (A.deeper (envOfC qual (B1 st) s.heap.objs.size f cdv))->sp vs H Q E ->
   ∃ t,PSs (Z5 (CXE P w base) P w K mg base N qual (B1 st) f cdv A outer s H E) (M8 st) t/\t {nx:=λ_ H'=>Q .non H',rt:=Q } (start N vs) H):I0 P w K mg base (CXE P w base) (k+1) f fd ps sp:=by
 obtain ⟨oc,od,kV,doc,pm,an,cdv,ct,osl,rfl,lk,hcd⟩:=F.ex;exact C9s lk hcd S len λA outer s H vs Q E hr hsp=>hbody cdv A outer s H vs Q E hr hsp
section
variable {X:Cx}
variable {e:Expr} {pos:Pos}
theorem qnT {t:TT} (h:QT X.nox e t):QT X e t:=⟨h.h.nox⟩
theorem qnS {e:Stmt} {t:TS} (h:QS X.nox e t):QS X e t:=⟨h.h.nox⟩
theorem B7l {x:Str} {E:XK} {es:List Expr} {ta:TA} (hx:A44 X E) (hc:X.calm=true) (c:W4 X.K X.mg x C) (hg:Gl X x) (ha:QA X (e0::es) ta) (hdb:noD x:=by decide)
  (he:stE e0 es X.env:=by rfl) (hpl:stB cpos es X.env:=by rfl) :
  QS X (.Raise (some (.Call (.Name x np) (e0::es) [] cpos)) none pos) (C2p C E ta):=⟨C13 hx hc c hg ha.h hdb he hpl⟩
theorem C7n {x:Str} {k:Nat} {p:Pos} {es:List Expr} {t:TA} {E:XK} (D:DfE X.prog X.w X.K X.mg X.base x ps k sp) (hx:A1r (CXE X.prog X.w X.base) X E) (hr:O3 k X.A) (ha:QA X (e::es) t) (hg:Gl X x:=by rfl) (hdb:noD x:=by decide)
  (he:stE e es X.env:=by rfl) (hpl:stB pos es X.env:=by rfl):QE X (.Call (.Name x p) (e::es) [] pos) (B1v sp [] E t):=⟨D1l D hx hr ha.h hg hdb he hpl⟩
end
structure A1f (K:W.Frag) (C R:Addr):Prop where
 sub:W.kitCls K (.ref C) (.ref R)=some true
 exc:W.subIn K (.ref R) (.type "BaseException")=some true
theorem A3a {h:Heap} {g:Array GenState} {d:Drawn} {tk:Nat} {os:OsState} {e:Addr} {Q:Bool->Shared->Prop} (X:K.In h) (he:h.get? e=some oe) (hcls:oe.cls=.ref C)
  (k:A1f K C R) (hq:Q true ⟨h,g,d,tk,os⟩):wpAny M A (excMatches (.ref e) (.ref R)) Q E ⟨h,g,d,tk,os⟩:=by
 obtain ⟨l1,l2,l3⟩:=W.kit_cls (M:=M) X k.sub;have l4:=W.looks_subIn (M:=M) X k.exc;have f:=tc_notTuple;unfold excMatches isInstance isExcClass
 repeat (first|with_reducible refine W.Looks.at l1 ?_|with_reducible refine W.Looks.at l2 ?_|with_reducible refine W.Looks.at l3 ?_|with_reducible refine W.Looks.at l4 ?_|(with_reducible refine wpAny_loadPart_at he ?_;rw[hcls])|wp_step)
 exact hq
abbrev Cx.within (X:Cx) (ea:Addr) (oe:Obj):Cx:={ X with A:=X.A.mark (some (.ref ea)),calm:=false,pn:=X.pn++[(ea,oe)],xe:=λ_ _=>False }
theorem Cx.Ok.within {X:Cx} (ok:X.Ok) (ea:Addr) (oe:Obj):(X.within ea oe).Ok :=
 ⟨ok.mod,ok.kind,ok.glob,ok.blt,ok.above,ok.inj,ok.has,ok.cab,(λz=>nomatch z),ok.frames,ok.stk,ok.exf,ok.bs,ok.bsz,ok.noex,ok.exfs,ok.funs,ok.frf⟩
def A10 (X:Cx) (pins:List (Addr × Obj)) (B:Heap) (H:Hp) (h:Heap):Prop :=
 ∀ b,B.get? b=none->b∉frs X.stack->(∃ o,h.get? b=some o)->X.s₀.heap.get? b=none/\H b=none/\∀ p∈X.pn++pins,p.1≠b
structure A5j (X:Cx):Prop where
 ex:X.ex=[]
 st:X.stack=X.env::X.outer
 fr:X.env.frame=some X.env.locals
section
variable {X:Cx} {pins:List (Addr × Obj)} {U:St} {H:Hp} {s:Shared}
theorem B6.within {ws:Array Value} (I:B6 X pins U H s) (he:s.heap.get? ea=some oe) (hd:oe.data=.fields ws) (hH:H ea=none) (hL:ea≠X.env.locals) (hF:ea∉X.fs):B6 (X.within ea oe) pins U H s :=
 ⟨I.ok.within ea oe,I.os,I.bare,I.base,I.loc,I.cell,I.free,I.freeC,λp hp=>by
  rcases zj.mp hp with hp|hp
  ·rcases zj.mp hp with hp|hp
   ·exact I.pin p (qz _ hp)
   ·obtain rfl:p=(ea,oe):=by simpa using hp
    exact ⟨he,hH,hL,hF,λv z=>by rw[hd] at z;cases z⟩
  ·exact I.pin p (qw _ hp),I.hok,I.len⟩
theorem B6.without (ok:X.Ok) (I:B6 (X.within ea oe) pins U H s):B6 X pins U H s :=
 ⟨ok,I.os,I.bare,I.base,I.loc,I.cell,I.free,I.freeC,λp hp=>I.pin p (by
  rcases zj.mp hp with hp|hp
  ·exact qz _ (qz _ hp)
  ·exact qw _ hp),I.hok,I.len⟩
theorem A5j.fs (F:A5j X):frs X.stack=X.env.locals::X.fs:=by rw[F.st];unfold frs;rw[List.filterMap_cons,F.fr];rfl
theorem B6.fly {B:Heap} (I:B6 X pins U H s) (F:A5j X) (hb:X.base.StaysIn B) (hB:B.StaysIn s.heap) (fl:A0f B X.stack ea cls a0 h') (up:s.heap.UpToSlots h') (pr:A10 X pins B H s.heap) :
  B6 X pins U H { s with heap:=h' }:=by
 have fl':A0f B X.outer ea cls a0 h':=by
  obtain ⟨k1,k2,k3,k4⟩:=fl;rw[F.st] at k3;obtain ⟨_,_,k3⟩:=k3;exact ⟨k1,k2,k3,k4⟩
 obtain ⟨_,_,H',_,_,_,un,hok,_,eH⟩:=A1l (E:=λ_ _ H'=>H'=H) I F.ex F.st F.fr hb hB fl' up (λb h1 h2 h3=>let ⟨q1,q2,_⟩:=pr b h1 h2 h3;⟨q1,q2⟩) rfl;subst eH;have cellK:∀ c v,s.heap.IsCell c v->h'.IsCell c v:=λc v ⟨o,ho,hd⟩=>by
  obtain ⟨sl,e⟩:=up c o ho (λvs z=>by rw[hd] at z;cases z);exact ⟨_,e,hd⟩
 refine ⟨I.ok,I.os,I.bare,by rw[F.ex];exact un,?_,λx c e=>?_,I.free,I.freeC,λp hp=>?_,hok,I.len⟩
 ·obtain ⟨m,hn,hl⟩:=I.loc;refine ⟨m,up.ns hn,λi x v e1 e2 e3=>?_⟩;obtain ⟨u,r,q⟩:=hl i x v e1 e2 e3;refine ⟨u,r,?_⟩;rcases q with q|⟨k,c,e,z⟩
  ·exact .inl q
  ·exact .inr ⟨k,c,e,cellK c _ z⟩
 ·obtain ⟨v,z⟩:=I.cell x c e;exact ⟨v,cellK c v z⟩
 ·obtain ⟨e,n,ne,nf,d⟩:=I.pin p hp;refine ⟨?_,n,ne,nf,d⟩;cases q:B.get? p.1 with
  | some o' =>
   have:=hB _ _ q;rw[e] at this;cases this;exact fl.1 _ _ q
  | none =>
   have:=(pr p.1 q (λz=>by rw[F.fs] at z;rcases zk.mp z with z|z;exact ne z;exact nf z) ⟨_,e⟩).2.2 p hp;exact absurd rfl this
theorem A10.fly {B:Heap} (I:B6 X pins U H s) (F:A5j X) (pr:A10 X pins B H s.heap):A10 X pins B H h':=λb h1 h2 _=>by
 cases q:s.heap.get? b with
 | some o=>exact pr b h1 h2 ⟨o,q⟩
 | none =>
  refine ⟨I.in0 F.ex q,?_,λp hp z=>?_⟩
  ·cases z:H b with
   | none=>rfl
   | some u=>obtain ⟨ob,q'⟩:=E5.there (I.hok b u z);rw[q] at q';cases q'
  ·have:=(I.pin p hp).1;rw[z,q] at this;cases this
theorem A3y {B h:Heap} (F:A5j X) (fl:A0f B X.stack ea cls a0 h) (pr:A10 X pins B H h):∃ oe ws,h.get? ea=some oe/\oe.cls=cls/\oe.data=.fields ws/\H ea=none/\ea≠X.env.locals/\ea∉X.fs/\A7g oe:=by
 obtain ⟨oe,ws,e,c,d,d2⟩:=fl.own;have nf:ea∉frs X.stack:=λz=>by
  obtain ⟨_,o,q,n⟩:=fl.2.2.1.mem z;rw[e] at q;cases q;exact n ws d
 refine ⟨oe,ws,e,c,d,(pr ea fl.2.1 nf ⟨oe,e⟩).2.1,λz=>nf (by rw[F.fs,z];exact qu),λz=>nf (by rw[F.fs];exact qv _ z),ws,d,d2⟩
end
def XPr (X:Cx) (pins:List (Addr × Obj)) (U:St) (E:XK) (e:Value) (s':Shared):Prop :=
 ∃ (ea:Addr) (cls:Value) (H':Hp) (B:Heap) (a0:Value),e=.ref ea/\B6 X pins U H' s'/\X.base.StaysIn B/\A0f B X.stack ea cls a0 s'.heap/\A10 X pins B H' s'.heap/\E cls none H'
abbrev TEX:=St->Hp->VK->XK->Prop
abbrev TSX:=V7->(St->XK)->St->Hp->Prop
structure PEX (X:Cx) (e:Expr) (t:TEX):Prop where
 h:∀ (pins:List (Addr × Obj)) (s:Shared) (U:St) (H:Hp) (Q:VK) (E:XK),B6 X pins U H s->t U H Q E->wpAny (model X.prog X.w) X.A (eval e X.env) (EP X pins U Q) (XPr X pins U E) s
structure PSX (X:Cx) (st:Stmt) (t:TSX):Prop where
 h:∀ (pins:List (Addr × Obj)) (s:Shared) (U:St) (H:Hp) (D:V7) (E:St->XK),B6 X pins U H s->t D E U H->wpAny (model X.prog X.w) X.A (exec st X.env) (SP X pins D) (λe s'=>∃ U',XPr X pins U' (E U') e s') s
structure D3e (X:Cx) (st:List Stmt) (t:TSX):Prop where
 h:∀ (pins:List (Addr × Obj)) (s:Shared) (U:St) (H:Hp) (D:V7) (E:St->XK),B6 X pins U H s->t D E U H->wpAny (model X.prog X.w) X.A (execs st X.env) (SP X pins D) (λe s'=>∃ U',XPr X pins U' (E U') e s') s
section
variable {X:Cx}
def D6q (sp:Sp) (t:TA):TEX:=λU H Q E=>t U H λvs H1=>sp vs H1 Q E
def D85 (ta:TE) (tb:TEX):TEX:=λU H Q E=>ta U H λx H1=>tb U H1 (λy H2=>∀ p,H2 p=none->Q (.ref p) (upd H2 p (.tup [x,y]))) E
def E1i (te:TEX):TSX:=λD E U H=>te U H D.rt (E U)
def xIf (tc:TT) (a b:TSX):TSX:=λD E U H=>tc U H λd H1=>if d=true then a D E U H1 else b D E U H1
variable {pos:Pos} {e:Expr}
theorem C0p {x:Str} {k:Nat} {p:Pos} {es:List Expr} {t:TA} (D:DfE X.prog X.w X.K X.mg X.base x ps k sp) (F:A5j X) (hr:O3 k X.A) (ha:QA X.nox (e::es) t) (hg:Gl X x:=by rfl) (hdb:noD x:=by decide)
  (he:stE e es X.env:=by rfl) (hpl:stB pos es X.env:=by rfl):PEX X (.Call (.Name x p) (e::es) [] pos) (D6q sp t):=⟨by
 intro pins s U H Q E I h;obtain ⟨f,fd,G,hm,hk,hb⟩:=D.ex;refine wpAny_Call_Name_kw (U2 I hg hm ?_ hdb);refine W.callWith_K (h₀:=X.base) I.ok.mod.kin hk (jc (ha.h pos pins s U H _ (I.wish _) h) (λus s1 q=>?_) λ_ _ z=>False.elim z) he hpl;obtain ⟨vs,H1,I1,r,q⟩:=q;have I1:=I1.unwish;refine ⟨I1.kIn,?_⟩;have hl:us.length=ps.length:=by rw[<-r.length];exact G.len _ _ _ _ q
 have hbs:=hb s1 us I1.kIn (by rw[append_nil];exact hl);rw[append_nil] at hbs;refine wpAny_call (codeAny_mono (G.run X.A X.stack s1 H1 ⟨us,[]⟩ us vs Q E hr I1.env0 hbs r q) λr s' hq=>?_);cases r with
 | ok fl =>
  cases fl with
  | ret u=>exact I1.after hq
  | next=>exact False.elim hq
  | brk=>exact False.elim hq
  | cont=>exact False.elim hq
 | error e =>
  obtain ⟨ea,cls,H',rfl,os,bare,un,hok,⟨B,a0,hb,fl,pr⟩,hE⟩:=hq;have I':=I1.call' (ch:=[]) os un hok bare (λ_ z=>nomatch z);refine ⟨ea,cls,H',B,a0,rfl,I',hb,fl,λb h1 h2 h3=>?_,hE⟩;obtain ⟨q1,q2⟩:=pr b h1 h2 h3;refine ⟨I1.in0 F.ex q1,q2,λp hp z=>?_⟩;have:=(I1.pin p hp).1;rw[z,q1] at this;cases this⟩
theorem C0d {a b:Expr} {ta:TE} {tb:TEX} {x1} (ha:QE X.nox a ta) (hb:PEX X b tb) (hs:starEach [a,b] X.env=[(false,eval a X.env),(false,eval b X.env)]:=by rfl):PEX X (.Tuple [a,b] x1 pos) (D85 ta tb):=⟨by
 intro pins s U H Q E I h;refine wpAny_Tuple_spliced ?_;rw[hs];show wpAny _ _ (spliced ((false,eval a X.env)::backTo pos [(false,eval b X.env)])) _ _ s;refine Calls.spliced_cons (jc (ha.h pins s U H _ (I.wish _) h) (λu s1 q=>?_) λ_ _ z=>False.elim z);obtain ⟨x,H1,I1,r1,q1⟩:=q;show wpAny _ _ (spliced ((false,eval b X.env)::backTo pos [])) _ _ s1;refine Calls.spliced_cons (jc (hb.h pins s1 U H1 _ E I1.unwish q1) (λv s2 q=>?_) λ_ _ z=>z);obtain ⟨y,H2,I2,r2,q2⟩:=q;refine Calls.spliced_nil ⟨by show 2<=sizeLine;decide,?_⟩;have hf:H2 s2.heap.objs.size=none:=I2.hok.fresh (qp _);refine ⟨.ref s2.heap.objs.size,upd H2 s2.heap.objs.size (.tup [x,y]),I2.laid (t':=s2.toks) (λb u e=>qa _ e) (qp _) ?_,rfl,q2 _ hf⟩;exact ⟨by show 2<=sizeLine;decide,[u,v],.cons r1 (.cons r2 .nil),⟨_,ql _ rfl,rfl,_,rfl⟩⟩⟩
theorem C7c {te:TEX} (h:PEX X e te):PSX X (.Return (some e) pos) (E1i te):=⟨λpins s U H D E I hw =>
 wpAny_Return_some (jc (h.h pins s U H _ _ I hw) (λv s1 ⟨x,H1,I1,r1,q1⟩=>⟨x,U,H1,I1,r1,q1⟩) λ_ _ z=>⟨U,z⟩)⟩
theorem C3r {st:Stmt} {t:TSX} (h1:PSX X st t):D3e X [st] t:=⟨λpins s U H D E I h=>by
 refine wpAny_execs_cons (E1 (h1.h pins s U H D E I h) λf s1 q=>?_);cases f with
 | next =>
  obtain ⟨U',H',I',q⟩:=q;exact wpAny_execs_nil ⟨U',H',I',q⟩
 | ret v=>exact q
 | brk=>exact q
 | cont=>exact q⟩
end
structure ExK (K:W.Frag) (C:Addr):Prop where
 ga:W.findIn K (.ref C) "__getattribute__"=some (some (.builtin "BaseException.__getattribute__"))
 cl:W.findIn K (.ref C) "__class__"=some (some (.builtin "object.__class__"))
 gg:W.findIn K (.ref C) "__getattr__"=some none
 ob:W.subIn K (.ref C) (.type "object")=some true
 be:W.subIn K (.ref C) (.type "BaseException")=some true
 se:W.kitCls K (.ref C) (.ref C)=some true
section
variable {K:W.Frag} {prog:Program} {w:World} {A:Around} {E:Value->Shared->Prop} {h:Heap} {g:Array GenState} {d:Drawn} {t:Nat} {os:OsState} {a C:Addr} {o:Obj}
theorem D4v {R:Result->Shared->Prop} (X:K.In h) (k:ExK K C) (hx:h.get? a=some o) (hc:o.cls=.ref C) (hq:R (.ok (.ret (.ref C))) ⟨h,g,d,t,os⟩) :
  codeAny (model prog w) A (.call (.builtin "getset_descriptor.__get__") ⟨[.builtin "object.__class__",.ref a,.ref C],[]⟩) R ⟨h,g,d,t,os⟩:=by
 have l1:=W.looks_subIn (M:=model prog w) X k.ob;have e1:=F.owner_object_class;have hT5:(⟨h,g,d,t,os⟩:Shared).TypeIs (.builtin "object.__class__") "getset_descriptor":=F.typeOf_object_class;refine codeAny_call_builtin F.slot_gs_get.plain F.entry_gs_get (F.slot_gs_get.check _ _ _ _ _ _ _ _ hT5 (F.args_gs_get _ _ _) ?_)
 repeat (any_goals (first|assumption|(with_reducible refine wpAny_loadPart_at hx ?_;rw[hc])|with_reducible refine W.Looks.at l1 ?_|rw[e1]|wp_step))
 refine ⟨Code.quiet_builtin _ (by decide +kernel),codeAny_builtin F.entry_object_class ?_⟩
 repeat (any_goals (first|assumption|(with_reducible refine wpAny_loadPart_at hx ?_;rw[hc])|wp_step))
theorem C0q {tk:Tok} {Q:Fin->Shared->Prop} (X:K.In h) (k:ExK K C) (hx:h.get? a=some o) (hc:o.cls=.ref C) (hq:Q (.done (.ret (.ref C))) ⟨h,g,d,t,os⟩) :
  wpAny (model prog w) A (Builtin.«object.__getattribute__» ⟨[.ref a,.str "__class__" tk],[]⟩) Q E ⟨h,g,d,t,os⟩:=by
 have l1:=W.looks_findIn (M:=model prog w) X k.cl;have hT5:(⟨h,g,d,t,os⟩:Shared).TypeIs (.builtin "object.__class__") "getset_descriptor":=F.typeOf_object_class;have f5:=F.typeOf_object_class;have f6:=F.slot_gs_get.lookup;have f7:=F.slot_gs_set.lookup
 repeat (any_goals (first|assumption|(with_reducible refine wpAny_loadPart_at hx ?_;rw[hc])|with_reducible refine W.Looks.at l1 ?_|wp_step))
 refine D4v X k hx hc ?_
 repeat (any_goals (first|assumption|wp_step))
theorem C4d {nameV:Value} {Q:Unit->Shared->Prop} (X:K.In h) (k:ExK K C) (hx:h.get? a=some o) (hc:o.cls=.ref C) (hq:Q () ⟨h,g,d,t,os⟩) :
  wpAny (model prog w) A (checkBuiltinCall "BaseException.__getattribute__" ⟨[.ref a,nameV],[]⟩) Q E ⟨h,g,d,t,os⟩:=by
 have l1:=W.looks_subIn (M:=model prog w) X k.be;have kd:builtinKind "BaseException.__getattribute__"=some .slot:=by decide +kernel
 have sp:splitId "BaseException.__getattribute__"=some ("BaseException","__getattribute__"):=by decide +kernel
 have ar:=F.args_bexc_ga (.ref a) nameV;simp only[checkBuiltinCall,kd,sp];refine qb ?_;unfold isInstance
 repeat (first|(with_reducible refine wpAny_loadPart_at hx ?_;rw[hc])|with_reducible refine W.Looks.at l1 ?_|wp_step)
 exact hq
theorem C6z {tk:Tok} {R:Result->Shared->Prop} (X:K.In h) (k:ExK K C) (hx:h.get? a=some o) (hc:o.cls=.ref C) (hq:R (.ok (.ret (.ref C))) ⟨h,g,d,t,os⟩) :
  codeAny (model prog w) A (.call (.builtin "BaseException.__getattribute__") ⟨[.ref a,.str "__class__" tk],[]⟩) R ⟨h,g,d,t,os⟩ :=
 codeAny_call_builtin PySem.F.attr_ValueError.ga.plain F.entry_bexc_ga (C4d X k hx hc (C0q X k hx hc hq))
theorem D7t {tk:Tok} {Q:Value->Shared->Prop} (X:K.In h) (k:ExK K C) (hx:h.get? a=some o) (hc:o.cls=.ref C) (hq:Q (.ref C) ⟨h,g,d,t,os⟩) :
  wpAny (model prog w) A (getAttrBy (.ref a) (.str "__class__" tk) false) Q E ⟨h,g,d,t,os⟩:=by
 have l1:=W.looks_findIn (M:=model prog w) X k.ga;have l2:=W.looks_findIn (M:=model prog w) X k.gg;have f3:=PySem.F.attr_ValueError.ga.bind (.ref a);have hx2:(Value.builtin "BaseException.__getattribute__"==Value.builtin "object.__getattribute__")=false:=by decide +kernel
 have hx1:(onTheHeap (Value.ref C)&&Value.builtin "BaseException.__getattribute__"==Value.builtin "object.__getattribute__")=false:=by rw[hx2];rfl
 repeat (any_goals (first|assumption|(with_reducible refine wpAny_loadPart_at hx ?_;rw[hc])|with_reducible refine W.Looks.at l1 ?_|with_reducible refine W.Looks.at l2 ?_|wp_step))
 refine C6z X k hx hc ?_
 repeat (any_goals (first|assumption|wp_step))
theorem C8k (X:K.In h) (k:ExK K C) (hx:h.get? a=some o) (hc:o.cls=.ref C) (hq:Q (some (.ref C)) ⟨h,g,d,t+1,os⟩) :
  wpAny (model prog w) A (getAttr? (.ref a) "__class__") Q E ⟨h,g,d,t,os⟩:=by
 unfold getAttr? getAttrBy?
 repeat (any_goals (first|assumption|with_reducible apply D7t X k hx hc|wp_step))
theorem A4j {x:Str} (c:W4 K mg x C) (k:ExK K C):W.KitX K (.ref a) (.ref C) (λh=>∃ o,h.get? a=some o/\o.cls=.ref C) where
 ty:=λM h _ p=>by
  obtain ⟨o,h1,h2⟩:=p;exact h2 ▸ (W.Looks.ld h1).andThen .now
 it:=λM h X _=>(W.kit_cls X k.se).2.1
 ne:=λh tp dd its n sl X htp=>Bool.eq_false_iff.mpr λq=>by
  have e:C=tp:=Value.ref.inj (beq_iff_eq.mp q);subst e;obtain ⟨_,_,_,_,_,_,_,_,_,_,_,_,_,_,_,_,_,hC,_⟩:=(c.own X).obj;rw[htp] at hC;injection hC with z
  injection z with z1
  exact absurd z1 (by decide)
 ca:=λ{_ _ _ _ _ s} X p q=>by
  obtain ⟨o,h1,h2⟩:=p;obtain ⟨hh,gg,dd,tt,oo⟩:=s;exact C8k X k h1 h2 q
end
section
variable {X:Cx} {K:W.Frag}
def E1x (K:W.Frag) (ea C:Addr):List V->Hp->VK->Prop:=λxs H Q=>∃ T b,xs=[.ref ea,T]/\((∃ D,T=.ref D/\W.kitOne K (.ref C) (.ref D)=some b)\/(∃ n,T=.ty n/\W.kitOne K (.ref C) (.type n)=some b))/\Q (.bl b) H
theorem B22 {x:Str} (hK:X.K=K) (hp:(ea,oe)∈X.pn) (hc:oe.cls=.ref C) (c:W4 K X.mg x C) (k:ExK K C):J2 X (.builtin "isinstance") (E1x K ea C):=by
 subst hK;intro pins s U H xs us Q I r h;obtain ⟨T,b,rfl,hT,q⟩:=h;obtain ⟨u,v,rfl,r1,r2⟩:=B5j r;cases r1;have he:=(I.pin (ea,oe) (qz _ hp)).1;rcases hT with ⟨D,rfl,e⟩|⟨n,rfl,e⟩
 ·cases r2;exact W.kia_one (A4j c k) I.kIn ⟨oe,he,hc⟩ e (λz=>nomatch z) λtk=>⟨.bl b,H,I.tok _,rfl,q⟩
 ·cases r2;exact W.kia_one (A4j c k) I.kIn ⟨oe,he,hc⟩ e (λz=>nomatch z) λtk=>⟨.bl b,H,I.tok _,rfl,q⟩
def D6v (K:W.Frag) (ea C:Addr):List V->Hp->VK->Prop:=λxs H Q=>∃ (tp:Addr) (Ds:List Addr) (b:Bool),xs=[.ref ea,.ref tp]/\H tp=some (.tup (Ds.map V.ref))/\W.kitAny K (.ref C) (Ds.map Value.ref)=some b/\Q (.bl b) H
theorem B7h:∀ {us:List Value},C6 (Ds.map V.ref) us->us=Ds.map Value.ref:=by
 induction Ds with
 | nil=>intro us h;cases h;rfl
 | cons b r ih =>
  intro us h;cases h with
  | cons h1 h2=>cases h1;rw[ih h2];rfl
theorem B6z {x:Str} (hK:X.K=K) (hp:(ea,oe)∈X.pn) (hc:oe.cls=.ref C) (c:W4 K X.mg x C) (k:ExK K C):J2 X (.builtin "isinstance") (D6v K ea C):=by
 subst hK;intro pins s U H xs us Q I r h;obtain ⟨tp,Ds,b,rfl,ht,e,q⟩:=h;obtain ⟨u,v,rfl,r1,r2⟩:=B5j r;cases r1;cases r2;have he:=(I.pin (ea,oe) (qz _ hp)).1;obtain ⟨_,its,rv,ot,h1,h2,n,h3⟩:=(show E5 X.prog X.w H s.heap tp (.tup (Ds.map V.ref)) from I.hok tp _ ht);cases B7h rv;obtain ⟨c1,d1,dt,sl⟩:=ot;cases h2;cases h3;exact W.kia_tup (A4j c k) I.kIn ⟨oe,he,hc⟩ h1 e (λz=>nomatch z) λtk=>⟨.bl b,H,I.tok _,rfl,q⟩
end
section
variable {X:Cx} {pins:List (Addr × Obj)} {U:St} {H:Hp} {s:Shared}
theorem B6.lost {m':Str->Option Value} (I:B6 X pins U H s) (hn:h'.Ns X.env.locals m') (sb:Heap.SameBut X.env.locals s.heap h'):B6 X pins (List.replicate X.N.length none) H { s with heap:=h',toks:=t' }:=by
 have neL:∀ b o,X.s₀.heap.get? b=some o->b≠X.env.locals:=λb o e=>ze (qr (qi e) I.ok.above);refine ⟨I.ok,I.os,I.bare,⟨λb o e n hb hx=>(sb.2 b (neL b o e)).trans (I.base.keep b o e n hb hx),λb o e n hb hx=>?_,I.base.free,λb o e hx=>?_,I.base.tups,I.base.frzs,I.base.tbls⟩,⟨m',hn,λj y v e1 e2 e3=>?_⟩,λy c e=>?_,I.free,I.freeC,λp hp=>?_,λb u e=>?_,List.length_replicate⟩
 ·obtain ⟨sl,e1⟩:=I.base.slot b o e n hb hx;exact ⟨sl,(sb.2 b (neL b o e)).trans e1⟩
 ·obtain ⟨o',e1⟩:=I.base.there b o e hx;exact ⟨o',(sb.2 b (neL b o e)).trans e1⟩
 ·rw[List.getElem?_replicate] at e2;split at e2<;>cases e2
 ·obtain ⟨w',z⟩:=I.cell y c e;exact ⟨w',z.sameBut sb (I.cne y c e)⟩
 ·obtain ⟨e,n,ne,nf,d⟩:=I.pin p hp;exact ⟨(sb.2 p.1 ne).trans e,n,ne,nf,d⟩
 ·refine (I.hok b u e).stay (λc v hc q=>(sb.2 c ?_).trans q) (λ_ q=>q) λ_ _ q=>q;intro z;rcases hc with hc|hc
  ·rw[<-hc,z,I.free] at e;cases e
  ·rw[z,I.free] at hc;cases hc
end
abbrev Y0 (D:V7):V7:={ nx:=λ_ _=>False,rt:=D.rt,bk:=λ_ _=>False,ct:=λ_ _=>False }
section
variable {X:Cx} {pins:List (Addr × Obj)} {U:St} {H:Hp} {s:Shared} {ea C R:Addr} {B:Heap} {a0:Value} {x n:Str} {i:Nat} {np pos:Pos} {b0:Stmt} {suite:List Stmt} {rest:List ExceptHandler} {ts:TS} {D:V7}
theorem C51 (I:B6 X pins U H s) (F:A5j X) (hN:X.N.Nodup) (hi:X.N[i]?=some n) (hln:X.env.kindOf n=some .local) (hln2:X.env.scope.names.lookup n=some .local) (hb:X.base.StaysIn B) (fl:A0f B X.stack ea (.ref C) a0 s.heap) (pr:A10 X pins B H s.heap) (hg:Gl X x) (hm:X.mg x=some (.ref R)) (k:A1f X.K C R)
  (hs:∀ oe,XOf oe C->PSs (X.within ea oe) (b0::suite) ts) (h:H ea=none->ts (Y0 D) (U.set i (some (.ref ea))) H) (hdb:noD x) :
  wpAny (model X.prog X.w) X.A (noteFrame (.ref ea) X.env) (λ_ s2=>wpAny (model X.prog X.w) X.A (setFlight (.ref ea) none) (λ_ s3=>wpAny (model X.prog X.w) X.A (handleBy (.ref ea) X.env (.ExceptHandler (some (.Name x np)) (some n) (b0::suite) pos::rest)) (SP X pins D) X.xe s3) X.xe s2) X.xe s:=by
 have hfr:X.A.frames=some (X.env::X.outer):=by rw[I.ok.frames,F.st]
 have fl0:=fl;rw[F.st] at fl;refine A6f hfr F.fr fl λh4 held up4=>C1u held λh5 fl5 up5=>?_;rw[<-F.st] at fl5;have I5:=I.fly F hb fl0.1 fl5 (up4.trans up5) pr;have pr5:A10 X pins B H h5:=A10.fly I F pr;obtain ⟨oe,ws,e1,e2,e3,e4,e5,e6,_⟩:=A3y F fl5 pr5;have IY:=I5.within e1 e3 e4 e5 e6;refine wpAny_handleBy_cons (codeAny_handlers_test ?_) (by intro q;cases q);refine U2 (X:=X.within ea oe) IY hg hm (A3a (K:=X.K) IY.kIn e1 e2 k ?_) hdb;refine codeAny_handlers_suite_as (A24 fl5 λh6 fl6 up6=>?_);have I6:=I5.fly F hb fl5.1 fl6 up6 pr5;have pr6:A10 X pins B H h6:=A10.fly I5 F pr5;obtain ⟨of,wf,f1,f2,f3,f4,f5,f6,f7⟩:=A3y F fl6 pr6;have IZ:=I6.within f1 f3 f4 f5 f6;refine Z6 (X:=X.within ea of) (v:=.ref ea) IZ hN hi (.inl hln2) rfl (λs2 I2=>?_) (.inr hln2);refine jc (hs of ⟨f2,f7⟩ pins s2 _ H (Y0 D) I2 (h f4)) (λf s' q=>?_) (λ_ _ z=>z.elim);cases f with
 | next=>obtain ⟨_,_,_,z⟩:=q;exact z.elim
 | brk=>obtain ⟨_,_,_,z⟩:=q;exact z.elim
 | cont=>obtain ⟨_,_,_,z⟩:=q;exact z.elim
 | ret u =>
  obtain ⟨v,U',H',I',r,q⟩:=q;have I'':=I'.without I.ok;obtain ⟨m,hn,_⟩:=I''.loc;have hcls:(X.env.scope.kind==.class||(X.env.scope.kind==.module&&X.env.locals != X.env.globals))=false:=by rw[I.ok.kind];rfl
  exact wpAny_nameGoes hln hn hcls λh' m' hn' sb=>⟨v,_,H',I''.lost hn' sb,r,q⟩
end
section
variable {X:Cx}
theorem A8r {x:Str} {pos:Pos} (hg:Gl X x) (hm:X.mg x=some (.ref C)) (hd:noD x:=by decide):QE X (.Name x pos) (tC (.ref C)):=⟨A8l hg hm rfl hd⟩
end
def C9o (i j:Int):Prop:=0 < j/\∃ m:Nat,m < 9000/\j < 2 ^ m
theorem C0f {X:Cx}:U1 X (binaryOp .FloorDiv) (rI C9o λi j=>.int (i / j)):=opI λi j _ _ _ _ _ hc q=>by
 obtain ⟨h1,m,hm,h2⟩:=hc;have e:((2 ^ m:Nat):Int)=2 ^ m:=by simp
 refine floordiv_int (by lia) (by rw[Int.fdiv_eq_ediv_of_nonneg i (by lia)];exact q) (.inl (PyProof.noPylong_of_log2 ?_));have:j.natAbs.log2 < m:=(Nat.log2_lt (by lia)).mpr (by lia);lia
section
variable {X:Cx} {pins:List (Addr × Obj)} {U:St} {H:Hp} {s:Shared} {d:Addr} {kvs:List (C1 × V)}
theorem B6.freeze (I:B6 X pins U H s) (hd:H d=some (.dK kvs)):∃ o,s.heap.get? d=some o/\B6 X pins U (upd H d (.frz o (.dK kvs))) s:=by
 have ok:=I.hok d _ hd;obtain ⟨o,ho⟩:∃ o,s.heap.get? d=some o:=by
  obtain ⟨_,_,vs,_,o,_,_,e,_⟩:=ok;exact ⟨o,e⟩
 refine ⟨o,ho,?_⟩;have:=I.write (x:=d) (e:=d) (h':=s.heap) (t':=s.toks) (o:=.frz o (.dK kvs)) (by rw[hd];trivial) (.inl rfl) (λ_ _ _ q=>q) ⟨o,ho⟩ ⟨ho,ok⟩;exact this
end
def Itk (d:Addr) (o:Obj) (kvs:List (C1 × V)):It :=
 ⟨λi H=>H d=some (.frz o (.dK kvs))/\i < kvs.length,λi H x H'=>(∃ k v,kvs[i]?=some (k,v)/\x=kV k)/\H'=H,λi H=>H d=some (.frz o (.dK kvs))/\kvs.length<=i⟩
theorem B4v {h:Heap} {d:Addr} {o:Obj} {es:Array DictEntry} (hod:o.data=.dict es ep) (ok:E5 P w H h d (.frz o (.dK kvs))) :
  (d==sysModules)=false/\∃ vs,KV kvs vs/\h.DictAt (J4 P w) d vs ep:=by
 obtain ⟨ho,_,hs,vs,kv,o2,es2,ep2,e1,e2,e3,r⟩:=ok;rw[ho] at e1;cases e1;rw[hod] at e3;cases e3;exact ⟨hs,vs,kv,o,es,ho,e2,hod,r⟩
theorem D24 {vs:List (C1 × Value)} (r:KV kvs vs):∀ {i:Nat} {p:C1 × V},kvs[i]?=some p->∃ q,vs[i]?=some q/\p.1=q.1:=by
 unfold KV at r
 induction r with
 | nil=>intro i p e;simp at e
 | cons h t ih =>
  intro i p e;cases i with
  | zero=>simp at e;subst e;exact ⟨_,rfl,h.1⟩
  | succ i=>exact ih (by simpa using e)
theorem B8a {tg:Expr} (d it:Addr) (o:Obj) (kvs:List (C1 × V)) {es:Array DictEntry} (hod:o.data=.dict es ep):B1l P w K tg (Itk d o kvs) [it] it (λi h=>h.IsKeyIter it d i kvs.length ep) where
 mem:=by simp
 obj:=λi h st b hb=>by
  have e:b=it:=by simpa using hb
  subst e;obtain ⟨o,e,c,dd⟩:=st;exact ⟨o,e,λv z=>by rw[dd] at z;cases z⟩
 keep:=λi h h' st k=>st.at λo e=>k it (by simp) o e
 item:=by
  intro X hP hw hK hc i pins s U H E I hf st hg;subst hP hw hK;obtain ⟨hd,hi⟩:=hg;obtain ⟨_,vs,kv,da⟩:=B4v hod (I.hok d _ hd);have hlen:kvs.length=vs.length:=Paired.length kv;rw[hlen] at st;obtain ⟨f0,f1,f2,f3,f4,f5⟩:=hf it (by simp);have hvi:vs[i]?=some (vs[i]'(by lia)):=zd _;have hki:kvs[i]?=some kvs[i]:=zd _;have hkk:kvs[i].1=(vs[i]'(by lia)).1:=by
   obtain ⟨q,e1,e2⟩:=D24 kv hki;rw[hvi] at e1;cases e1;exact e2
  refine wpAny_pyNext_dict_item st da (k:=(vs[i]'(by lia)).1) (v:=(vs[i]'(by lia)).2) hvi λkey h' hkey st' sb=>?_;have I1:B6 X pins U H { s with heap:=h' }:=I.turned (t':=s.toks) (λb o hb e=>(sb.2 b hb).trans e) f0 f1 f3 f4 f5;obtain ⟨oi,e,c,dd⟩:=id st';refine ⟨key,rfl,B0w (s:={ s with heap:=h' }) e c dd (by decide) ⟨kV kvs[i].1,H,I1,?_,⟨⟨_,_,hki,rfl⟩,rfl⟩,by rw[hlen];exact st',λb hb=>(hf b hb).1⟩⟩;rw[hkk];rcases E9 hkey with ⟨j,t,ek,ev⟩|⟨y,t,ek,ev⟩
  ·rw[ek,ev];exact ⟨t,rfl⟩
  ·rw[ek,ev];exact ⟨t,rfl⟩
 done:=by
  intro X hP hw hK hc i pins s U H E I hf st hg;subst hP hw hK;obtain ⟨hd,hi⟩:=hg;obtain ⟨_,vs,kv,da⟩:=B4v hod (I.hok d _ hd);have hlen:kvs.length=vs.length:=Paired.length kv;rw[hlen] at st;obtain ⟨f0,f1,f2,f3,f4,f5⟩:=hf it (by simp);exact wpAny_pyNext_dict_end (I.ok.hd hc) st da (List.getElem?_eq_none (by lia)) λh' eb=>⟨rfl,I.turned (t':=s.toks) (λb o hb e=>eb b o hb e) f0 f1 f3 f4 f5⟩
 self:=λ_ _ _ _ _ st h=>wpAny_pyIter_keyiter st h
def up (p i:Nat):Nat:=if i < p then i else i+1
def dn (p i:Nat):Nat:=if i < p then i else i - 1
def D9e (K:W.Frag):List V->Hp->VK->Prop:=λxs H Q=>∃ (a:Addr) (ns:List Int),xs=[.ref a]/\O5 K H a (ns.map V.int)/\ns≠[]/\∀ M,M∈ns->(∀ x∈ns,M<=x)->Q (.int M) H
def D6j (K:W.Frag):List V->Hp->VK->Prop:=λxs H Q=>∃ (a:Addr) (ns:List Int),xs=[.ref a]/\O5 K H a (ns.map V.int)/\ns≠[]/\∀ M,M∈ns->(∀ x∈ns,x<=M)->Q (.int M) H
section
variable {X:Cx}
theorem D3s (K:W.Frag) (hK:X.K=K) (hc:X.calm=true):J2 X (.builtin "min") (D9e K):=by
 subst hK;intro pins s U H xs us Q I r h;obtain ⟨a,ns,rfl,hq,hne,q⟩:=h;obtain ⟨u,rfl,r1⟩:=U0 r;cases r1;obtain ⟨its,rv,p,hz⟩:=I.list hq;have hi:=A19 rv;obtain ⟨zs,ez⟩:=hi.allInts.items;have hl:=p.isList;rw[ez] at hl;have e3:ns=zs.toList.map (λx=>x.1):=by
  have e2:=hi.numsOf;have e3:=nums_intItems (xs:=zs);rw[<-ez] at e3;exact e2.symm.trans e3
 have hsz:0 < zs.size:=by
  have:0 < ns.length:=List.length_pos_iff.mpr hne;rw[e3,qf,qj] at this;exact this
 refine min_intList (I.ok.hd hc) hl hsz λv h' tk hv hk=>?_;obtain ⟨t,rfl⟩:=intItems_at hv;obtain ⟨h1,h2⟩:=argBest_lt (numAt zs) (zs.size - 1);refine ⟨.int _,H,I.kept hk,⟨_,rfl⟩,q _ ?_ λx hx=>?_⟩
 ·rw[e3,numAt_eq];exact getD_mem (by rw[qf,qj];lia)
 ·rw[e3] at hx;obtain ⟨j,hj,rfl⟩:=mem_getD hx;rw[qf,qj] at hj;rw[<-numAt_eq];exact h2 j (by lia)
theorem B2r (K:W.Frag) (hK:X.K=K) (hc:X.calm=true):J2 X (.builtin "max") (D6j K):=by
 subst hK;intro pins s U H xs us Q I r h;obtain ⟨a,ns,rfl,hq,hne,q⟩:=h;obtain ⟨u,rfl,r1⟩:=U0 r;cases r1;obtain ⟨its,rv,p,hz⟩:=I.list hq;have hi:=A19 rv;obtain ⟨zs,ez⟩:=hi.allInts.items;have hl:=p.isList;rw[ez] at hl;have e3:ns=zs.toList.map (λx=>x.1):=by
  have e2:=hi.numsOf;have e3:=nums_intItems (xs:=zs);rw[<-ez] at e3;exact e2.symm.trans e3
 have hsz:0 < zs.size:=by
  have:0 < ns.length:=List.length_pos_iff.mpr hne;rw[e3,qf,qj] at this;exact this
 refine max_intList (I.ok.hd hc) hl hsz λv h' tk hv hk=>?_;obtain ⟨t,rfl⟩:=intItems_at hv;obtain ⟨h1,h2⟩:=argBest_gt (numAt zs) (zs.size - 1);refine ⟨.int _,H,I.kept hk,⟨_,rfl⟩,q _ ?_ λx hx=>?_⟩
 ·rw[e3,numAt_eq];exact getD_mem (by rw[qf,qj];lia)
 ·rw[e3] at hx;obtain ⟨j,hj,rfl⟩:=mem_getD hx;rw[qf,qj] at hj;rw[<-numAt_eq];exact h2 j (by lia)
end
end L2
namespace DL
open L2
abbrev D:=PyData
def muO:HO->Bool
 | .lst _=>true
 | .dK _=>true
 | .dT _=>true
 | _=>false
abbrev MuS:={o:HO // muO o=true}
def Mu (H:Hp) (a:Addr):Prop:=∃ o:MuS,H a=some o.1
theorem Mu.lst {H:Hp} {a:Addr} {us:List V} (h:H a=some (.lst us)):Mu H a:=⟨⟨.lst us,rfl⟩,h⟩
theorem Mu.of {a:Addr} {o:HO} (h:H a=some o) (m:muO o=true):Mu H a:=⟨⟨o,m⟩,h⟩
theorem Mu.no {a:Addr} {o:HO} (h:Mu H a) (e:H a=some o) (n:muO o=false):False:=by
 obtain ⟨u,q⟩:=h;rw[e] at q;have q:=zp q;have m:=u.2;rw[<-q,n] at m;cases m
def E3:C1->D
 | .inl i=>.int i
 | .inr x=>.str x
def Y8:D->Option V
 | .none=>some .non
 | .bool b=>some (.bl b)
 | .int i=>some (.int i)
 | .str x=>some (.str x)
 | _=>Option.none
def B0c:List (C1 × V)->List (D × D)->Prop
 | [],[]=>True
 | (k,v)::r,(d,e)::t=>d=E3 k/\Y8 e=some v/\B0c r t
 | _,_=>False
def C1i:List (List C1 × V)->List (D × D)->Prop
 | [],[]=>True
 | (k,v)::r,(d,e)::t=>d=.tuple (k.map E3)/\Y8 e=some v/\C1i r t
 | _,_=>False
def B6x:HO->Bool->List (D × D)->Prop
 | .dK kvs,false,kds=>B0c kvs kds
 | .dT kvs,true,kds=>C1i kvs kds
 | _,_,_=>False
def A51 (b:Bool) (kds:List (D × D)):D:=.dict ((.bool false,.bool b)::kds)
theorem B6x.mu {o:HO} {b:Bool} {kds:List (D × D)} (h:B6x o b kds):muO o=true:=by cases o<;>first|rfl|(cases b<;>exact h.elim)
mutual
inductive Dn (K:W.Frag) (H:Hp):V->D->Prop
 | non:Dn K H .non .none
 | bl (b):Dn K H (.bl b) (.bool b)
 | int (i):Dn K H (.int i) (.int i)
 | str (x):Dn K H (.str x) (.str x)
 | lst {a us ds}:H a=some (.lst us)->Dns K H us ds->Dn K H (.ref a) (.list ds)
 | tup {a us ds}:V2 K H a us->Dns K H us ds->Dn K H (.ref a) (.tuple ds)
 | scr {a} (ns:List Int):O5 K H a (ns.map V.int)->Dn K H (.ref a) (.dict [(.none,.list (ns.map .int))])
 | opq (a:Addr):Dn K H (.ref a) (.dict [(.bool true,.int (a:Nat))])
 | dct {a o b kds}:H a=some o->B6x o b kds->Dn K H (.ref a) (.dict ((.bool false,.bool b)::kds))
 | dcf {a kvs kds}:Rd H a (.dK kvs)->B0c kvs kds->Dn K H (.ref a) (.dict ((.int 0,.none)::kds))
 | dcl {a:Addr} {kvs:List (C1 × V)} {kds:List (D × D)}:Rd H a (.dK kvs)->kds.map Prod.fst=kvs.map (λp=>E3 p.1)->Dns K H (kvs.map Prod.snd) (kds.map Prod.snd)->Dn K H (.ref a) (.dict ((.int 1,.none)::kds))
inductive Dns (K:W.Frag) (H:Hp):List V->List D->Prop
 | nil:Dns K H [] []
 | cons {v vs d ds}:Dn K H v d->Dns K H vs ds->Dns K H (v::vs) (d::ds)
end
variable {K:W.Frag} {X:Cx} {h:Value->Value->Sem Value} {p2 p pos:Pos} {ps N:List Str} {C acc:Addr} {T:List Nat} {tg:Expr} {n:Nat} {lo:Int} {scope:Scope} {mg:Str->Option Value} {qual:Str} {w:World} {fd:FuncData} {x0 x2 x3 x4 x5 x6 x7 x8 x9 x10 x11 x12 x13 x14:Option (Bool × D)} {A:Around} {outer:List Env} {s1:Shared}
theorem Dn.both {P:V->D->Prop} {Q:List V->List D->Prop} (c1:P .non .none) (c2:∀ b,P (.bl b) (.bool b)) (c3:∀ i,P (.int i) (.int i)) (c4:∀ x,P (.str x) (.str x))
  (c5:∀ {a us ds},H a=some (.lst us)->Q us ds->P (.ref a) (.list ds)) (c6:∀ {a us ds},V2 K H a us->Q us ds->P (.ref a) (.tuple ds)) (c7:∀ {a} (ns:List Int),O5 K H a (ns.map V.int)->P (.ref a) (.dict [(.none,.list (ns.map .int))]))
  (c8:∀ a:Addr,P (.ref a) (.dict [(.bool true,.int (a:Nat))])) (c9:∀ {a o b kds},H a=some o->B6x o b kds->P (.ref a) (.dict ((.bool false,.bool b)::kds))) (c10:∀ {a kvs kds},Rd H a (.dK kvs)->B0c kvs kds->P (.ref a) (.dict ((.int 0,.none)::kds))) (c11:∀ {a:Addr} {kvs:List (C1 × V)} {kds:List (D × D)},Rd H a (.dK kvs)->kds.map Prod.fst=kvs.map (λp=>E3 p.1)->Q (kvs.map Prod.snd) (kds.map Prod.snd)->P (.ref a) (.dict ((.int 1,.none)::kds))) (n0:Q [] []) (n1:∀ {v vs d ds},P v d->Q vs ds->Q (v::vs) (d::ds)) :
  (∀ {v d},Dn K H v d->P v d)/\∀ {vs ds},Dns K H vs ds->Q vs ds :=
 ⟨λh=>Dn.rec (motive_1:=λv d _=>P v d) (motive_2:=λvs ds _=>Q vs ds) c1 c2 c3 c4 (λh _ r=>c5 h r) (λh _ r=>c6 h r) (λns h=>c7 ns h) c8 (λh r=>c9 h r) (λh r=>c10 h r) (λh e _ r=>c11 h e r) n0 (λ_ _ p q=>n1 p q) h,
  λh=>Dns.rec (motive_1:=λv d _=>P v d) (motive_2:=λvs ds _=>Q vs ds) c1 c2 c3 c4 (λh _ r=>c5 h r) (λh _ r=>c6 h r) (λns h=>c7 ns h) c8 (λh r=>c9 h r) (λh r=>c10 h r) (λh e _ r=>c11 h e r) n0 (λ_ _ p q=>n1 p q) h⟩
theorem Dn.same2 (e:A9 H H'):(∀ {v d},Dn K H v d->Dn K H' v d)/\∀ {vs ds},Dns K H vs ds->Dns K H' vs ds :=
 Dn.both .non .bl .int .str (λh r=>.lst (e _ _ h) r) (λh r=>.tup (e.tup h) r) (λns h=>.scr ns (e.seq h)) .opq (λh r=>.dct (e _ _ h) r) (λh r=>.dcf (h.elim (λh=>.inl (e _ _ h)) λ⟨o,h⟩=>.inr ⟨o,e _ _ h⟩) r) (λh g r=>.dcl (h.elim (λh=>.inl (e _ _ h)) λ⟨o,h⟩=>.inr ⟨o,e _ _ h⟩) g r) .nil λp q=>.cons p q
theorem Dn.same (e:A9 H H') {v:V} {d:D} (h:Dn K H v d):Dn K H' v d:=(Dn.same2 e).1 h
theorem Dns.same (e:A9 H H') {vs:List V} {ds:List D} (h:Dns K H vs ds):Dns K H' vs ds:=(Dn.same2 e).2 h
theorem Dn.deep2:(∀ {v d},Dn K H v d->d.canLay0=true->Den K H v d)/\∀ {vs ds},Dns K H vs ds->PyData.canLayAll0 ds=true->Dens K H vs ds :=
 Dn.both (λ_=>.non) (λb _=>.bl b) (λb _=>.int b) (λb _=>.str b) (λh r q=>.lst (O5.of h) (r (by simpa [PyData.canLay0] using q))) (λh r q=>.tup h (r (by simpa [PyData.canLay0] using q)))
  (λns h q=>by simp[PyData.canLay0] at q) (λa q=>by simp[PyData.canLay0] at q) (λh r q=>by simp[PyData.canLay0] at q) (λh r q=>by simp[PyData.canLay0] at q) (λh g r q=>by simp[PyData.canLay0] at q) (λ_=>.nil) λp r q=>by
  simp only[PyData.canLayAll0,zb] at q;exact .cons (p q.1) (r q.2)
theorem Dn.deep {v:V} {d:D} (h:Dn K H v d) (q:d.canLay0=true):Den K H v d:=Dn.deep2.1 h q
theorem Dns.length:∀ {vs ds},Dns K H vs ds->vs.length=ds.length
 | _,_,.nil=>rfl
 | _,_,.cons _ r=>by rw[length_cons,length_cons,Dns.length r]
theorem Dns.get:∀ {vs ds} {i:Nat} {d:D},Dns K H vs ds->ds[i]?=some d->∃ v,vs[i]?=some v/\Dn K H v d
 | _,_,0,_,.cons h r,e=>by simp at e;subst e;exact ⟨_,rfl,h⟩
 | _,_,i+1,d,.cons h r,e=>by simp at e ⊢;exact Dns.get r e
theorem Dns.append:∀ {vs ds us es},Dns K H vs ds->Dns K H us es->Dns K H (vs++us) (ds++es)
 | _,_,_,_,.nil,q=>q
 | _,_,_,_,.cons h r,q=>.cons h (Dns.append r q)
mutual
inductive Ow (K:W.Frag) (H:Hp):V->D->List Addr->Prop
 | non:Ow K H .non .none []
 | bl (b):Ow K H (.bl b) (.bool b) []
 | int (i):Ow K H (.int i) (.int i) []
 | str (x):Ow K H (.str x) (.str x) []
 | lst {a us ds ns}:H a=some (.lst us)->Ows K H us ds ns->Ow K H (.ref a) (.list ds) (a::ns)
 | tup {a us ds ns}:V2 K H a us->Ows K H us ds ns->Ow K H (.ref a) (.tuple ds) ns
 | dct {a o b kds}:H a=some o->B6x o b kds->Ow K H (.ref a) (.dict ((.bool false,.bool b)::kds)) [a]
inductive Ows (K:W.Frag) (H:Hp):List V->List D->List Addr->Prop
 | nil:Ows K H [] [] []
 | cons {v vs d ds ns ms}:Ow K H v d ns->Ows K H vs ds ms->Ows K H (v::vs) (d::ds) (ns++ms)
end
theorem Ow.both {P:V->D->List Addr->Prop} {Q:List V->List D->List Addr->Prop} (c1:P .non .none []) (c2:∀ b,P (.bl b) (.bool b) []) (c3:∀ i,P (.int i) (.int i) []) (c4:∀ x,P (.str x) (.str x) [])
  (c5:∀ {a us ds ns},H a=some (.lst us)->Q us ds ns->P (.ref a) (.list ds) (a::ns)) (c6:∀ {a us ds ns},V2 K H a us->Q us ds ns->P (.ref a) (.tuple ds) ns)
  (c9:∀ {a o b kds},H a=some o->B6x o b kds->P (.ref a) (.dict ((.bool false,.bool b)::kds)) [a]) (n0:Q [] [] []) (n1:∀ {v vs d ds ns ms},P v d ns->Q vs ds ms->Q (v::vs) (d::ds) (ns++ms)) :
  (∀ {v d ns},Ow K H v d ns->P v d ns)/\∀ {vs ds ns},Ows K H vs ds ns->Q vs ds ns :=
 ⟨λh=>Ow.rec (motive_1:=λv d ns _=>P v d ns) (motive_2:=λvs ds ns _=>Q vs ds ns) c1 c2 c3 c4 (λh _ r=>c5 h r) (λh _ r=>c6 h r) (λh r=>c9 h r) n0 (λ_ _ p q=>n1 p q) h,
  λh=>Ows.rec (motive_1:=λv d ns _=>P v d ns) (motive_2:=λvs ds ns _=>Q vs ds ns) c1 c2 c3 c4 (λh _ r=>c5 h r) (λh _ r=>c6 h r) (λh r=>c9 h r) n0 (λ_ _ p q=>n1 p q) h⟩
theorem Ow.den2:(∀ {v d ns},Ow K H v d ns->Dn K H v d)/\∀ {v d ns},Ows K H v d ns->Dns K H v d :=
 Ow.both .non .bl .int .str (λh r=>.lst h r) (λh r=>.tup h r) (λh r=>.dct h r) .nil λp q=>.cons p q
theorem Ow.den {v:V} {d:D} {ns:List Addr} (h:Ow K H v d ns):Dn K H v d:=Ow.den2.1 h
theorem Ows.den {v:List V} {d:List D} {ns:List Addr} (h:Ows K H v d ns):Dns K H v d:=Ow.den2.2 h
theorem Ow.there2:(∀ {v d ns},Ow K H v d ns->∀ a∈ns,Mu H a)/\∀ {v d ns},Ows K H v d ns->∀ a∈ns,Mu H a :=
 Ow.both (P:=λ_ _ ns=>∀ a∈ns,Mu H a) (Q:=λ_ _ ns=>∀ a∈ns,Mu H a) (λ_ z=>nomatch z) (λ_ _ z=>nomatch z) (λ_ _ z=>nomatch z) (λ_ _ z=>nomatch z) (λh r a ha=>(zk.mp ha).elim (λe=>e ▸ .lst h) (r a)) (λ_ r=>r)
  (λh r a ha=>zc.mp ha ▸ .of h r.mu) (λ_ z=>nomatch z) λp q a ha=>(zj.mp ha).elim (p a) (q a)
theorem Ow.there {v:V} {d:D} {ns:List Addr} (h:Ow K H v d ns):∀ a∈ns,Mu H a:=Ow.there2.1 h
theorem Ows.there {v:List V} {d:List D} {ns:List Addr} (h:Ows K H v d ns):∀ a∈ns,Mu H a:=Ow.there2.2 h
def A3n (ns:List Addr) (H H':Hp):Prop:=(∀ a∈ns,H' a=H a)/\∀ a o,H a=some o->muO o=false->H' a=some o
theorem A3n.sqt {ns:List Addr} (k:A3n ns H H') {a:Addr} {us:List V} (h:V2 K H a us):V2 K H' a us:=by
 rcases h with (h|⟨o,h⟩)|h
 ·exact .inl (.inl (k.2 _ _ h rfl))
 ·exact .inl (.inr ⟨o,k.2 _ _ h rfl⟩)
 ·exact .inr h
theorem Ow.kept2:(∀ {v d ns},Ow K H v d ns->A3n ns H H'->Ow K H' v d ns)/\∀ {v d ns},Ows K H v d ns->A3n ns H H'->Ows K H' v d ns :=
 Ow.both (P:=λv d ns=>A3n ns H H'->Ow K H' v d ns) (Q:=λv d ns=>A3n ns H H'->Ows K H' v d ns) (λ_=>.non) (λb _=>.bl b) (λb _=>.int b) (λb _=>.str b) (λh r k=>.lst ((k.1 _ qu).trans h) (r ⟨λa ha=>k.1 a (qv _ ha),k.2⟩))
  (λh r k=>.tup (k.sqt h) (r k)) (λh r k=>.dct ((k.1 _ qu).trans h) r) (λ_=>.nil) λp q k=>.cons (p ⟨λa ha=>k.1 a (qz _ ha),k.2⟩) (q ⟨λa ha=>k.1 a (qw _ ha),k.2⟩)
theorem Ow.kept {v:V} {d:D} {ns:List Addr} (h:Ow K H v d ns) (k:A3n ns H H'):Ow K H' v d ns:=Ow.kept2.1 h k
theorem Ows.kept {v:List V} {d:List D} {ns:List Addr} (h:Ows K H v d ns) (k:A3n ns H H'):Ows K H' v d ns:=Ow.kept2.2 h k
theorem Ow.same2 (e:A9 H H'):(∀ {v d ns},Ow K H v d ns->Ow K H' v d ns)/\∀ {v d ns},Ows K H v d ns->Ows K H' v d ns :=
 Ow.both .non .bl .int .str (λh r=>.lst (e _ _ h) r) (λh r=>.tup (e.tup h) r) (λh r=>.dct (e _ _ h) r) .nil λp q=>.cons p q
theorem Ow.same (e:A9 H H') {v:V} {d:D} {ns:List Addr} (h:Ow K H v d ns):Ow K H' v d ns:=(Ow.same2 e).1 h
theorem Ows.same (e:A9 H H') {v:List V} {d:List D} {ns:List Addr} (h:Ows K H v d ns):Ows K H' v d ns:=(Ow.same2 e).2 h
mutual
def flat:D->Bool
 | .none=>true
 | .bool _=>true
 | .int _=>true
 | .str _=>true
 | .list _=>false
 | .tuple ds=>flats ds
 | .dict _=>false
def flats:List D->Bool
 | []=>true
 | d::ds=>flat d&&flats ds
end
theorem B19:(∀ {v d},Dn K H v d->flat d=true->Ow K H v d [])/\∀ {v d},Dns K H v d->flats d=true->Ows K H v d [] :=
 Dn.both (λ_=>.non) (λb _=>.bl b) (λb _=>.int b) (λb _=>.str b) (λ_ _ h=>nomatch h) (λh r q=>.tup h (r q)) (λ_ _ h=>nomatch h) (λ_ h=>nomatch h) (λ_ _ h=>nomatch h) (λ_ _ h=>nomatch h) (λ_ _ _ h=>nomatch h) (λ_=>.nil) λp r q=>by
  rw[flats,zb] at q;exact .cons (ns:=[]) (ms:=[]) (p q.1) (r q.2)
theorem B6b {v:V} {d:D} (h:Dn K H v d) (q:flat d=true):Ow K H v d []:=B19.1 h q
theorem P9 {v:List V} {d:List D} (h:Dns K H v d) (q:flats d=true):Ows K H v d []:=B19.2 h q
theorem A7l (k:∀ a o,H a=some o->muO o=false->H' a=some o):(∀ {v d},Dn K H v d->flat d=true->Dn K H' v d)/\∀ {v d},Dns K H v d->flats d=true->Dns K H' v d :=
 Dn.both (λ_=>.non) (λb _=>.bl b) (λb _=>.int b) (λb _=>.str b) (λ_ _ h=>nomatch h) (λh r q=>.tup (A3n.sqt (ns:=[]) ⟨λ_ z=>(by cases z),k⟩ h) (r q)) (λ_ _ h=>nomatch h) (λ_ h=>nomatch h) (λ_ _ h=>nomatch h) (λ_ _ h=>nomatch h) (λ_ _ _ h=>nomatch h) (λ_=>.nil) λp r q=>by
  rw[flats,zb] at q;exact .cons (p q.1) (r q.2)
theorem B0h (k:∀ a o,H a=some o->muO o=false->H' a=some o) {v:V} {d:D} (h:Dn K H v d) (q:flat d=true):Dn K H' v d:=(A7l k).1 h q
theorem B6m (k:∀ a o,H a=some o->muO o=false->H' a=some o) {v:List V} {d:List D} (h:Dns K H v d) (q:flats d=true):Dns K H' v d:=(A7l k).2 h q
open Classical in
noncomputable def N0 (Z:Addr->Prop) (H:Hp):Hp:=λa=>if Z a then none else H a
theorem E2 {a:Addr} {o:HO} (h:H a=some o) (z:¬ Z a):N0 Z H a=some o:=by unfold N0;rw[qo z];exact h
theorem G7 {a:Addr} {o:HO} (h:N0 Z H a=some o):H a=some o/\¬ Z a:=by
 unfold N0 at h;split at h
 ·cases h
 ·exact ⟨h,‹_›⟩
theorem E4:A9 (N0 Z H) H:=λ_ _ h=>(G7 h).1
theorem R9 (e:A9 H H'):A9 (N0 Z H) (N0 Z H'):=λb o h=>E2 (e b o (G7 h).1) (G7 h).2
theorem A08 {Z':Addr->Prop} (h:∀ a,Z' a->Z a):A9 (N0 Z H) (N0 Z' H):=λb o e=>E2 (G7 e).1 λz=>(G7 e).2 (h b z)
theorem A0n {v:V} {d:D} (hl:∀ a,Z a->Mu H a) (h:Dn K H v d) (hf:flat d=true):Dn K (N0 Z H) v d :=
 B0h (λa o e n=>E2 e λz=>(hl a z).no e n) h hf
theorem B6a (hl:∀ a,Z a->Mu H a):(∀ {v d ns},Ow K H v d ns->(∀ a∈ns,¬ Z a)->Dn K (N0 Z H) v d)/\∀ {v d ns},Ows K H v d ns->(∀ a∈ns,¬ Z a)->Dns K (N0 Z H) v d :=
 Ow.both (P:=λv d ns=>(∀ a∈ns,¬ Z a)->Dn K (N0 Z H) v d) (Q:=λv d ns=>(∀ a∈ns,¬ Z a)->Dns K (N0 Z H) v d) (λ_=>.non) (λb _=>.bl b) (λb _=>.int b) (λb _=>.str b) (λh r k=>.lst (E2 h (k _ qu)) (r λa ha=>k a (qv _ ha)))
  (λh r k=>.tup (A3n.sqt (ns:=[]) ⟨λ_ z=>(by cases z),λa o e n=>E2 e λz=>(hl a z).no e n⟩ h) (r k)) (λh r k=>.dct (E2 h (k _ qu)) r) (λ_=>.nil) λp q k=>.cons (p λa ha=>k a (qz _ ha)) (q λa ha=>k a (qw _ ha))
theorem A5d (hl:∀ a,Z a->Mu H a) {v:V} {d:D} {ns:List Addr} (h:Ow K H v d ns) (k:∀ a∈ns,¬ Z a):Dn K (N0 Z H) v d:=(B6a hl).1 h k
theorem C5q (hl:∀ a,Z a->Mu H a) {v:List V} {d:List D} {ns:List Addr} (h:Ows K H v d ns) (k:∀ a∈ns,¬ Z a):Dns K (N0 Z H) v d:=(B6a hl).2 h k
abbrev C4:=List (Option (Bool × D))
def Z0:Addr->Prop:=λ_=>False
def Hd (Z:Addr->Prop) (ν:Nat->List Addr):Addr->Prop:=λa=>Z a\/∃ i,a∈ν i
structure B8 (K:W.Frag) (Z:Addr->Prop) (H0:Hp) (ν:Nat->List Addr) (O:C4) (U:L2.St) (H:Hp):Prop where
 sm:A9 H0 H
 len:U.length=O.length
 sl:∀ i b d,O[i]?=some (some (b,d))->∃ v,U[i]?=some (some v)/\if b=true then Ow K H v d (ν i) else Dn K (N0 (Hd Z ν) H) v d
 nd:∀ i,(ν i).Nodup
 dj:∀ i j a,a∈ν i->a∈ν j->i=j
 fr:∀ i a,a∈ν i->H0 a=none/\¬ Z a/\Mu H a
 zf:∀ a,Z a->H0 a=none/\Mu H a
section
variable {K:W.Frag} {Z:Addr->Prop} {H0 H H':Hp} {ν:Nat->List Addr} {O:C4} {U:L2.St} {v:V} {d:D}
theorem B8.hl (S:B8 K Z H0 ν O U H):∀ a,Hd Z ν a->Mu H a:=λa h=>by
 rcases h with h|⟨i,h⟩
 ·exact (S.zf a h).2
 ·exact (S.fr i a h).2.2
theorem B8.same (S:B8 K Z H0 ν O U H) (e:A9 H H'):B8 K Z H0 ν O U H' where
 sm:=S.sm.trans e
 len:=S.len
 sl:=λi b d h=>by
  obtain ⟨v,h1,h2⟩:=S.sl i b d h;refine ⟨v,h1,?_⟩;cases b with
  | true=>exact Ow.same e h2
  | false=>exact Dn.same (R9 e) h2
 nd:=S.nd
 dj:=S.dj
 fr:=λi a h=>by obtain ⟨h1,h2,us,h3⟩:=S.fr i a h;exact ⟨h1,h2,us,e _ _ h3⟩
 zf:=λa h=>by obtain ⟨h1,us,h3⟩:=S.zf a h;exact ⟨h1,us,e _ _ h3⟩
theorem B8.get (S:B8 K Z H0 ν O U H) {i:Nat} {b:Bool} (h:O[i]?=some (some (b,d))):∃ v,U[i]?=some (some v)/\Dn K H v d:=by
 obtain ⟨v,h1,h2⟩:=S.sl i b d h;refine ⟨v,h1,?_⟩;cases b with
 | true=>exact h2.den
 | false=>exact Dn.same E4 h2
theorem P5 {α:Type} {l:List α} {i j:Nat} {x y:α} (h:(l.set i x)[j]?=some y):(j=i/\y=x/\i < l.length)\/(j≠i/\l[j]?=some y):=by
 rw[List.getElem?_set] at h;split at h
 ·split at h
  ·cases h;exact .inl ⟨by lia,rfl,by lia⟩
  ·cases h
 ·exact .inr ⟨by lia,h⟩
theorem B8.setOld (S:B8 K Z H0 ν O U H) (i:Nat) (h:Dn K (N0 (Hd Z ν) H) v d):B8 K Z H0 ν (O.set i (some (false,d))) (U.set i (some v)) H where
 sm:=S.sm
 len:=by rw[length_set,length_set];exact S.len
 sl:=λj b e hj=>by
  rcases P5 hj with ⟨rfl,h1,h2⟩|⟨h1,h2⟩
  ·cases h1;exact ⟨v,by rw[List.getElem?_set_self (by rw[S.len];exact h2)],h⟩
  ·obtain ⟨u,q1,q2⟩:=S.sl j b e h2;exact ⟨u,by rw[List.getElem?_set_ne (Ne.symm h1)];exact q1,q2⟩
 nd:=S.nd
 dj:=S.dj
 fr:=S.fr
 zf:=S.zf
theorem B8.drop (S:B8 K Z H0 ν O U H) (i:Nat):B8 K Z H0 ν (O.set i none) U H where
 sm:=S.sm
 len:=by rw[length_set];exact S.len
 sl:=λj b e hj=>by
  rcases P5 hj with ⟨rfl,h1,h2⟩|⟨h1,h2⟩
  ·cases h1
  ·exact S.sl j b e h2
 nd:=S.nd
 dj:=S.dj
 fr:=S.fr
 zf:=S.zf
def E6 (O:C4):List Nat->C4
 | []=>O
 | i::r=>E6 (O.set i none) r
theorem R1:∀ (s:List Nat) (O:C4),(E6 O s).length=O.length
 | [],_=>rfl
 | i::r,O=>by unfold E6;rw[R1 r,length_set]
theorem W3:∀ (s:List Nat) {O:C4} {i:Nat} {x:Bool × D},(E6 O s)[i]?=some (some x)->i∉s/\O[i]?=some (some x)
 | [],_,_,_,h=>⟨by simp,h⟩
 | j::r,O,i,x,h=>by
  obtain ⟨h1,h2⟩:=W3 r h;rcases P5 h2 with ⟨rfl,q,_⟩|⟨q1,q2⟩
  ·cases q
  ·exact ⟨by simp[h1,q1],q2⟩
theorem B8.setOwn (S:B8 K Z H0 ν O U H) (s:List Nat) (i:Nat) {ms:List Addr} (e:A9 H H') (h:Ow K H' v d ms) (nd:ms.Nodup) (fr:∀ a∈ms,H a=none\/∃ j∈s,a∈ν j) :
  B8 K Z H0 (λj=>if j=i then ms else if j∈s then [] else ν j) ((E6 O s).set i (some (true,d))) (U.set i (some v)) H' where
 sm:=S.sm.trans e
 len:=by rw[length_set,length_set,R1];exact S.len
 sl:=λj b c hj=>by
  rcases P5 hj with ⟨rfl,h1,h2⟩|⟨h1,h2⟩
  ·cases h1;exact ⟨v,by rw[List.getElem?_set_self (by rw[S.len];rw[R1] at h2;exact h2)],by rw[qm rfl];rw[qm rfl];exact h⟩
  ·obtain ⟨h3,h4⟩:=W3 s h2;obtain ⟨u,q1,q2⟩:=S.sl j b c h4;refine ⟨u,by rw[List.getElem?_set_ne (Ne.symm h1)];exact q1,?_⟩;cases b with
   | true =>
    rw[qm rfl,qo h1,qo h3];exact Ow.same e q2
   | false =>
    refine Dn.same (λa o ha=>?_) q2;obtain ⟨g1,g2⟩:=G7 ha;refine E2 (e _ _ g1) λz=>?_;rcases z with z|⟨k,z⟩
    ·exact g2 (.inl z)
    ·dsimp only at z;split at z
     ·rcases fr a z with z|⟨l,_,z⟩
      ·rw[g1] at z;cases z
      ·exact g2 (.inr ⟨l,z⟩)
     ·split at z
      ·cases z
      ·exact g2 (.inr ⟨k,z⟩)
 nd:=λj=>by
  split
  ·exact nd
  ·split
   ·exact nodup_nil
   ·exact S.nd j
 dj:=λj k a hj hk=>by
  have key:∀ l,l∉s->a∈ν l->a∉ms:=λl hl ha hm=>by
   rcases fr a hm with z|⟨m,hm,z⟩
   ·obtain ⟨_,_,us,q⟩:=S.fr l a ha;rw[z] at q;cases q
   ·rw[S.dj l m a ha z] at hl;exact hl hm
  split at hj
  ·split at hk
   ·lia
   ·split at hk
    ·cases hk
    ·exact absurd hj (key k ‹_› hk)
  ·split at hj
   ·cases hj
   ·split at hk
    ·exact absurd hk (key j ‹_› hj)
    ·split at hk
     ·cases hk
     ·exact S.dj j k a hj hk
 fr:=λj a ha=>by
  split at ha
  ·have ht:=h.there a ha;rcases fr a ha with z|⟨m,_,z⟩
   ·exact ⟨S.sm.gone z,(λq=>by obtain ⟨_,us,q⟩:=S.zf a q;rw[z] at q;cases q),ht⟩
   ·obtain ⟨q1,q2,us,q3⟩:=S.fr m a z;exact ⟨q1,q2,us,e _ _ q3⟩
  ·split at ha
   ·cases ha
   ·obtain ⟨q1,q2,us,q3⟩:=S.fr j a ha;exact ⟨q1,q2,us,e _ _ q3⟩
 zf:=λa h=>by obtain ⟨h1,us,h3⟩:=S.zf a h;exact ⟨h1,us,e _ _ h3⟩
def frz (O:C4):C4:=O.map λx=>x.map λy=>(false,y.2)
theorem B5e {O:C4} {i:Nat} {b:Bool} {d:D} (h:(frz O)[i]?=some (some (b,d))):b=false/\∃ c,O[i]?=some (some (c,d)):=by
 unfold frz at h;rw[qk] at h;cases q:O[i]? with
 | none=>rw[q] at h;cases h
 | some x =>
  rw[q] at h;cases x with
  | none=>cases h
  | some y=>cases h;exact ⟨rfl,y.1,rfl⟩
theorem B8.frz (S:B8 K Z H0 ν O U H):B8 K Z H0 (λ_=>[]) (frz O) U H where
 sm:=S.sm
 len:=by unfold DL.frz;rw[qf];exact S.len
 sl:=λi b d h=>by
  obtain ⟨rfl,c,h⟩:=B5e h;obtain ⟨v,h1,h2⟩:=S.sl i c d h;refine ⟨v,h1,?_⟩;have hl:∀ a,Hd Z (λ_=>[]) a->Mu H a:=λa z=>by
   rcases z with z|⟨_,z⟩
   ·exact (S.zf a z).2
   ·cases z
  cases c with
  | true =>
   refine A5d hl h2 λa ha z=>?_;rcases z with z|⟨_,z⟩
   ·exact (S.fr i a ha).2.1 z
   ·cases z
  | false=>exact Dn.same (A08 λa z=>by rcases z with z|⟨_,z⟩;exact .inl z;cases z) h2
 nd:=λ_=>nodup_nil
 dj:=λ_ _ _ z=>by cases z
 fr:=λ_ _ z=>by cases z
 zf:=S.zf
def frz1 (i:Nat) (O:C4):C4:=match O[i]? with
 | some (some (_,d))=>O.set i (some (false,d))
 | _=>O
theorem B8.frz1 (S:B8 K Z H0 ν O U H) (i:Nat):B8 K Z H0 (λj=>if j=i then [] else ν j) (frz1 i O) U H:=by
 have hl:∀ a,Hd Z (λj=>if j=i then [] else ν j) a->Hd Z ν a:=λa z=>by
  rcases z with z|⟨j,z⟩
  ·exact .inl z
  ·dsimp only at z;split at z
   ·cases z
   ·exact .inr ⟨j,z⟩
 have sl:∀ j b d,O[j]?=some (some (b,d))->j≠i->∃ v,U[j]?=some (some v)/\if b=true then Ow K H v d (if j=i then [] else ν j) else Dn K (N0 (Hd Z λj=>if j=i then [] else ν j) H) v d:=λj b d h hj=>by
  obtain ⟨v,h1,h2⟩:=S.sl j b d h;refine ⟨v,h1,?_⟩;rw[qo hj];cases b with
  | true=>exact h2
  | false=>exact Dn.same (A08 hl) h2
 refine ⟨S.sm,?_,?_,λj=>?_,λj k a hj hk=>?_,λj a ha=>?_,S.zf⟩
 ·unfold DL.frz1;split
  ·rw[length_set];exact S.len
  ·exact S.len
 ·intro j b d h;unfold DL.frz1 at h;split at h
  case h_1 x b' d' e =>
   rcases P5 h with ⟨rfl,h1,h2⟩|⟨h1,h2⟩
   ·cases h1;obtain ⟨v,h1,h2⟩:=S.sl j b' d e;refine ⟨v,h1,?_⟩;cases b' with
    | true =>
     refine A5d (λa z=>S.hl a (hl a z)) h2 λa ha z=>?_;rcases z with z|⟨k,z⟩
     ·exact (S.fr j a ha).2.1 z
     ·dsimp only at z;split at z
      ·cases z
      ·exact absurd (S.dj _ _ _ z ha) ‹_›
    | false=>exact Dn.same (A08 hl) h2
   ·exact sl j b d h2 h1
  case h_2 e =>
   by_cases hj:j=i
   ·subst hj;exact absurd h (λq=>e _ _ q)
   ·exact sl j b d h hj
 ·skip
  split
  ·exact nodup_nil
  ·exact S.nd j
 ·skip
  split at hj
  ·cases hj
  ·split at hk
   ·cases hk
   ·exact S.dj _ _ _ hj hk
 ·skip
  split at ha
  ·cases ha
  ·exact S.fr _ _ ha
end
inductive Kd where
 | own (s:List Nat)
 | old
 | mix
def T0 (K:W.Frag) (Z:Addr->Prop) (ν:Nat->List Addr) (H H':Hp):Kd->V->D->Prop
 | .own s,v,d=>∃ ms,Ow K H' v d ms/\ms.Nodup/\∀ a∈ms,H a=none\/∃ j∈s,a∈ν j
 | .old,v,d=>Dn K (N0 (Hd Z ν) H') v d
 | .mix,v,d=>Dn K H' v d
section
variable {K:W.Frag} {Z:Addr->Prop} {H H1 H':Hp} {ν:Nat->List Addr} {v:V} {d:D} {k:Kd}
theorem T0.den (h:T0 K Z ν H H' k v d):Dn K H' v d:=by
 cases k with
 | own s=>obtain ⟨ms,h,_⟩:=h;exact h.den
 | old=>exact Dn.same E4 h
 | mix=>exact h
theorem T0.same (h:T0 K Z ν H H1 k v d) (e:A9 H1 H'):T0 K Z ν H H' k v d:=by
 cases k with
 | own s=>obtain ⟨ms,h,r⟩:=h;exact ⟨ms,h.same e,r⟩
 | old=>exact Dn.same (R9 e) h
 | mix=>exact Dn.same e h
theorem T0.later (h:T0 K Z ν H1 H' k v d) (e:A9 H H1):T0 K Z ν H H' k v d:=by
 cases k with
 | own s =>
  obtain ⟨ms,h,r,f⟩:=h;exact ⟨ms,h,r,λa ha=>by rcases f a ha with z|z;exact .inl (e.gone z);exact .inr z⟩
 | old=>exact h
 | mix=>exact h
theorem T0.flat (h:Dn K H' v d) (hf:DL.flat d=true) (hl:∀ a,Hd Z ν a->Mu H' a) (k:Kd):T0 K Z ν H H' k v d:=by
 cases k with
 | own s=>exact ⟨[],B6b h hf,nodup_nil,λ_ z=>by cases z⟩
 | old=>exact A0n hl h hf
 | mix=>exact h
end
abbrev QD:=D->Kd->Prop
abbrev XD:=Addr->Prop
abbrev TD:=C4->QD->XD->Prop
abbrev Y7:=C4->(Bool->Prop)->XD->Prop
abbrev TDA:=C4->(List D->Kd->Prop)->XD->Prop
def RsL (K:W.Frag) (Z:Addr->Prop) (ν:Nat->List Addr) (H H':Hp):Kd->List V->List D->Prop
 | .own s,v,d=>∃ ms,Ows K H' v d ms/\ms.Nodup/\∀ a∈ms,H a=none\/∃ j∈s,a∈ν j
 | .old,v,d=>Dns K (N0 (Hd Z ν) H') v d
 | .mix,v,d=>Dns K H' v d
def LE (K:W.Frag) (E:XK) (t:TD):TE:=λU H Q=>∃ H0 ν O Qd Xd,B8 K Z0 H0 ν O U H/\t O Qd Xd/\(∀ d k v H',Qd d k->A9 H H'->T0 K Z0 ν H H' k v d->Q v H')/\∀ C H',Xd C->A9 H0 H'->E (.ref C) none H'
def LT (K:W.Frag) (E:XK) (t:Y7):TT:=λU H Q=>∃ H0 ν O Qd Xd,B8 K Z0 H0 ν O U H/\t O Qd Xd/\(∀ b H',Qd b->A9 H H'->Q b H')/\∀ C H',Xd C->A9 H0 H'->E (.ref C) none H'
def LA (K:W.Frag) (E:XK) (t:TDA):TA:=λU H Q=>∃ H0 ν O Qd Xd,B8 K Z0 H0 ν O U H/\t O Qd Xd/\(∀ ds k vs H',Qd ds k->A9 H H'->RsL K Z0 ν H H' k vs ds->Q vs H')/\∀ C H',Xd C->A9 H0 H'->E (.ref C) none H'
structure DE (X:Cx) (K:W.Frag) (E:XK) (e:Expr) (t:TD):Prop where
 q:QE X e (LE K E t)
structure DT (X:Cx) (K:W.Frag) (E:XK) (e:Expr) (t:Y7):Prop where
 q:QT X e (LT K E t)
structure DW (X:Cx) (K:W.Frag) (E:XK) (e:Expr) (t:Y7):Prop where
 q:QW X e (LT K E t)
structure DA (X:Cx) (K:W.Frag) (E:XK) (e:List Expr) (t:TDA):Prop where
 q:QA X e (LA K E t)
theorem C9 {e:Expr} {t t':TE} (h:QE X e t) (i:∀ U H Q,t' U H Q->t U H Q):QE X e t':=⟨λpins s U H Q I w=>h.h pins s U H Q I (i U H Q w)⟩
theorem X9 {e:Expr} {t t':TT} (h:QT X e t) (i:∀ U H Q,t' U H Q->t U H Q):QT X e t':=⟨λpins s U H Q I w=>h.h pins s U H Q I (i U H Q w)⟩
theorem C2r {e:Expr} {t t':TT} (h:QW X e t) (i:∀ U H Q,t' U H Q->t U H Q):QW X e t':=⟨λwh pins s U H Q I w=>h.h wh pins s U H Q I (i U H Q w)⟩
theorem B2j {e:List Expr} {t t':TA} (h:QA X e t) (i:∀ U H Q,t' U H Q->t U H Q):QA X e t':=⟨λpos pins s U H Q I w=>h.h pos pins s U H Q I (i U H Q w)⟩
theorem L9 {e:Stmt} {t t':TS} (h:QS X e t) (i:∀ D U H,t' D U H->t D U H):QS X e t':=⟨λpins s U H D I w=>h.h pins s U H D I (i D U H w)⟩
theorem B4q {e:List Stmt} {t t':TS} (h:QSs X e t) (i:∀ D U H,t' D U H->t D U H):QSs X e t':=⟨λpins s U H D I w=>h.h pins s U H D I (i D U H w)⟩
variable {ta tb te:TD} {tif:Y7} {c:C4->Prop}
section
variable {X:Cx} {K:W.Frag} {E:XK} {pos:Pos}
def Q5 (i:Nat):TD:=λO Q _=>∃ b d,O[i]?=some (some (b,d))/\Q d (if b=true then .own [i] else .old)
theorem B0 (i:Nat) {x:Str} (hN:X.N[i]?=some x:=by rfl) (hv:Vis X.env.scope x:=by first|exact Or.inl rfl|exact Or.inr (Or.inl rfl)|exact Or.inr (Or.inr rfl)) (hd:noD x:=by decide)
  (hcd:(x==("__classdict__":Str))=false:=by decide):DE X K E (.Name x pos) (Q5 i):=⟨C9 (qpv i hN hv hd hcd) λU H Q h=>by
 obtain ⟨H0,ν,O,Qd,Xd,S,⟨b,d,h1,h2⟩,q,_⟩:=h;obtain ⟨v,g1,g2⟩:=S.sl i b d h1;refine ⟨v,g1,q d _ v H h2 (A9.refl H) ?_⟩;cases b with
 | true=>exact ⟨ν i,g2,S.nd i,λa ha=>.inr ⟨i,by simp,ha⟩⟩
 | false=>exact g2⟩
def dC (d:D):TD:=λ_ Q _=>Q d .old
theorem B09 {e:Expr} {v:V} {d:D} (h:QE X e (tC v)) (hd:∀ H,Dn K H v d):DE X K E e (dC d):=⟨C9 h λU H Q h=>by
 obtain ⟨H0,ν,O,Qd,Xd,S,h1,q,_⟩:=h;exact q d _ v H h1 (A9.refl H) (hd _)⟩
theorem A4 {i:Int} {j}:DE X K E (.Constant (.int i) j pos) (dC (.int i)):=B09 C52 λ_=>.int _
theorem K9 {i:Bool} {j}:DE X K E (.Constant (.bool i) j pos) (dC (.bool i)):=B09 D0l λ_=>.bl _
theorem A9x {j}:DE X K E (.Constant .none j pos) (dC .none):=B09 C5d λ_=>.non
theorem C5 {x:Str} {j}:DE X K E (.Constant (.str x) j pos) (dC (.str x)):=B09 B5u λ_=>.str _
abbrev F2:=D->Kd->D->Kd->QD->Prop
def A2l (K:W.Frag) (r:R2) (f:F2):Prop:=∀ (Z:Addr->Prop) (ν:Nat->List Addr) (Hs H:Hp) (x y:V) (d:D) (k:Kd) (e:D) (l:Kd) (Qf:QD) (Q:VK),(∀ a,Hd Z ν a->Mu H a)->(∀ a,Hd Z ν a->Mu Hs a)->A9 Hs H->T0 K Z ν Hs H k x d->T0 K Z ν Hs H l y e ->
 f d k e l Qf->(∀ d k v H',Qf d k->A9 H H'->T0 K Z ν Hs H' k v d->Q v H')->r x y H Q
structure DOp (X:Cx) (K:W.Frag) (f:Value->Value->Sem Value) (g:F2):Prop where
 ex:∃ r,U1 X f r/\A2l K r g
structure DIx (X:Cx) (K:W.Frag) (g:F2):Prop where
 ex:∃ r,IxR X r/\A2l K r g
def dOp (f:F2) (ta tb:TD):TD:=λO Q Xd=>ta O (λd k=>tb O (λe l=>f d k e l Q) Xd) Xd
theorem A7p {r:R2} {f:F2} (p:A2l K r f):∀ U H Q,LE K E (dOp f ta tb) U H Q->tOp r (LE K E ta) (LE K E tb) U H Q:=λU H Q h=>by
 obtain ⟨H0,ν,O,Qd,Xd,S,h1,q,x⟩:=h;refine ⟨H0,ν,O,_,Xd,S,h1,λd k v H1 hd e1 r1=>?_,x⟩;refine ⟨H0,ν,O,_,Xd,S.same e1,hd,λd2 k2 v2 H2 hd2 e2 r2=>?_,x⟩;refine p Z0 ν H H2 v v2 d k d2 k2 Qd Q (S.same (e1.trans e2)).hl S.hl (e1.trans e2) (r1.same e2) (r2.later e1) hd2 λd3 k3 v3 H3 g1 g2 g3=>q d3 k3 v3 H3 g1 ((e1.trans e2).trans g2) g3
theorem A8 {op:Operator} {f:F2} {a b:Expr} (ho:DOp X K (binaryOp op) f) (ha:DE X K E a ta) (hb:DE X K E b tb):DE X K E (.BinOp a op b pos) (dOp f ta tb):=by
 obtain ⟨r,o,p⟩:=ho.ex;exact ⟨C9 (D37 o ha.q hb.q) (A7p p)⟩
theorem X0 {op:CmpOp} {f:F2} {a b:Expr} (ho:DOp X K (compareOp op) f) (ha:DE X K E a ta) (hb:DE X K E b tb) (hm:behindInMarks op b=false):DE X K E (.Compare a [op] [b] pos) (dOp f ta tb):=by
 obtain ⟨r,o,p⟩:=ho.ex;exact ⟨C9 (C42 o ha.q hb.q hm) (A7p p)⟩
theorem J6 {f:F2} {a b:Expr} (ho:DIx X K f) (ha:DE X K E a ta) (hb:DE X K E b tb) (hs:A9l b):DE X K E (.Subscript a b pos) (dOp f ta tb):=by
 obtain ⟨r,o,p⟩:=ho.ex;exact ⟨C9 (D28 o ha.q hb.q hs) (A7p p)⟩
theorem DOp.or {f g:F2} (a:DOp X K h f) (b:DOp X K h g):DOp X K h (λd k e l Q=>f d k e l Q\/g d k e l Q):=by
 obtain ⟨r,o,p⟩:=a.ex;obtain ⟨r',o',p'⟩:=b.ex;refine ⟨_,o.or o',λZ ν Hs H x y d k e l Qf Q h1 h0 h2 h3 h4 h5 h6=>?_⟩;rcases h5 with h5|h5
 ·exact .inl (p Z ν Hs H x y d k e l Qf Q h1 h0 h2 h3 h4 h5 h6)
 ·exact .inr (p' Z ν Hs H x y d k e l Qf Q h1 h0 h2 h3 h4 h5 h6)
theorem DOp.mono {f g:F2} (a:DOp X K h f) (i:∀ d k e l Q,g d k e l Q->f d k e l Q):DOp X K h g:=by
 obtain ⟨r,o,p⟩:=a.ex;exact ⟨r,o,λZ ν Hs H x y d k e l Qf Q h1 h0 h2 h3 h4 h5 h6=>p Z ν Hs H x y d k e l Qf Q h1 h0 h2 h3 h4 (i _ _ _ _ _ h5) h6⟩
def fI (C:Int->Int->Prop) (g:Int->Int->D):F2:=λd _ e _ Q=>match d,e with
 | .int i,.int j=>C i j/\Q (g i j) .old
 | _,_=>False
theorem A0a {C:Int->Int->Prop} {g:Int->Int->Int}:A2l K (rI C λi j=>.int (g i j)) (fI C λi j=>.int (g i j)):=λZ ν Hs H x y d k e l Qf Q _ _ _ h3 h4 h5 h6=>by
 unfold fI at h5;split at h5
 ·have a:=h3.den;have b:=h4.den;cases a;cases b;exact ⟨_,_,rfl,rfl,h5.1,h6 _ _ _ _ h5.2 (A9.refl H) (.int _)⟩
 ·exact h5.elim
def T2 (_ _:Int):Prop:=True
theorem A6n {g:Int->Int->Int}:A2l K (rI0 λi j=>.int (g i j)) (fI T2 λi j=>.int (g i j)):=λZ ν Hs H x y d k e l Qf Q _ _ _ h3 h4 h5 h6=>by
 unfold fI at h5;split at h5
 ·have a:=h3.den;have b:=h4.den;cases a;cases b;exact ⟨_,_,rfl,rfl,h6 _ _ _ _ h5.2 (A9.refl H) (.int _)⟩
 ·exact h5.elim
theorem A1m {g:Int->Int->Bool}:A2l K (rI0 λi j=>.bl (g i j)) (fI T2 λi j=>.bool (g i j)):=λZ ν Hs H x y d k e l Qf Q _ _ _ h3 h4 h5 h6=>by
 unfold fI at h5;split at h5
 ·have a:=h3.den;have b:=h4.den;cases a;cases b;exact ⟨_,_,rfl,rfl,h6 _ _ _ _ h5.2 (A9.refl H) (.bl _)⟩
 ·exact h5.elim
theorem N6:DOp X K (binaryOp .Sub) (fI T2 λi j=>.int (i - j)):=⟨_,D36,A6n⟩
theorem T7:DOp X K (binaryOp .Mult) (fI IntMulOk λi j=>.int (i*j)):=⟨_,C8h,A0a⟩
theorem K7:DOp X K (binaryOp .FloorDiv) (fI D3r λi j=>.int (i / j)):=⟨_,C6j,A0a⟩
theorem D7:DOp X K (binaryOp .Mod) (fI (λ_ j=>0 < j) λi j=>.int (i % j)):=⟨_,D2k,A0a⟩
theorem B68:DOp X K (binaryOp .Pow) (fI D2o λi j=>.int (i ^ j.toNat)):=⟨_,D4s,A0a⟩
theorem A7x:DOp X K (compareOp .Lt) (fI T2 λi j=>.bool (decide (i < j))):=⟨_,D9w,A1m⟩
theorem B2l:DOp X K (compareOp .Gt) (fI T2 λi j=>.bool (decide (j < i))):=⟨_,D79,A1m⟩
theorem D43:DOp X K (compareOp .GtE) (fI T2 λi j=>.bool (decide (j<=i))):=⟨_,D8r,A1m⟩
def fEq (f:Bool->Bool):F2:=λd _ e _ Q=>d.canLay0=true/\e.canLay0=true/\d.depth<=32/\Q (.bool (f (PyData.eqv d e))) .old
theorem B60 {f:Bool->Bool}:A2l K (B9x K f) (fEq f):=λZ ν Hs H x y d k e l Qf Q _ _ _ h3 h4 h5 h6 =>
 ⟨d,e,h3.den.deep h5.1,h4.den.deep h5.2.1,h5.1,h5.2.1,h5.2.2.1,h6 _ _ _ _ h5.2.2.2 (A9.refl H) (.bl _)⟩
theorem O0 (hK:X.K=K) (hu:X.A.units+64 < cLine):DOp X K (compareOp .Eq) (fEq id):=⟨_,D3m K hK hu,B60⟩
theorem A9d (hK:X.K=K) (hu:X.A.units+64 < cLine):DOp X K (compareOp .NotEq) (fEq not):=⟨_,D5j K hK hu,B60⟩
end
def Kd.isOld:Kd->Bool
 | .old=>true
 | .own []=>true
 | _=>false
def A1i (ds:List D) (k:Kd):Kd:=if flats ds=true then .own [] else if k.isOld=true then .old else .mix
def A01 (ds:List D) (k:Kd) (es:List D) (l:Kd):Kd:=if (flats ds&&flats es)=true then .own [] else if (k.isOld&&l.isOld)=true then .old else .mix
def Kd.sub:Kd->Kd
 | .own []=>.own []
 | .old=>.old
 | _=>.mix
section
variable {K:W.Frag} {Z:Addr->Prop} {Hs H:Hp} {ν:Nat->List Addr} {v:V} {d:D} {k l:Kd} {us vs:List V} {ds es:List D} {a p:Addr}
theorem T0.old (hl:∀ a,Hd Z ν a->Mu H a) (hn:∀ a,Hd Z ν a->Mu Hs a) (h:T0 K Z ν Hs H k v d) (hk:k.isOld=true):Dn K (N0 (Hd Z ν) H) v d:=by
 cases k with
 | own s =>
  cases s with
  | nil =>
   obtain ⟨ms,h1,_,h3⟩:=h;refine A5d hl h1 λa ha z=>?_;rcases h3 a ha with q|⟨j,q,_⟩
   ·obtain ⟨us,z⟩:=hn a z;rw[q] at z;cases z
   ·cases q
  | cons=>cases hk
 | old=>exact h
 | mix=>cases hk
theorem RsL.dens (h:RsL K Z ν Hs H k vs ds):Dns K H vs ds:=by
 cases k with
 | own s=>obtain ⟨ms,h,_⟩:=h;exact h.den
 | old=>exact Dns.same E4 h
 | mix=>exact h
theorem S7 (hl:∀ a,Hd Z ν a->Mu H a) (hs:A9 Hs H) (hp:H p=none) (h:RsL K Z ν Hs H k vs ds):T0 K Z ν Hs (upd H p (.lst vs)) k (.ref p) (.list ds):=by
 have sm:A9 H (upd H p (.lst vs)):=A9.new hp;cases k with
 | own s =>
  obtain ⟨ms,h1,h2,h3⟩:=h;refine ⟨p::ms,.lst B2 (h1.same sm),nodup_cons.mpr ⟨λhm=>?_,h2⟩,λa ha=>?_⟩
  ·obtain ⟨us,q⟩:=h1.there p hm;rw[hp] at q;cases q
  ·rcases zk.mp ha with rfl|ha
   ·exact .inl (hs.gone hp)
   ·exact h3 a ha
 | old =>
  have hz:¬ Hd Z ν p:=λz=>by obtain ⟨us,q⟩:=hl p z;rw[hp] at q;cases q
  exact .lst (E2 B2 hz) (Dns.same (R9 sm) h)
 | mix=>exact .lst B2 (Dns.same sm h)
theorem B1n (hl:∀ a,Hd Z ν a->Mu H a) (hs:A9 Hs H) (hp:H p=none) (h:RsL K Z ν Hs H k vs ds):T0 K Z ν Hs (upd H p (.tup vs)) k (.ref p) (.tuple ds):=by
 have sm:A9 H (upd H p (.tup vs)):=A9.new hp;cases k with
 | own s =>
  obtain ⟨ms,h1,h2,h3⟩:=h;exact ⟨ms,.tup (V2.of B2) (h1.same sm),h2,h3⟩
 | old =>
  have hz:¬ Hd Z ν p:=λz=>by obtain ⟨us,q⟩:=hl p z;rw[hp] at q;cases q
  exact .tup (V2.of (E2 B2 hz)) (Dns.same (R9 sm) h)
 | mix=>exact .tup (V2.of B2) (Dns.same sm h)
theorem E8 {v:V} (h:Dn K H v (.list ds)):∃ a us,v=.ref a/\H a=some (.lst us)/\Dns K H us ds:=by
 cases h with
 | lst h r=>exact ⟨_,_,rfl,h,r⟩
theorem K6 {v:V} (h:Dn K H v (.tuple ds)):∃ a us,v=.ref a/\V2 K H a us/\Dns K H us ds:=by
 cases h with
 | tup h r=>exact ⟨_,_,rfl,h,r⟩
theorem A29 (hl:∀ a,Hd Z ν a->Mu H a) (hn:∀ a,Hd Z ν a->Mu Hs a) (h:T0 K Z ν Hs H k v (.list ds)):∃ a us,v=.ref a/\H a=some (.lst us)/\Dns K H us ds/\RsL K Z ν Hs H (A1i ds k) us ds:=by
 obtain ⟨a,us,rfl,h1,h2⟩:=E8 h.den;refine ⟨a,us,rfl,h1,h2,?_⟩;unfold A1i;split
 ·exact ⟨[],P9 h2 ‹_›,nodup_nil,λ_ z=>by cases z⟩
 ·split
  ·have q:=h.old hl hn ‹_›;obtain ⟨a',us',e,q1,q2⟩:=E8 q;cases e;have:=(G7 q1).1;rw[h1] at this;cases this;exact q2
  ·exact h2
theorem C8b {Z:Addr->Prop} (hl:∀ a,Z a->Mu H a) (h:Dns K H us ds) (hf:flats ds=true):Dns K (N0 Z H) us ds :=
 B6m (λa o e n=>E2 e λz=>(hl a z).no e n) h hf
theorem B7n:flats ds=true->flats es=true->flats (ds++es)=true:=by
 intro h1 h2
 induction ds with
 | nil=>exact h2
 | cons x r ih =>
  simp only[flats,zb] at h1;show (flat x&&flats (r++es))=true;rw[h1.1,ih h1.2];rfl
theorem A9f (hl:∀ a,Hd Z ν a->Mu H a) (hk:k.isOld=true) (h:RsL K Z ν Hs H (A1i ds k) us ds):Dns K (N0 (Hd Z ν) H) us ds:=by
 have A:=h.dens;unfold A1i at h;split at h
 ·exact C8b hl A ‹_›
 ·exact h
theorem C8m (hl:∀ a,Hd Z ν a->Mu H a) (h:RsL K Z ν Hs H (A1i ds k) us ds) (g:RsL K Z ν Hs H (A1i es l) vs es):RsL K Z ν Hs H (A01 ds k es l) (us++vs) (ds++es):=by
 have A:=h.dens;have B:=g.dens;unfold A01;split
 case isTrue e =>
  rw[zb] at e;exact ⟨[],P9 (A.append B) (B7n e.1 e.2),nodup_nil,λ_ z=>by cases z⟩
 case isFalse e =>
  split
  case isFalse=>exact A.append B
  case isTrue q =>
   rw[zb] at q;exact (A9f hl q.1 h).append (A9f hl q.2 g)
theorem C1q (hl:∀ a,Hd Z ν a->Mu H a) (h:RsL K Z ν Hs H (A1i ds k) us ds) {us':List V} {ds':List D} (p:∀ {G:Hp},Dns K G us ds->Dns K G us' ds') (hf:flats ds=true->flats ds'=true):RsL K Z ν Hs H (A1i ds' k) us' ds':=by
 have A:=p h.dens;unfold A1i;split
 ·exact ⟨[],P9 A ‹_›,nodup_nil,λ_ z=>by cases z⟩
 ·split
  ·exact p (A9f hl ‹_› h)
  ·exact A
end
section
variable {X:Cx} {K:W.Frag} {E:XK} {pos:Pos}
def D9m:F2:=λd k e l Q=>match d,e with
 | .list ds,.list es=>ds.length+es.length<=1000000/\Q (.list (ds++es)) (A01 ds k es l)
 | _,_=>False
theorem L3:(1000000:Nat)<=sizeLine:=by decide
theorem B9o:A2l K D9z D9m:=λZ ν Hs H x y d k e l Qf Q hl hn hs h3 h4 h5 h6=>by
 unfold D9m at h5;split at h5
 ·obtain ⟨a,us,rfl,a1,a2,a3⟩:=A29 hl hn h3;obtain ⟨b,vs,rfl,b1,b2,b3⟩:=A29 hl hn h4;refine ⟨a,b,us,vs,rfl,rfl,a1,b1,?_,λp hp=>?_⟩
  ·rw[a2.length,b2.length];exact zn h5.1 L3
  ·exact h6 _ _ _ _ h5.2 (A9.new hp) (S7 hl hs hp (C8m hl a3 b3))
 ·exact h5.elim
def D98:F2:=λd _ e _ Q=>match d,e with
 | .str x,.str y=>x.length+y.length<=1000000/\Q (.str (x++y)) .old
 | _,_=>False
theorem C0o:DOp X K (binaryOp .Add) D98:=⟨_,B2m,λZ ν Hs H x y d k e l Qf Q _ _ _ h3 h4 h5 h6=>by
 unfold D98 at h5;split at h5
 ·have a:=h3.den;have b:=h4.den;cases a;cases b;exact ⟨_,_,rfl,rfl,zn h5.1 L3,h6 _ _ _ _ h5.2 (A9.refl H) (.str _)⟩
 ·exact h5.elim⟩
def C2e:F2:=λd k e l Q=>match d,e with
 | .int i,.int j=>Q (.int (i+j)) .old
 | .list ds,.list es=>ds.length+es.length<=1000000/\Q (.list (ds++es)) (A01 ds k es l)
 | .str x,.str y=>x.length+y.length<=1000000/\Q (.str (x++y)) .old
 | _,_=>False
theorem C3:DOp X K (binaryOp .Add) C2e:=DOp.mono (DOp.or ⟨_,D0t,A6n⟩ (DOp.or ⟨_,D2p,B9o⟩ C0o)) λd k e l Q h=>by
 unfold C2e at h;split at h
 ·exact .inl ⟨trivial,h⟩
 ·exact .inr (.inl h)
 ·exact .inr (.inr h)
 ·exact h.elim
def fIx:F2:=λd k e _ Q=>match d,e with
 | .list ds,.int i=>∃ x,atI ds i=some x/\Q x k.sub
 | .tuple ds,.int i=>∃ x,atI ds i=some x/\Q x k.sub
 | .str z,.int i=>z.length<=1000000/\∃ c,atI z.cps.toList i=some c/\Q (.str ⟨#[c]⟩) .old
 | .dict [(.none,.list ds)],.int i=>∃ x,atI ds i=some x/\Q x .old
 | _,_=>False
theorem B5m:∀ {us:List V} {ds:List D} {ns:List Addr} {j:Nat} {x:D},Ows K H us ds ns->ds[j]?=some x->∃ u ms,us[j]?=some u/\Ow K H u x ms/\(∀ a∈ms,a∈ns)/\(ns.Nodup->ms.Nodup)
 | _,_,_,0,x,.cons h r,e=>by simp at e;subst e;exact ⟨_,_,rfl,h,λa ha=>qz _ ha,λn=>(nodup_append.mp n).1⟩
 | _,_,_,j+1,x,.cons h r,e=>by
  simp at e;obtain ⟨u,ms,h1,h2,h3,h4⟩:=B5m r e;exact ⟨u,ms,by simpa using h1,h2,λa ha=>qw _ (h3 a ha),λn=>h4 (nodup_append.mp n).2.1⟩
theorem A9t {α:Type} {xs:List α} {i:Int} {x:α} (h:atI xs i=some x):∃ j,ixN xs.length i=some j/\xs[j]?=some x:=by
 unfold atI at h;cases e:ixN xs.length i with
 | none=>rw[e] at h;cases h
 | some j=>rw[e] at h;exact ⟨j,rfl,h⟩
theorem B3q {α:Type} {xs:List α} {i:Int} {j:Nat} {x:α} (h:ixN xs.length i=some j) (g:xs[j]?=some x):atI xs i=some x:=by
 unfold atI;rw[h];exact g
variable {us:List V} {v:V} {e:Expr}
theorem A72 {ds:List D} {ms:List Addr} (h:Ows K H us ds ms) (nd:ms.Nodup) (fr:∀ a∈ms,Hs a=none\/∃ j∈([]:List Nat),a∈ν j):∀ (j:Nat) x,ds[j]?=some x->∃ u,us[j]?=some u/\T0 K Z ν Hs H (.own []) u x:=λj x e=>by
 obtain ⟨u,ns,r1,r2,r3,r4⟩:=B5m h e;exact ⟨u,r1,ns,r2,r4 nd,λa ha=>fr a (r3 a ha)⟩
theorem A0t {ds:List D} (h:Dns K H us ds):∀ (j:Nat) x,ds[j]?=some x->∃ u,us[j]?=some u/\Dn K H u x:=λj x e=>h.get e
theorem B4b {k:Kd} {ds:List D} (h:T0 K Z ν Hs H k v (.tuple ds)):∃ a us,v=.ref a/\V2 K H a us/\us.length=ds.length/\Dns K H us ds/\∀ (j:Nat) x,ds[j]?=some x->∃ u,us[j]?=some u/\T0 K Z ν Hs H k.sub u x:=by
 unfold Kd.sub;split
 ·obtain ⟨ms,h1,h2,h3⟩:=h;cases h1 with
  | tup q1 q2=>exact ⟨_,_,rfl,q1,q2.den.length,q2.den,A72 q2 h2 h3⟩
 ·obtain ⟨a,us,rfl,q1,q2⟩:=K6 (show Dn K _ _ _ from h);exact ⟨a,us,rfl,A9.tup E4 q1,q2.length,Dns.same E4 q2,A0t q2⟩
 ·obtain ⟨a,us,rfl,q1,q2⟩:=K6 h.den;exact ⟨a,us,rfl,q1,q2.length,q2,A0t q2⟩
theorem B3e {k:Kd} {ds:List D} (h:T0 K Z ν Hs H k v (.list ds)):∃ a us,v=.ref a/\H a=some (.lst us)/\us.length=ds.length/\Dns K H us ds/\∀ (j:Nat) x,ds[j]?=some x->∃ u,us[j]?=some u/\T0 K Z ν Hs H k.sub u x:=by
 unfold Kd.sub;split
 ·obtain ⟨ms,h1,h2,h3⟩:=h;cases h1 with
  | lst q1 q2=>exact ⟨_,_,rfl,q1,q2.den.length,q2.den,A72 q2 (nodup_cons.mp h2).2 λa ha=>h3 a (qv _ ha)⟩
 ·obtain ⟨a,us,rfl,q1,q2⟩:=E8 (show Dn K _ _ _ from h);exact ⟨a,us,rfl,(G7 q1).1,q2.length,Dns.same E4 q2,A0t q2⟩
 ·obtain ⟨a,us,rfl,q1,q2⟩:=E8 h.den;exact ⟨a,us,rfl,q1,q2.length,q2,A0t q2⟩
theorem dix (hK:X.K=K):DIx X K fIx:=by
 subst hK;refine ⟨_,D4f,λZ ν Hs H x y d k e l Qf Q hl hn hs h3 h4 h5 h6=>?_⟩;unfold fIx at h5;split at h5
 ·obtain ⟨z,e1,q⟩:=h5;obtain ⟨j,e2,e3⟩:=A9t e1;obtain ⟨a,us,rfl,g1,g2,_,g3⟩:=B3e h3;obtain ⟨u,g4,g5⟩:=g3 j z e3;have:=h4.den;cases this;exact .inl ⟨a,us,_,u,rfl,rfl,O5.of g1,B3q (by rw[g2];exact e2) g4,h6 _ _ _ _ q (A9.refl H) g5⟩
 ·obtain ⟨z,e1,q⟩:=h5;obtain ⟨j,e2,e3⟩:=A9t e1;obtain ⟨a,us,rfl,g1,g2,_,g3⟩:=B4b h3;obtain ⟨u,g4,g5⟩:=g3 j z e3;have:=h4.den;cases this;exact .inr (.inl ⟨a,us,_,u,rfl,rfl,g1,B3q (by rw[g2];exact e2) g4,h6 _ _ _ _ q (A9.refl H) g5⟩)
 ·have a:=h3.den;have b:=h4.den;cases a;cases b;obtain ⟨h0,c,e1,q⟩:=h5;exact .inr (.inr ⟨_,_,c,rfl,rfl,zn h0 L3,e1,h6 _ _ _ _ q (A9.refl H) (.str _)⟩)
 ·obtain ⟨z,e1,q⟩:=h5;obtain ⟨j,e2,e3⟩:=A9t e1;have b:=h4.den;cases b;have a:=h3.den;cases a with
  | scr ns h =>
   rw[qk] at e3;cases en:ns[j]? with
   | none=>rw[en] at e3;cases e3
   | some n =>
    rw[en] at e3;cases e3;exact .inl ⟨_,_,_,V.int n,rfl,rfl,h,B3q (by rw[qf];rw[qf] at e2;exact e2) (by rw[qk,en];rfl),h6 _ _ _ _ q (A9.refl H) (.int _)⟩
 ·exact h5.elim
def A0x (xs:List D) (lo hi:Option Int):List D:=(xs.drop (HT.sIx xs.length 0 lo)).take (HT.sIx xs.length xs.length hi - HT.sIx xs.length 0 lo)
theorem Dns.take:∀ {us:List V} {ds:List D} (n:Nat),Dns K H us ds->Dns K H (us.take n) (ds.take n)
 | _,_,0,_=>by rw[List.take_zero,List.take_zero];exact .nil
 | _,_,n+1,.nil=>.nil
 | _,_,n+1,.cons h r=>.cons h (Dns.take n r)
theorem Dns.drop:∀ {us:List V} {ds:List D} (n:Nat),Dns K H us ds->Dns K H (us.drop n) (ds.drop n)
 | _,_,0,h=>h
 | _,_,n+1,.nil=>.nil
 | _,_,n+1,.cons h r=>Dns.drop n r
theorem M4:∀ {ds:List D},flats ds=true ↔ ∀ d∈ds,flat d=true
 | []=>by simp[flats]
 | d::r=>by simp[flats,M4 (ds:=r)]
def TDO:=C4->(Option Int->Prop)->XD->Prop
def LO (K:W.Frag) (E:XK) (t:TDO):TO:=λU H Q=>∃ H0 ν O Qd Xd,B8 K Z0 H0 ν O U H/\t O Qd Xd/\(∀ b H',Qd b->A9 H H'->Q b H')/\∀ C H',Xd C->A9 H0 H'->E (.ref C) none H'
structure DO (X:Cx) (K:W.Frag) (E:XK) (e:Option Expr) (t:TDO):Prop where
 q:QO X e (LO K E t)
def B5p:TDO:=λ_ Q _=>Q none
def D0h (t:TD):TDO:=λO Q Xd=>t O (λd _=>match d with|.int i=>Q (some i)|_=>False) Xd
theorem D5:DO X K E none B5p:=⟨⟨λpins s U H Q I h=>C3p.h pins s U H Q I (by
 obtain ⟨H0,ν,O,Qd,Xd,S,h1,q,_⟩:=h;exact q _ _ h1 (A9.refl H))⟩⟩
theorem C8 {t:TD} (he:DE X K E e t):DO X K E (some e) (D0h t):=⟨⟨λpins s U H Q I h=>(B9l he.q).h pins s U H Q I (by
 obtain ⟨H0,ν,O,Qd,Xd,S,h1,q,x⟩:=h;refine ⟨H0,ν,O,_,Xd,S,h1,λd k v H' g1 g2 g3=>?_,x⟩;have:=g3.den;cases d with
 | int i=>cases this;exact ⟨i,rfl,q _ _ g1 g2⟩
 | _=>exact g1.elim)⟩⟩
abbrev F3:=D->Kd->Option Int->Option Int->QD->Prop
def fSl:F3:=λd k lo hi Q=>match d with
 | .list ds=>Q (.list (A0x ds lo hi)) (A1i (A0x ds lo hi) k)
 | _=>False
def dSl (f:F3) (te:TD) (tl th:TDO):TD:=λO Q Xd=>te O (λd k=>tl O (λl=>th O (λh=>f d k l h Q) Xd) Xd) Xd
theorem A6y {lo hi:Option Expr} {tl th:TDO} (hK:X.K=K) (he:DE X K E e te) (hl:DO X K E lo tl) (hu:DO X K E hi th):DE X K E (.Subscript e (.Slice lo hi none p2) pos) (dSl fSl te tl th):=⟨by
 subst hK;refine C9 (A2s C73 he.q hl.q hu.q) λU H Q h=>?_;obtain ⟨H0,ν,O,Qd,Xd,S,h1,q,x⟩:=h;refine ⟨H0,ν,O,_,Xd,S,h1,λd k v H1 g1 e1 r1=>?_,x⟩;refine ⟨H0,ν,O,_,Xd,S.same e1,g1,λl H2 g2 e2=>?_,x⟩;refine ⟨H0,ν,O,_,Xd,S.same (e1.trans e2),g2,λu H3 g3 e3=>?_,x⟩;have e03:=(e1.trans e2).trans e3;have r3:=(r1.same e2).same e3;have hl3:=(S.same e03).hl;cases d with
 | list ds =>
  obtain ⟨a,us,rfl,a1,a2,a3⟩:=A29 hl3 S.hl r3;refine ⟨a,us,rfl,O5.of a1,λp hp=>q _ _ _ _ g3 (e03.trans (A9.new hp)) (S7 hl3 e03 hp ?_)⟩;refine C1q hl3 a3 (λ{G} hd=>?_) λhf=>M4.mpr λd hd=>M4.mp hf d (mem_of_mem_drop (mem_of_mem_take hd));unfold A67 A0x;rw[hd.length];exact (hd.drop _).take _
 | _=>exact g3.elim⟩
def C8q (s t:List Nat):Bool:=s.all λi=>!t.contains i
def N7 (d:D) (k:Kd) (l:Kd):Kd:=match (if flat d=true then Kd.own [] else k),l with
 | .own s,.own t=>if C8q s t=true then .own (s++t) else .mix
 | .own [],.old=>.old
 | .old,.own []=>.old
 | .old,.old=>.old
 | _,_=>.mix
def D9u:TDA:=λ_ Q _=>Q [] (.own [])
def D01 (ta:TD) (tr:TDA):TDA:=λO Q Xd=>ta O (λd k=>tr O (λds l=>Q (d::ds) (N7 d k l)) Xd) Xd
theorem RsL.old0 {k:Kd} {ds:List D} (hl:∀ a,Hd Z ν a->Mu H a) (hn:∀ a,Hd Z ν a->Mu Hs a) (h:RsL K Z ν Hs H k us ds) (hk:k.isOld=true):Dns K (N0 (Hd Z ν) H) us ds:=by
 cases k with
 | own s =>
  cases s with
  | nil =>
   obtain ⟨ms,h1,_,h3⟩:=h;refine C5q hl h1 λa ha z=>?_;rcases h3 a ha with q|⟨j,q,_⟩
   ·obtain ⟨us,z⟩:=hn a z;rw[q] at z;cases z
   ·cases q
  | cons=>cases hk
 | old=>exact h
 | mix=>cases hk
theorem A5t {k l:Kd} {d:D} {ds:List D} (hn:∀ a,Hd Z ν a->Mu Hs a) (dj:∀ i j a,a∈ν i->a∈ν j->i=j) (e1:A9 Hs H1) (e2:A9 H1 H2) (h:T0 K Z ν Hs H1 k v d) (g:RsL K Z ν H1 H2 l us ds) :
  RsL K Z ν Hs H2 (N7 d k l) (v::us) (d::ds):=by
 have hl1:∀ a,Hd Z ν a->Mu H1 a:=λa z=>by obtain ⟨us,q⟩:=hn a z;exact ⟨us,e1 _ _ q⟩
 have hl2:∀ a,Hd Z ν a->Mu H2 a:=λa z=>by obtain ⟨us,q⟩:=hl1 a z;exact ⟨us,e2 _ _ q⟩
 have h':T0 K Z ν Hs H1 (if flat d=true then Kd.own [] else k) v d:=by
  split
  ·exact T0.flat h.den ‹_› hl1 _
  ·exact h
 have all:Dns K H2 (v::us) (d::ds):=.cons (Dn.same e2 h.den) g.dens;have old:∀ {k':Kd},T0 K Z ν Hs H1 k' v d->k'.isOld=true->l.isOld=true->Dns K (N0 (Hd Z ν) H2) (v::us) (d::ds):=λ{k'} r1 q1 q2=>.cons ((r1.same e2).old hl2 hn q1) (g.old0 hl2 hl1 q2);unfold N7;generalize (if flat d=true then Kd.own [] else k)=k' at h';split
 ·split
  case isTrue q =>
   obtain ⟨ms,a1,a2,a3⟩:=h';obtain ⟨ns,b1,b2,b3⟩:=g;rename_i s t;refine ⟨ms++ns,.cons (a1.same e2) b1,nodup_append.mpr ⟨a2,b2,λx hx y hy e=>?_⟩,λa ha=>?_⟩
   ·subst e;obtain ⟨us',z1⟩:=a1.there x hx;rcases b3 x hy with z|⟨j,hj,z⟩
    ·rw[z1] at z;cases z
    ·rcases a3 x hx with z'|⟨i,hi,z'⟩
     ·obtain ⟨us'',z''⟩:=hn x (.inr ⟨j,z⟩);rw[z'] at z'';cases z''
     ·have:=dj i j x z' z;subst this;unfold C8q at q;have:=all_eq_true.mp q i hi;simp at this;exact this hj
   ·rcases zj.mp ha with ha|ha
    ·rcases a3 a ha with z|⟨j,hj,z⟩
     ·exact .inl z
     ·exact .inr ⟨j,qz _ hj,z⟩
    ·rcases b3 a ha with z|⟨j,hj,z⟩
     ·exact .inl (e1.gone z)
     ·exact .inr ⟨j,qw _ hj,z⟩
  case isFalse=>exact all
 ·exact old h' rfl rfl
 ·exact old h' rfl rfl
 ·exact old h' rfl rfl
 ·exact all
theorem A2:DA X K E [] D9u:=⟨B2j T8 λU H Q h=>by
 obtain ⟨H0,ν,O,Qd,Xd,S,h1,q,x⟩:=h;exact q _ _ _ _ h1 (A9.refl H) ⟨[],.nil,nodup_nil,λ_ z=>by cases z⟩⟩
theorem A0 {es:List Expr} {t:TDA} (ha:DE X K E e te) (hr:DA X K E es t) (hs:stE e es X.env:=by rfl):DA X K E (e::es) (D01 te t):=⟨B2j (K0 ha.q hr.q hs) λU H Q h=>by
 obtain ⟨H0,ν,O,Qd,Xd,S,h1,q,x⟩:=h;refine ⟨H0,ν,O,_,Xd,S,h1,λd k v H1 g1 e1 r1=>?_,x⟩;refine ⟨H0,ν,O,_,Xd,S.same e1,g1,λds l us H2 g2 e2 r2=>?_,x⟩;exact q _ _ _ _ g2 (e1.trans e2) (A5t S.hl S.dj e1 e2 r1 r2)⟩
def D75 (t:TDA):TD:=λO Q Xd=>t O (λds k=>ds.length<=1000/\Q (.tuple ds) k) Xd
def D65 (t:TDA):TD:=λO Q Xd=>t O (λds k=>ds.length<=1000/\Q (.list ds) k) Xd
theorem D9 {es:List Expr} {t:TDA} {x1} (h:DA X K E es t):DE X K E (.Tuple es x1 pos) (D75 t):=⟨C9 (B4r h.q) λU H Q h=>by
 obtain ⟨H0,ν,O,Qd,Xd,S,h1,q,x⟩:=h;refine ⟨H0,ν,O,_,Xd,S,h1,λds k us H1 g1 e1 r1=>?_,x⟩;refine ⟨by rw[r1.dens.length];exact zn g1.1 (by decide),λp hp=>q _ _ _ _ g1.2 (e1.trans (A9.new hp)) (B1n (S.same e1).hl e1 hp r1)⟩⟩
theorem G5 {es:List Expr} {t:TDA} (h:DA X K E es t):DE X K E (.List es pos) (D65 t):=⟨C9 (C7m h.q) λU H Q h=>by
 obtain ⟨H0,ν,O,Qd,Xd,S,h1,q,x⟩:=h;refine ⟨H0,ν,O,_,Xd,S,h1,λds k us H1 g1 e1 r1=>?_,x⟩;refine ⟨by rw[r1.dens.length];exact zn g1.1 (by decide),λp hp=>q _ _ _ _ g1.2 (e1.trans (A9.new hp)) (S7 (S.same e1).hl e1 hp r1)⟩⟩
end
section
variable {X:Cx} {K:W.Frag} {E:XK} {pos:Pos} {a b c e:Expr} {rest:List Expr} {ta tb tc:TD} {tA tB:Y7}
theorem A2a {v:V} {x:Bool} (h:Dn K H v (.bool x)):v=.bl x:=by cases h;rfl
theorem R4 {v:V} {x:Int} (h:Dn K H v (.int x)):v=.int x:=by cases h;rfl
def D8b (ta:TD):TD:=λO Q Xd=>ta O (λd _=>match d with|.int i=>Q (.int (-i)) .old|_=>False) Xd
theorem A8f (ha:DE X K E a ta):DE X K E (.UnaryOp .USub a pos) (D8b ta):=⟨C9 (D2z D52 ha.q) λU H Q h=>by
 obtain ⟨H0,ν,O,Qd,Xd,S,h1,q,x⟩:=h;refine ⟨H0,ν,O,_,Xd,S,h1,λd k v H' g1 g2 g3=>?_,x⟩;cases d with
 | int i=>exact ⟨i,R4 g3.den,q _ _ _ _ g1 g2 (.int _)⟩
 | _=>exact g1.elim⟩
def C9v (ta:TD):TD:=λO Q Xd=>ta O (λd _=>match d with|.bool i=>Q (.bool (!i)) .old|_=>False) Xd
theorem A9j (ha:DE X K E a ta):DE X K E (.UnaryOp .Not a pos) (C9v ta):=⟨C9 (C6c ha.q) λU H Q h=>by
 obtain ⟨H0,ν,O,Qd,Xd,S,h1,q,x⟩:=h;refine ⟨H0,ν,O,_,Xd,S,h1,λd k v H' g1 g2 g3=>?_,x⟩;cases d with
 | bool i=>exact ⟨i,A2a g3.den,q _ _ _ _ g1 g2 (.bl _)⟩
 | _=>exact g1.elim⟩
def C9h (ta tb:TD):TD:=λO Q Xd=>ta O (λd _=>match d with|.bool i=>if i=true then tb O Q Xd else Q (.bool false) .old|_=>False) Xd
theorem X7 {op} (h:DE X K E a ta):DE X K E (.BoolOp op [a] pos) ta:=⟨C4w h.q⟩
theorem X8 (ha:DE X K E a ta) (hb:DE X K E (.BoolOp .And (b::rest) pos) tb):DE X K E (.BoolOp .And (a::b::rest) pos) (C9h ta tb):=⟨C9 (C6x ha.q hb.q) λU H Q h=>by
 obtain ⟨H0,ν,O,Qd,Xd,S,h1,q,x⟩:=h;refine ⟨H0,ν,O,_,Xd,S,h1,λd k v H' g1 g2 g3=>?_,x⟩;cases d with
 | bool i =>
  refine ⟨i,A2a g3.den,?_⟩;cases i with
  | true=>exact ⟨H0,ν,O,Qd,Xd,S.same g2,g1,λd k v H'' a1 a2 a3=>q d k v H'' a1 (g2.trans a2) (a3.later g2),x⟩
  | false=>exact q _ _ _ _ g1 g2 (.bl _)
 | _=>exact g1.elim⟩
def dB (ta:TD):Y7:=λO Q Xd=>ta O (λd _=>match d with|.bool i=>Q i|_=>False) Xd
theorem C0l:∀ {U:L2.St} {H:Hp} {Q:Bool->Hp->Prop},LT K E (dB ta) U H Q->L2.tB (LE K E ta) U H Q:=λ{U H Q} h=>by
 obtain ⟨H0,ν,O,Qd,Xd,S,h1,q,x⟩:=h;refine ⟨H0,ν,O,_,Xd,S,h1,λd k v H' g1 g2 g3=>?_,x⟩;cases d with
 | bool i=>exact ⟨i,A2a g3.den,q _ _ g1 g2⟩
 | _=>exact g1.elim
theorem N8 (h:DE X K E e ta) (he:∀ whole,isTrue e X.env whole=(do let v <- whole;standAt e.pos;holding [v] (truthy v)):=by intro _;rfl):DT X K E e (dB ta):=⟨X9 (C83 h.q he) λU H Q h=>C0l h⟩
def C5s:D->Option Bool
 | .none=>some false
 | .bool b=>some b
 | .int i=>some (!decide (i=0))
 | .str _=>Option.none
 | .list ds=>some (!ds.isEmpty)
 | .tuple ds=>some (!ds.isEmpty)
 | .dict _=>Option.none
def D9h (ta:TD):Y7:=λO Q Xd=>ta O (λd _=>∃ b,C5s d=some b/\Q b) Xd
theorem D3 {op:CmpOp} {f:F2} (ho:DOp X K (compareOp op) f) (ha:DE X K E a ta) (hb:DE X K E b tb) (hm:behindInMarks op b=false):DT X K E (.Compare a [op] [b] pos) (dB (dOp f ta tb)):=by
 obtain ⟨r,o,p⟩:=ho.ex;refine ⟨X9 (C26 o ha.q hb.q hm) λU H Q h=>?_⟩;obtain ⟨H0,ν,O,Qd,Xd,S,h1,q,x⟩:=h;refine A7p p U H _ ⟨H0,ν,O,_,Xd,S,h1,λd k v H' g1 g2 g3=>?_,x⟩;cases d with
 | bool i=>exact ⟨i,A2a g3.den,q _ _ g1 g2⟩
 | _=>exact g1.elim
def D3f (tA tB:Y7):Y7:=λO Q Xd=>tA O (λb=>if b=true then tB O Q Xd else Q false) Xd
def dOr (tA tB:Y7):Y7:=λO Q Xd=>tA O (λb=>if b=true then Q true else tB O Q Xd) Xd
def D8s (tA:Y7):Y7:=λO Q Xd=>tA O (λb=>Q (!b)) Xd
theorem A6s (h:DW X K E e tA):DT X K E e tA:=⟨D7a h.q⟩
theorem B25 (ha:DT X K E a tA):DW X K E (.BoolOp .And [a] pos) tA:=⟨B9f ha.q⟩
theorem A3x (ha:DT X K E a tA):DW X K E (.BoolOp .Or [a] pos) tA:=⟨C5g ha.q⟩
theorem D5h:∀ U H Q,LT K E (D3f tA tB) U H Q->D3v (LT K E tA) (LT K E tB) U H Q:=λU H Q h=>by
 obtain ⟨H0,ν,O,Qd,Xd,S,h1,q,x⟩:=h;refine ⟨H0,ν,O,_,Xd,S,h1,λb H' g1 g2=>?_,x⟩;cases b with
 | true=>exact ⟨H0,ν,O,Qd,Xd,S.same g2,g1,λb H'' a1 a2=>q b H'' a1 (g2.trans a2),x⟩
 | false=>exact q _ _ g1 g2
theorem D7z:∀ U H Q,LT K E (dOr tA tB) U H Q->tOr (LT K E tA) (LT K E tB) U H Q:=λU H Q h=>by
 obtain ⟨H0,ν,O,Qd,Xd,S,h1,q,x⟩:=h;refine ⟨H0,ν,O,_,Xd,S,h1,λb H' g1 g2=>?_,x⟩;cases b with
 | false=>exact ⟨H0,ν,O,Qd,Xd,S.same g2,g1,λb H'' a1 a2=>q b H'' a1 (g2.trans a2),x⟩
 | true=>exact q _ _ g1 g2
theorem B5z (ha:DT X K E a tA) (hb:DW X K E (.BoolOp .And (b::rest) pos) tB):DW X K E (.BoolOp .And (a::b::rest) pos) (D3f tA tB):=⟨C2r (C5n ha.q hb.q) D5h⟩
theorem A4f (ha:DT X K E a tA) (hb:DW X K E (.BoolOp .Or (b::rest) pos) tB):DW X K E (.BoolOp .Or (a::b::rest) pos) (dOr tA tB):=⟨C2r (D1a ha.q hb.q) D7z⟩
theorem A0q (ha:DT X K E a tA):DT X K E (.UnaryOp .Not a pos) (D8s tA):=⟨X9 (C75 ha.q) λU H Q h=>by
 obtain ⟨H0,ν,O,Qd,Xd,S,h1,q,x⟩:=h;exact ⟨H0,ν,O,_,Xd,S,h1,λb H' g1 g2=>q _ _ g1 g2,x⟩⟩
def A9v (f g:Int->Int->Bool) (ta tb tc:TD):TD:=λO Q Xd=>ta O (λx _=>tb O (λy _=>match x,y with
 | .int i,.int j=>if f i j=true then tc O (λz _=>match z with|.int l=>Q (.bool (g j l)) .old|_=>False) Xd else Q (.bool false) .old
 | _,_=>False) Xd) Xd
theorem C2t {f g:Int->Int->Bool}:∀ U H Q,LE K E (A9v f g ta tb tc) U H Q->B3v (rI0 λi j=>.bl (f i j)) (rI0 λi j=>.bl (g i j)) (LE K E ta) (LE K E tb) (LE K E tc) U H Q:=λU H Q h=>by
 obtain ⟨H0,ν,O,Qd,Xd,S,h1,q,x⟩:=h;refine ⟨H0,ν,O,_,Xd,S,h1,λd k v H1 g1 e1 r1=>?_,x⟩;refine ⟨H0,ν,O,_,Xd,S.same e1,g1,λd2 k2 v2 H2 g2 e2 r2=>?_,x⟩;cases d with
 | int i =>
  cases d2 with
  | int j =>
   refine ⟨i,j,R4 r1.den,R4 r2.den,_,rfl,?_⟩;cases hf:f i j with
   | true =>
    rw[qm rfl];refine ⟨H0,ν,O,_,Xd,S.same (e1.trans e2),(by simp only[hf,if_true] at g2;exact g2),λd3 k3 v3 H3 g3 e3 r3=>?_,x⟩;cases d3 with
    | int l=>exact ⟨j,l,R4 r2.den,R4 r3.den,q _ _ _ _ g3 ((e1.trans e2).trans e3) (.bl _)⟩
    | _=>exact g3.elim
   | false =>
    rw[qo qt];exact q (.bool false) .old _ _ (by simpa only[hf,qo qt] using g2) (e1.trans e2) (.bl _)
  | _=>exact g2.elim
 | _=>exact g2.elim
theorem A7e {op:CmpOp} {f g:Int->Int->Bool} (ho:U1 X (compareOp op) (rI0 λi j=>.bl (f i j))) (ho':U1 X (compareOp op') (rI0 λi j=>.bl (g i j))) (ha:DE X K E a ta) (hb:DE X K E b tb) (hc:DE X K E c tc)
  (hm:lastMarks [op,op'] [b,c]=false:=by with_unfolding_all rfl):DT X K E (.Compare a [op,op'] [b,c] pos) (dB (A9v f g ta tb tc)):=⟨X9 (B8i ho ho' ha.q hb.q hc.q hm) λU H Q h=>by
 obtain ⟨H0,ν,O,Qd,Xd,S,h1,q,x⟩:=h;refine C2t U H _ ⟨H0,ν,O,_,Xd,S,h1,λd k v H' g1 g2 g3=>?_,x⟩;cases d with
 | bool i=>exact ⟨i,A2a g3.den,q _ _ g1 g2⟩
 | _=>exact g1.elim⟩
abbrev W1:=List D->(D->Bool->Prop)->XD->Prop
def RR (K:W.Frag) (H H':Hp):Bool->V->D->Prop
 | true,v,d=>∃ ms,Ow K H' v d ms/\ms.Nodup/\∀ a∈ms,H a=none
 | false,v,d=>Dn K H' v d
def G6 (K:W.Frag) (sp:W1):Sp:=λvs H Q E=>∃ ds Qd Xd,Dns K H vs ds/\sp ds Qd Xd/\(∀ d o v H',Qd d o->A9 H H'->RR K H H' o v d->Q v H')/\∀ C H',Xd C->A9 H H'->E (.ref C) none H'
def A84 (o:Bool):Kd:=if o=true then .own [] else .mix
def C1x (sp:W1) (t:TDA):TD:=λO Q Xd=>t O (λds _=>sp ds (λd o=>Q d (A84 o)) Xd) Xd
theorem B2h {o:Bool} {v:V} {d:D} (e:A9 Hs H) (h:RR K H H' o v d):T0 K Z ν Hs H' (A84 o) v d:=by
 cases o with
 | true=>obtain ⟨ms,h1,h2,h3⟩:=h;exact ⟨ms,h1,h2,λa ha=>.inl (e.gone (h3 a ha))⟩
 | false=>exact h
theorem C58 {sp:W1} {t:TDA}:∀ U H Q,LE K E (C1x sp t) U H Q->LA K E t U H λvs H1=>G6 K sp vs H1 Q E:=λU H Q h=>by
 obtain ⟨H0,ν,O,Qd,Xd,S,h1,q,x⟩:=h;refine ⟨H0,ν,O,_,Xd,S,h1,λds k vs H1 g1 e1 r1=>?_,x⟩;exact ⟨ds,_,Xd,r1.dens,g1,λd o v H' a1 a2 a3=>q _ _ _ _ a1 (e1.trans a2) (B2h e1 a3),λC H' a1 a2=>x C H' a1 ((S.sm.trans e1).trans a2)⟩
def B3h (sp:W1) (t:TDA):TD:=λO Q Xd=>t O (λds _=>sp ds (λd o=>Q d (A84 o)) (λ_=>False)) Xd
theorem C38 {sp:W1} {t:TDA}:∀ U H Q,LE K E (B3h sp t) U H Q->LA K E t U H λvs H1=>G6 K sp vs H1 Q E0:=λU H Q h=>by
 obtain ⟨H0,ν,O,Qd,Xd,S,h1,q,x⟩:=h;refine ⟨H0,ν,O,_,Xd,S,h1,λds k vs H1 g1 e1 r1=>?_,x⟩;exact ⟨ds,_,_,r1.dens,g1,λd o v H' a1 a2 a3=>q _ _ _ _ a1 (e1.trans a2) (B2h e1 a3),λC H' z _=>z.elim⟩
theorem C7 {x:Str} {k:Nat} {sp:W1} {es:List Expr} {t:TDA} (D:Df X.prog X.w X.K X.mg X.base x ps k (G6 K sp)) (hr:O3 k X.A) (ha:DA X K E (e::es) t) (hg:Gl X x:=by rfl) (hdb:noD x:=by decide)
  (he:stE e es X.env:=by rfl) (hpl:stB pos es X.env:=by rfl):DE X K E (.Call (.Name x p) (e::es) [] pos) (B3h sp t) :=
 ⟨C9 (D2f D hr ha.q hg hdb he hpl) λU H Q h=>by
  show LA K E t U H λvs H1=>G6 K sp (vs++[]) H1 Q E0;simp only[append_nil];exact C38 U H Q h⟩
theorem A4d {x:Str} {k:Nat} {sp:W1} {es:List Expr} {t:TDA} (D:DfE X.prog X.w X.K X.mg X.base x ps k (G6 K sp)) (hx:A1r (CXE X.prog X.w X.base) X E) (hr:O3 k X.A) (ha:DA X K E (e::es) t) (hg:Gl X x:=by rfl) (hdb:noD x:=by decide)
  (he:stE e es X.env:=by rfl) (hpl:stB pos es X.env:=by rfl):DE X K E (.Call (.Name x p) (e::es) [] pos) (C1x sp t) :=
 ⟨C9 (C7n D hx hr ha.q hg hdb he hpl) λU H Q h=>by
  show LA K E t U H λvs H1=>G6 K sp (vs++[]) H1 Q E;simp only[append_nil];exact C58 U H Q h⟩
abbrev FA:=List D->Kd->QD->Prop
def D00 (K:W.Frag) (r:List V->Hp->VK->Prop) (f:FA):Prop:=∀ (Z:Addr->Prop) (ν:Nat->List Addr) (Hs H:Hp) (xs:List V) (ds:List D) (k:Kd) (Qf:QD) (Q:VK),(∀ a,Hd Z ν a->Mu H a)->(∀ a,Hd Z ν a->Mu Hs a)->A9 Hs H->RsL K Z ν Hs H k xs ds ->
 f ds k Qf->(∀ d k v H',Qf d k->A9 H H'->T0 K Z ν Hs H' k v d->Q v H')->r xs H Q
structure DCl (X:Cx) (K:W.Frag) (f:Value) (g:FA):Prop where
 ex:∃ r,J2 X f r/\D00 K r g
def dCB (g:FA) (t:TDA):TD:=λO Q Xd=>t O (λds k=>g ds k Q) Xd
theorem C9l {r:List V->Hp->VK->Prop} {g:FA} {t:TDA} (p:D00 K r g):∀ U H Q,LE K E (dCB g t) U H Q->tCB r (LA K E t) U H Q:=λU H Q h=>by
 obtain ⟨H0,ν,O,Qd,Xd,S,h1,q,x⟩:=h;refine ⟨H0,ν,O,_,Xd,S,h1,λds k vs H1 g1 e1 r1=>?_,x⟩;exact p Z0 ν H H1 vs ds k _ _ (S.same e1).hl S.hl e1 r1 g1 λd k v H' a1 a2 a3=>q d k v H' a1 (e1.trans a2) a3
theorem B3 {id:String} {g:FA} {x:Str} {es:List Expr} {t:TDA} (hc:DCl X K (.builtin id) g) (hg:Gl X x) (hm:X.mg x=none) (hv:bootBuiltins x=some (.builtin id)) (ha:DA X K E (e::es) t) (hn:x≠"__name__":=by decide) (hdb:noD x:=by decide)
  (he:stE e es X.env:=by rfl) (hpl:stB pos es X.env:=by rfl):DE X K E (.Call (.Name x p) (e::es) [] pos) (dCB g t):=by
 obtain ⟨r,c,pr⟩:=hc.ex;exact ⟨C9 (V3 c hg hm hv ha.q hn hdb he hpl) (C9l pr)⟩
theorem A1t {T:String} {g:FA} {x:Str} {es:List Expr} {t:TDA} (hc:DCl X K (.type T) g) (hg:Gl X x) (hm:X.mg x=none) (hv:bootBuiltins x=some (.type T)) (ha:DA X K E (e::es) t) (hn:x≠"__name__":=by decide) (hdb:noD x:=by decide)
  (he:stE e es X.env:=by rfl) (hpl:stB pos es X.env:=by rfl):DE X K E (.Call (.Name x p) (e::es) [] pos) (dCB g t):=by
 obtain ⟨r,c,pr⟩:=hc.ex;exact ⟨C9 (B2p c hg hm hv ha.q hn hdb he hpl) (C9l pr)⟩
theorem Y9 {xs:List V} {d:D} (h:Dns K H xs [d]):∃ v,xs=[v]/\Dn K H v d:=by
 cases h with
 | cons h r=>cases r;exact ⟨_,rfl,h⟩
theorem E1k {xs:List V} {d e:D} (h:Dns K H xs [d,e]):∃ v w',xs=[v,w']/\Dn K H v d/\Dn K H w' e:=by
 cases h with
 | cons h r=>obtain ⟨v,rfl,g⟩:=Y9 r;exact ⟨_,_,rfl,h,g⟩
def C2x:FA:=λds _ Q=>match ds with
 | [.list xs]=>Q (.int xs.length) .old
 | [.tuple xs]=>Q (.int xs.length) .old
 | [.dict [(.none,.list xs)]]=>Q (.int xs.length) .old
 | _=>False
theorem B2a {v:V} {ds:List D} (h:Dn K H v (.dict [(.none,.list ds)])):∃ (a:Addr) (ns:List Int),v=.ref a/\O5 K H a (ns.map V.int)/\ds=ns.map PyData.int:=by
 cases h with
 | scr ns h=>exact ⟨_,_,rfl,h,rfl⟩
theorem A0m (hK:X.K=K):DCl X K (.builtin "len") C2x:=⟨_,B8k K hK,λZ ν Hs H xs ds k Qf Q _ _ _ h g q=>by
 unfold C2x at g;split at g
 ·obtain ⟨v,rfl,h1⟩:=Y9 h.dens;obtain ⟨a,us,rfl,g1,g2⟩:=E8 h1;exact ⟨a,us,rfl,.inl (O5.of g1),q _ _ _ _ g (A9.refl H) (by rw[g2.length];exact .int _)⟩
 ·obtain ⟨v,rfl,h1⟩:=Y9 h.dens;obtain ⟨a,us,rfl,g1,g2⟩:=K6 h1;exact ⟨a,us,rfl,.inr g1,q _ _ _ _ g (A9.refl H) (by rw[g2.length];exact .int _)⟩
 ·obtain ⟨v,rfl,h1⟩:=Y9 h.dens;obtain ⟨a,ns,rfl,g1,rfl⟩:=B2a h1;exact ⟨a,_,rfl,.inl g1,q _ _ _ _ g (A9.refl H) (by rw[qf,qf];exact .int _)⟩
 ·exact g.elim⟩
def A17:List D->Option (List Int)
 | []=>some []
 | .int i::r=>(A17 r).map (i::·)
 | _=>Option.none
def A1c:List D->Option (List Bool)
 | []=>some []
 | .bool i::r=>(A1c r).map (i::·)
 | _=>Option.none
theorem A4i:∀ {us:List V} {ds:List D} {ns:List Int},Dns K H us ds->A17 ds=some ns->us=ns.map V.int
 | _,_,_,.nil,e=>by cases e;rfl
 | _,_,ns,.cons h r,e=>by
  cases h<;>first|(simp only[A51,A17] at e;first|cases e|(rw[Option.map_eq_some_iff] at e;obtain ⟨ms,e1,rfl⟩:=e;rw[A4i r e1];rfl))
theorem A0w:∀ {us:List V} {ds:List D} {ns:List Bool},Dns K H us ds->A1c ds=some ns->us=ns.map V.bl
 | _,_,_,.nil,e=>by cases e;rfl
 | _,_,ns,.cons h r,e=>by
  cases h<;>first|(simp only[A51,A1c] at e;first|cases e|(rw[Option.map_eq_some_iff] at e;obtain ⟨ms,e1,rfl⟩:=e;rw[A0w r e1];rfl))
def E3j:FA:=λds _ Q=>match ds with
 | [.list xs]=>∃ ns,A17 xs=some ns/\Q (.int ns.sum) .old
 | _=>False
def B2s (f:List Bool->Bool):FA:=λds _ Q=>match ds with
 | [.list xs]=>∃ ns,A1c xs=some ns/\Q (.bool (f ns)) .old
 | _=>False
theorem C7u (hK:X.K=K) (hc:X.calm=true):DCl X K (.builtin "all") (B2s λl=>l.all id):=⟨_,B73 K hK hc,λZ ν Hs H xs ds k Qf Q _ _ _ h g q=>by
 unfold B2s at g;split at g
 ·obtain ⟨v,rfl,h1⟩:=Y9 h.dens;obtain ⟨a,us,rfl,g1,g2⟩:=E8 h1;obtain ⟨ns,e,g⟩:=g;exact ⟨a,ns,rfl,O5.of (by rw[g1,A0w g2 e]),q _ _ _ _ g (A9.refl H) (.bl _)⟩
 ·exact g.elim⟩
theorem A21 (hK:X.K=K) (hc:X.calm=true):DCl X K (.builtin "any") (B2s λl=>l.any id):=⟨_,B82 K hK hc,λZ ν Hs H xs ds k Qf Q _ _ _ h g q=>by
 unfold B2s at g;split at g
 ·obtain ⟨v,rfl,h1⟩:=Y9 h.dens;obtain ⟨a,us,rfl,g1,g2⟩:=E8 h1;obtain ⟨ns,e,g⟩:=g;exact ⟨a,ns,rfl,O5.of (by rw[g1,A0w g2 e]),q _ _ _ _ g (A9.refl H) (.bl _)⟩
 ·exact g.elim⟩
theorem C59 {k:Kd} {v:V} {d:D} (h:RsL K Z ν Hs H k [v] [d]):T0 K Z ν Hs H k v d:=by
 cases k with
 | own s =>
  obtain ⟨ms,h1,h2,h3⟩:=h;cases h1 with
  | cons h r=>cases r;rw[append_nil] at h2 h3;exact ⟨_,h,h2,h3⟩
 | old=>cases (show Dns K _ [v] [d] from h) with|cons h r=>exact h
 | mix=>cases (show Dns K _ [v] [d] from h) with|cons h r=>exact h
def C46:FA:=λds k Q=>match ds with
 | [.list xs]=>Q (.list xs) (A1i xs k)
 | _=>False
theorem B0n (hK:X.K=K):DCl X K (.type "list") C46:=⟨_,B46 K hK,λZ ν Hs H xs ds k Qf Q hl hn hs h g q=>by
 unfold C46 at g;split at g
 ·obtain ⟨v,rfl,_⟩:=Y9 h.dens;obtain ⟨a,us,rfl,g1,g2,g3⟩:=A29 hl hn (C59 h);exact ⟨a,us,rfl,.inl (O5.of g1),λp hp=>q _ _ _ _ g (A9.new hp) (S7 hl hs hp g3)⟩
 ·exact g.elim⟩
def E35:FA:=λds _ Q=>match ds with
 | [.int i,.int j]=>Q (.int (if j < i then j else i)) .old
 | [.list xs]=>∃ ns,A17 xs=some ns/\ns≠[]/\∀ m,m∈ns->(∀ x∈ns,m<=x)->Q (.int m) .old
 | _=>False
def D4i:FA:=λds _ Q=>match ds with
 | [.int i,.int j]=>Q (.int (if j > i then j else i)) .old
 | [.list xs]=>∃ ns,A17 xs=some ns/\ns≠[]/\∀ m,m∈ns->(∀ x∈ns,x<=m)->Q (.int m) .old
 | _=>False
theorem C3e {f:Value} {r r':List V->Hp->VK->Prop} (h:J2 X f r) (h':J2 X f r'):J2 X f (λx H Q=>r x H Q\/r' x H Q):=by
 intro pins s U H xs us Q I rv h;rcases h with h1|h1
 ·exact h pins s U H xs us Q I rv h1
 ·exact h' pins s U H xs us Q I rv h1
theorem B6f (hK:X.K=K) (hc:X.calm=true):DCl X K (.builtin "max") D4i:=⟨_,C3e (B7v hc) (B2r K hK hc),λZ ν Hs H xs ds k Qf Q hl hn hs h g q=>by
 unfold D4i at g;split at g
 ·obtain ⟨v,w',rfl,h1,h2⟩:=E1k h.dens;exact .inl ⟨_,_,by rw[R4 h1,R4 h2],q _ _ _ _ g (A9.refl H) (.int _)⟩
 ·obtain ⟨v,rfl,h1⟩:=Y9 h.dens;obtain ⟨a,us,rfl,g1,g2⟩:=E8 h1;obtain ⟨ns,e,ne,g⟩:=g;exact .inr ⟨a,ns,rfl,O5.of (by rw[g1,A4i g2 e]),ne,λm m1 m2=>q _ _ _ _ (g m m1 m2) (A9.refl H) (.int _)⟩
 ·exact g.elim⟩
def tyN:D->String
 | .none=>"NoneType"
 | .bool _=>"bool"
 | .int _=>"int"
 | .str _=>"str"
 | .list _=>"list"
 | .tuple _=>"tuple"
 | .dict _=>"dict"
def isInt:D->Bool
 | .int _=>true
 | .bool _=>true
 | _=>false
def D2h:D->Bool
 | .bool _=>true
 | _=>false
def isList:D->Bool
 | .list _=>true
 | _=>false
def A2q:D->Bool
 | .dict _=>false
 | _=>true
def C7z (K:W.Frag) (T:String) (f:D->Bool):Prop:=∀ d,A2q d=true->W.kitOne K (.type (tyN d)) (.type T)=some (f d)
theorem C7b:C7z K "int" isInt:=by intro d h;cases d<;>first|rfl|simp[A2q] at h
theorem B9u:C7z K "bool" D2h:=by intro d h;cases d<;>first|rfl|simp[A2q] at h
def E24 (K:W.Frag) (T:String) (f:D->Bool):List V->Hp->VK->Prop:=λxs H Q=>∃ x d,xs=[x,.ty T]/\Dn K H x d/\A2q d=true/\Q (.bl (f d)) H
theorem C1z {T:String} {f:D->Bool} (hK:X.K=K) (kt:C7z K T f):J2 X (.builtin "isinstance") (E24 K T f):=by
 subst hK;intro pins s U H xs us Q I r h;obtain ⟨x,d,rfl,hd,nd,q⟩:=h;obtain ⟨u,w',rfl,r1,r2⟩:=B5j r;cases r2;have k:=kt d nd;cases hd with
 | non=>exact V8 I r1 .non k λtk=>⟨.bl _,H,I.tok _,rfl,q⟩
 | bl i=>exact V8 I r1 (.bl _) k λtk=>⟨.bl _,H,I.tok _,rfl,q⟩
 | int i=>exact V8 I r1 (.int _) k λtk=>⟨.bl _,H,I.tok _,rfl,q⟩
 | str i=>exact V8 I r1 (.str _) k λtk=>⟨.bl _,H,I.tok _,rfl,q⟩
 | lst h _=>exact V8 I r1 (.lst h) k λtk=>⟨.bl _,H,I.tok _,rfl,q⟩
 | tup h _ =>
  cases r1;obtain ⟨its,rv,⟨o,e,c,n,d⟩,_⟩:=I.tuple h;exact W.kia_one W.kitx_tuple I.kIn ⟨o,e,c⟩ k (λz=>nomatch z) λtk=>⟨.bl _,H,I.tok _,rfl,q⟩
 | scr _ _=>cases nd
 | opq _=>cases nd
 | dct _ _=>cases nd
 | dcf _ _=>cases nd
 | dcl _ _ _=>cases nd
def dIs (f:D->Bool) (ta:TD):TD:=λO Q Xd=>ta O (λd _=>A2q d=true/\Q (.bool (f d)) .old) Xd
theorem B5s {T:String} {f:D->Bool} {y:Str} (hK:X.K=K) (kt:C7z K T f) (hg:Gl X "isinstance") (hm:X.mg "isinstance"=none) (ha:DE X K E a ta) (hg2:Gl X y) (hm2:X.mg y=none) (hv2:bootBuiltins y=some (.type T)) (hn:y≠"__name__":=by decide) (hd:noD y:=by decide)
  (he:starEach [a,.Name y p2] X.env=(false,eval a X.env)::starEach [.Name y p2] X.env:=by rfl) (hpl:(backTo pos (starEach [.Name y p2] X.env)).any (·.1)=false:=by rfl):DE X K E (.Call (.Name "isinstance" p) [a,.Name y p2] [] pos) (dIs f ta) :=
 ⟨C9 (V3 (C1z hK kt) hg hm (by decide +kernel) (K0 ha.q (hs:=he) (K0 (B1o (v:=.ty T) hg2 hm2 hv2 rfl hn hd) T8)) (by decide) (by decide) he hpl) λU H Q h=>by
  obtain ⟨H0,ν,O,Qd,Xd,S,h1,q,x⟩:=h;refine ⟨H0,ν,O,_,Xd,S,h1,λd k v H' g1 g2 g3=>?_,x⟩;exact ⟨v,d,rfl,g3.den,g1.1,q _ _ _ _ g1.2 g2 (.bl _)⟩⟩
def O6:D->Bool
 | .none=>true
 | .bool _=>true
 | .int _=>true
 | .str _=>true
 | _=>false
theorem A5b {v:V} {d:D} (h:Dn K H v d) (s:O6 d=true):A13 v=true:=by
 cases h<;>first|rfl|simp[O6,A51] at s
theorem D0r {v u:V} {d e:D} (h:Dn K H v d) (g:Dn K H u e) (s:O6 d=true) (t:O6 e=true):eqV v u=PyData.eqv d e:=by
 cases h<;>first|(simp[O6,A51] at s;done)|(cases g<;>first|(simp[O6,A51] at t;done)|rfl|(simp[eqV,PyData.eqv];done))
def inD (x:D) (xs:List D):Bool:=xs.any λy=>PyData.eqv y x
def fIn (f:Bool->Bool):F2:=λd _ e _ Q=>O6 d=true/\match e with
 | .list es=>es.all O6=true/\Q (.bool (f (inD d es))) .old
 | .tuple es=>es.all O6=true/\Q (.bool (f (inD d es))) .old
 | _=>False
theorem A5c {v:V} {d:D} (h:Dn K H v d) (s:O6 d=true):∀ {us:List V} {es:List D},Dns K H us es->es.all O6=true->us.all A13=true/\inV v us=inD d es
 | _,_,.nil,_=>⟨rfl,rfl⟩
 | _,_,.cons g r,t=>by
  rw[all_cons,zb] at t;obtain ⟨h1,h2⟩:=A5c h s r t.2;refine ⟨by rw[all_cons,A5b g t.1,h1];rfl,?_⟩;unfold inV inD at h2 ⊢;rw[any_cons,any_cons,h2,D0r g h t.1 s]
theorem B66 {neg:Bool} {f:Bool->Bool} (hf:∀ b,f b=if neg then !b else b):A2l K (rIn K neg) (fIn f):=λZ ν Hs H x y d k e l Qf Q _ _ _ h3 h4 h5 h6=>by
 obtain ⟨h0,h5⟩:=h5;split at h5
 ·obtain ⟨a,us,rfl,g1,g2⟩:=E8 h4.den;obtain ⟨q1,q2⟩:=A5c h3.den h0 g2 h5.1;refine ⟨a,us,rfl,.inl (O5.of g1),A5b h3.den h0,q1,h6 _ _ _ _ h5.2 (A9.refl H) ?_⟩;rw[q2,hf];cases neg<;>exact .bl _
 ·obtain ⟨a,us,rfl,g1,g2⟩:=K6 h4.den;obtain ⟨q1,q2⟩:=A5c h3.den h0 g2 h5.1;refine ⟨a,us,rfl,.inr g1,A5b h3.den h0,q1,h6 _ _ _ _ h5.2 (A9.refl H) ?_⟩;rw[q2,hf];cases neg<;>exact .bl _
 ·exact h5.elim
theorem D49 (hK:X.K=K):DOp X K (compareOp .In) (fIn id):=⟨_,D1p K hK,B66 λb=>rfl⟩
theorem A2u (hK:X.K=K):DOp X K (compareOp .NotIn) (fIn not):=⟨_,B89 K hK,B66 λb=>rfl⟩
theorem A6j {e:Expr} (hK:X.K=K) (h:DE X K E e ta) (he:∀ whole,isTrue e X.env whole=(do let v <- whole;standAt e.pos;holding [v] (truthy v)):=by intro _;rfl):DT X K E e (D9h ta):=⟨by
 subst hK;refine X9 ⟨C3q h.q.h he⟩ λU H Q h=>?_;obtain ⟨H0,ν,O,Qd,Xd,S,h1,q,x⟩:=h;refine ⟨H0,ν,O,_,Xd,S,h1,λd k v H' g1 g2 g3=>?_,x⟩;obtain ⟨b,e1,e2⟩:=g1;refine ⟨b,?_,q _ _ e2 g2⟩;have:=g3.den;cases this with
 | non=>cases e1;exact rfl
 | bl i=>cases e1;exact rfl
 | int i=>cases e1;exact rfl
 | str i=>cases e1
 | lst h r=>cases e1;exact .inl ⟨_,O5.of h,by cases r<;>rfl⟩
 | tup h r=>cases e1;exact .inr (.inl ⟨_,h,by cases r<;>rfl⟩)
 | scr _ _=>cases e1
 | opq _=>cases e1
 | dct _ _=>cases e1
 | dcf _ _=>cases e1
 | dcl _ _ _=>cases e1⟩
end
structure N5 where
 nx:C4->Prop
 rt:D->Bool->Prop
 bk:C4->Prop:=λ_=>False
 ct:C4->Prop:=λ_=>False
abbrev L1:=N5->C4->XD->Prop
structure A5f (K:W.Frag) (H0:Hp) (En:V7) (Dd:N5):Prop where
 nx:∀ ν O U H,Dd.nx O->B8 K Z0 H0 ν O U H->En.nx U H
 bk:∀ ν O U H,Dd.bk O->B8 K Z0 H0 ν O U H->En.bk U H
 ct:∀ ν O U H,Dd.ct O->B8 K Z0 H0 ν O U H->En.ct U H
 rt:∀ d o v H,Dd.rt d o->A9 H0 H->RR K H0 H o v d->En.rt v H
def LS (K:W.Frag) (E:XK) (t:L1):TS:=λEn U H=>∃ H0 ν O Dd Xd,B8 K Z0 H0 ν O U H/\t Dd O Xd/\A5f K H0 En Dd/\∀ C H',Xd C->A9 H0 H'->E (.ref C) none H'
structure DS (X:Cx) (K:W.Frag) (E:XK) (s:Stmt) (t:L1):Prop where
 q:QS X s (LS K E t)
structure DSs (X:Cx) (K:W.Frag) (E:XK) (s:List Stmt) (t:L1):Prop where
 q:QSs X s (LS K E t)
def setK (O:C4) (i:Nat) (d:D) (k:Kd):C4:=if flat d=true then O.set i (some (false,d)) else match k with
 | .own s=>(E6 O s).set i (some (true,d))
 | .old=>O.set i (some (false,d))
 | .mix=>(frz O).set i (some (false,d))
section
variable {K:W.Frag} {H0 H H':Hp} {ν:Nat->List Addr} {O:C4} {U:L2.St} {v:V} {d:D} {k:Kd}
theorem A4g {H:Hp}:A9 H (N0 (Hd Z0 λ_=>[]) H):=λa o h=>E2 h λz=>by
 rcases z with z|⟨_,z⟩
 ·exact z
 ·cases z
theorem B8.setK (S:B8 K Z0 H0 ν O U H) (e:A9 H H') (h:T0 K Z0 ν H H' k v d) (i:Nat):∃ ν',B8 K Z0 H0 ν' (setK O i d k) (U.set i (some v)) H':=by
 unfold DL.setK;split
 ·exact ⟨_,(S.same e).setOld i (A0n (S.same e).hl h.den ‹_›)⟩
 ·cases k with
  | own s =>
   obtain ⟨ms,h1,h2,h3⟩:=h;exact ⟨_,S.setOwn s i e h1 h2 h3⟩
  | old=>exact ⟨_,(S.same e).setOld i h⟩
  | mix=>exact ⟨_,(S.same e).frz.setOld i (Dn.same A4g h)⟩
def rtK (d:D) (k:Kd):Bool:=flat d||match k with
 | .own _=>true
 | _=>false
theorem C9d (S:B8 K Z0 H0 ν O U H) (e:A9 H H') (h:T0 K Z0 ν H H' k v d):RR K H0 H' (rtK d k) v d:=by
 unfold rtK;cases hf:flat d with
 | true=>exact ⟨[],B6b h.den hf,nodup_nil,λ_ z=>by cases z⟩
 | false =>
  cases k with
  | own s =>
   obtain ⟨ms,h1,h2,h3⟩:=h;refine ⟨ms,h1,h2,λa ha=>?_⟩;rcases h3 a ha with z|⟨j,_,z⟩
   ·exact S.sm.gone z
   ·exact (S.fr j a z).1
  | old=>exact Dn.same E4 h
  | mix=>exact h
theorem B8.low (S:B8 K Z H1 ν O U H) (e:A9 H0 H1):B8 K Z H0 ν O U H :=
 ⟨e.trans S.sm,S.len,S.sl,S.nd,S.dj,λi a h=>⟨e.gone (S.fr i a h).1,(S.fr i a h).2⟩,λa h=>⟨e.gone (S.zf a h).1,(S.zf a h).2⟩⟩
theorem B8.base (S:B8 K Z H0 ν O U H):A9 H0 (N0 (Hd Z ν) H):=λa o h=>E2 (S.sm a o h) λz=>by
 rcases z with z|⟨i,z⟩
 ·rw[(S.zf a z).1] at h;cases h
 ·rw[(S.fr i a z).1] at h;cases h
theorem B8.high (S:B8 K Z H0 ν O U H):B8 K Z (N0 (Hd Z ν) H) ν O U H :=
 ⟨E4,S.len,S.sl,S.nd,S.dj,λi a h=>⟨by unfold N0;rw[qm (.inr ⟨i,h⟩)],(S.fr i a h).2⟩,λa h=>⟨by unfold N0;rw[qm (.inl h)],(S.zf a h).2⟩⟩
theorem RR.low {o:Bool} (h:RR K H1 H o v d) (e:A9 H0 H1):RR K H0 H o v d:=by
 cases o with
 | true=>obtain ⟨ms,h1,h2,h3⟩:=h;exact ⟨ms,h1,h2,λa ha=>e.gone (h3 a ha)⟩
 | false=>exact h
theorem A5f.high {Dd:N5} (h:A5f K H0 En Dd) (e:A9 H0 H1):A5f K H1 En Dd :=
 ⟨λν O U H a S=>h.nx ν O U H a (S.low e),λν O U H a S=>h.bk ν O U H a (S.low e),λν O U H a S=>h.ct ν O U H a (S.low e),λd o v H a b c=>h.rt d o v H a (e.trans b) (c.low e)⟩
end
section
variable {X:Cx} {K:W.Frag} {E:XK} {pos:Pos} {a b c e:Expr} {te:TD} {tA:Y7} {t u:L1}
def C78 (i:Nat) (te:TD):L1:=λDd O Xd=>te O (λd k=>Dd.nx (setK O i d k)) Xd
theorem B7 (i:Nat) {x:Str} (hN:X.N.Nodup) (he:DE X K E e te) (hi:X.N[i]?=some x:=by rfl) (hx:Loc X.env.scope x:=by first|exact Or.inl rfl|exact Or.inr rfl) (hs:swapsWith e (some (.Name x pos')) pos.line X.env=pure false:=by rfl) (hf:X.fn x=true\/X.env.scope.names.lookup x=some .local:=by first|exact .inl rfl|exact .inr rfl|assumption) :
  DS X K E (.Assign [.Name x pos'] e pos) (C78 i te):=⟨L9 (D8o i hN he.q hi hx hs hf) λEn U H h=>by
 obtain ⟨H0,ν,O,Dd,Xd,S,h1,ok,x⟩:=h;refine ⟨H0,ν,O,_,Xd,S,h1,λd k v H' g1 g2 g3=>?_,x⟩;obtain ⟨ν',S'⟩:=S.setK g2 g3 i;exact ok.nx _ _ _ _ g1 S'⟩
def D8h (te:TD):L1:=λDd O Xd=>te O (λd k=>Dd.rt d (rtK d k)) Xd
theorem B4 (he:DE X K E e te):DS X K E (.Return (some e) pos) (D8h te):=⟨L9 (C6q he.q) λEn U H h=>by
 obtain ⟨H0,ν,O,Dd,Xd,S,h1,ok,x⟩:=h;exact ⟨H0,ν,O,_,Xd,S,h1,λd k v H' g1 g2 g3=>ok.rt _ _ _ _ g1 (S.sm.trans g2) (C9d S g2 g3),x⟩⟩
def C9x (te:TD):L1:=λDd O Xd=>te O (λ_ _=>Dd.nx O) Xd
theorem B0x (he:DE X K E e te) (hs:swapsWith e none pos.line X.env=pure false:=by rfl):DS X K E (.Expr e pos) (C9x te):=⟨L9 (B16 he.q hs) λEn U H h=>by
 obtain ⟨H0,ν,O,Dd,Xd,S,h1,ok,x⟩:=h;exact ⟨H0,ν,O,_,Xd,S,h1,λd k v H' g1 g2 g3=>ok.nx _ _ _ _ g1 (S.same g2),x⟩⟩
def C9z:L1:=λDd O _=>Dd.nx O
def D9s (tA:Y7) (t u:L1):L1:=λDd O Xd=>tA O (λb=>if b=true then t Dd O Xd else u Dd O Xd) Xd
theorem D6 {as bs:List Stmt} (hc:DT X K E c tA) (ha:DSs X K E as t) (hb:DSs X K E bs u):DS X K E (.If c as bs pos) (D9s tA t u):=⟨L9 (D23 hc.q ha.q hb.q) λEn U H h=>by
 obtain ⟨H0,ν,O,Dd,Xd,S,h1,ok,x⟩:=h;refine ⟨H0,ν,O,_,Xd,S,h1,λb H' g1 g2=>?_,x⟩;cases b with
 | true=>exact ⟨H0,ν,O,Dd,Xd,S.same g2,g1,ok,x⟩
 | false=>exact ⟨H0,ν,O,Dd,Xd,S.same g2,g1,ok,x⟩⟩
def D6x (t u:L1):L1:=λDd O Xd=>t { Dd with nx:=λO'=>u Dd O' Xd } O Xd
theorem B9:DSs X K E [] C9z:=⟨B4q C18 λEn U H h=>by
 obtain ⟨H0,ν,O,Dd,Xd,S,h1,ok,x⟩:=h;exact ok.nx _ _ _ _ h1 S⟩
theorem A6 {st:Stmt} (h1:DS X K E st t):DSs X K E [st] t:=⟨B1u h1.q⟩
theorem A1 {st:Stmt} {rest:List Stmt} (h1:DS X K E st t) (h2:DSs X K E rest u):DSs X K E (st::rest) (D6x t u):=⟨B4q (B8l h1.q h2.q) λEn U H h=>by
 obtain ⟨H0,ν,O,Dd,Xd,S,h1,ok,x⟩:=h;exact ⟨H0,ν,O,_,Xd,S,h1,⟨λν' O' U' H' a S'=>⟨H0,ν',O',Dd,Xd,S',a,ok,x⟩,ok.bk,ok.ct,ok.rt⟩,x⟩⟩
def D6u (i:Nat) (t:L1):L1:=λDd O Xd=>t Dd (frz1 i O) Xd
theorem P6 (i:Nat) {s:Stmt} (h:DS X K E s t):DS X K E s (D6u i t):=⟨L9 h.q λEn U H h=>by
 obtain ⟨H0,ν,O,Dd,Xd,S,h1,ok,x⟩:=h;exact ⟨H0,_,_,Dd,Xd,S.frz1 i,h1,ok,x⟩⟩
def C2q (C:Addr) (t:TDA):L1:=λ_ O Xd=>t O (λds _=>ds.length<=1000/\Xd C) Xd
theorem R3 {x:Str} {es:List Expr} {t:TDA} (hx:A44 X E) (hc:X.calm=true) (c:W4 X.K X.mg x C) (hg:Gl X x) (ha:DA X K E (e0::es) t) (hdb:noD x:=by decide)
  (he:stE e0 es X.env:=by rfl) (hpl:stB cpos es X.env:=by rfl) :
  DS X K E (.Raise (some (.Call (.Name x np) (e0::es) [] cpos)) none pos) (C2q C t):=⟨L9 (B7l hx hc c hg ha.q hdb he hpl) λEn U H h=>by
 obtain ⟨H0,ν,O,Dd,Xd,S,h1,ok,x⟩:=h;refine ⟨H0,ν,O,_,Xd,S,h1,λds k vs H' g1 g2 g3=>?_,x⟩;exact ⟨by rw[g3.dens.length];exact zn g1.1 (by decide),x C H' g1.2 (S.sm.trans g2)⟩⟩
def D3u (tc:Y7) (tb:L1):L1:=λDd O Xd=>∃ W:Nat->C4->Prop,(∃ m,W m O)/\∀ m O,W m O->tc O (λb=>if b=true then tb { Dd with nx:=λO'=>∃ m',m' < m/\W m' O',ct:=λO'=>∃ m',m' < m/\W m' O',bk:=Dd.nx } O Xd else Dd.nx O) Xd
theorem A30 {tb:L1} (hp:PassesOwn (model X.prog X.w) X.A X.env X.xe) (hc:DT X K E c tA) (hb:DSs X K E body tb):DS X K E (.While c body [] pos) (D3u tA tb):=⟨L9 (B90 hp hc.q hb.q) λEn U H h=>by
 obtain ⟨H0,ν,O,Dd,Xd,S,⟨W,⟨m0,w0⟩,turn⟩,ok,x⟩:=h;refine ⟨λm U H=>∃ ν O,B8 K Z0 H0 ν O U H/\W m O,⟨m0,ν,O,S,w0⟩,?_⟩;rintro m σ1 H1 ⟨ν1,ρ1,S1,w1⟩;refine ⟨H0,ν1,ρ1,_,Xd,S1,turn m ρ1 w1,λb H' g1 g2=>?_,x⟩;cases b with
 | true =>
  rw[qm rfl] at g1 ⊢;refine ⟨λU' H'=>∃ m',m' < m/\∃ ν O,B8 K Z0 H0 ν O U' H'/\W m' O,λU' H' z=>z,H0,ν1,ρ1,_,Xd,S1.same g2,g1,⟨λν O U H a S=>?_,λν O U H a S=>ok.nx ν O U H a S,λν O U H a S=>?_,ok.rt⟩,x⟩
  ·obtain ⟨m',hm,w'⟩:=a;exact ⟨m',hm,ν,O,S,w'⟩
  ·obtain ⟨m',hm,w'⟩:=a;exact ⟨m',hm,ν,O,S,w'⟩
 | false =>
  rw[qo qt] at g1 ⊢;exact ok.nx _ _ _ _ g1 (S1.same g2)⟩
end
abbrev TGD:=D->C4->(C4->Prop)->Prop
abbrev A6c:=List D->C4->(C4->Prop)->Prop
def S5 (O:C4):Prop:=∀ (i:Nat) d,O[i]?≠some (some (true,d))
theorem B72 {O:C4} (h:S5 O) (i:Nat) (d:D):S5 (O.set i (some (false,d))):=λj e z=>by
 rcases P5 z with ⟨_,z,_⟩|⟨_,z⟩
 ·cases z
 ·exact h j e z
def Agr (T:List Nat) (O O':C4):Prop:=O'.length=O.length/\∀ i,i∉T->O'[i]?=O[i]?
def D7i (K:W.Frag) (g:TG) (T:List Nat) (bnd:TGD):Prop:=∀ (H0:Hp) (ν:Nat->List Addr) (O:C4) (U:L2.St) (H:Hp) (v:V) (d:D) (Qd:C4->Prop) (Q:L2.St->Hp->Prop),B8 K Z0 H0 ν O U H->Dn K (N0 (Hd Z0 ν) H) v d->bnd d O Qd ->
 (∀ O' U',Qd O'->B8 K Z0 H0 ν O' U' H->Agr T O O'->(S5 O->S5 O')->Q U' H)->g v U H Q
def D1o (K:W.Frag) (g:TGs) (T:List Nat) (bnd:A6c):Prop:=∀ (H0:Hp) (ν:Nat->List Addr) (O:C4) (U:L2.St) (H:Hp) (vs:List V) (ds:List D) (Qd:C4->Prop) (Q:L2.St->Hp->Prop),B8 K Z0 H0 ν O U H->Dns K (N0 (Hd Z0 ν) H) vs ds->bnd ds O Qd ->
 (∀ O' U',Qd O'->B8 K Z0 H0 ν O' U' H->Agr T O O'->(S5 O->S5 O')->Q U' H)->g vs U H Q
structure DG (X:Cx) (K:W.Frag) (tg:Expr) (T:List Nat) (bnd:TGD):Prop where
 ex:∃ g,QG X tg g/\D7i K g T bnd
structure DGs (X:Cx) (K:W.Frag) (tg:List Expr) (T:List Nat) (bnd:A6c):Prop where
 ex:∃ g,QGs X tg g/\D1o K g T bnd
def C9f (i:Nat):TGD:=λd O Q=>Q (O.set i (some (false,d)))
def D89:A6c:=λds O Q=>ds=[]/\Q O
def D0b (b:TGD) (bs:A6c):A6c:=λds O Q=>match ds with
 | d::r=>b d O λO'=>bs r O' Q
 | []=>False
def D3t (n:Nat) (bs:A6c):TGD:=λd O Q=>match d with
 | .tuple ds=>ds.length=n/\bs ds O Q
 | _=>False
section
variable {X:Cx} {K:W.Frag} {pos:Pos}
theorem Agr.trans {a b c:C4} (h:Agr T a b) (g:Agr Ui b c):Agr (T++Ui) a c:=⟨g.1.trans h.1,λi hi=>by
 rw[zj,not_or] at hi;rw[g.2 i hi.2,h.2 i hi.1]⟩
theorem J9 (i:Nat) {x:Str} (hN:X.N.Nodup) (hi:X.N[i]?=some x:=by rfl) (hx:Loc X.env.scope x:=by first|exact Or.inl rfl|exact Or.inr rfl) (hf:X.fn x=true\/X.env.scope.names.lookup x=some .local:=by first|exact .inl rfl|exact .inr rfl|assumption):DG X K (.Name x pos) [i] (C9f i) :=
 ⟨_,A11 i hN hi hx hf,λH0 ν O U H v d Qd Q S h b q=>q _ _ b (S.setOld i h) ⟨length_set,λj hj=>List.getElem?_set_ne (by simpa using Ne.symm (by simpa using hj))⟩ λn=>B72 n i d⟩
theorem A4s:DGs X K [] [] D89:=⟨_,A0g,λH0 ν O U H vs ds Qd Q S h b q=>by
 obtain ⟨rfl,b⟩:=b;cases h;exact ⟨rfl,q _ _ b S ⟨rfl,λ_ _=>rfl⟩ id⟩⟩
theorem Q6 {e:Expr} {es:List Expr} {b:TGD} {bs:A6c} (h1:DG X K e T b) (h2:DGs X K es Ui bs) (hs:(assignEach (e::es) X.env).map (·.2)=assign e X.env::(assignEach es X.env).map (·.2):=by rfl):DGs X K (e::es) (T++Ui) (D0b b bs):=by
 obtain ⟨g,q1,o1⟩:=h1.ex;obtain ⟨gs,q2,o2⟩:=h2.ex;refine ⟨_,J8 q1 q2 hs,λH0 ν O U H vs ds Qd Q S h b q=>?_⟩;cases h with
 | nil=>exact b.elim
 | cons h r =>
  refine ⟨_,_,rfl,o1 H0 ν O U H _ _ _ _ S h b λO' U' b' S' A n1=>?_⟩;exact o2 H0 ν O' U' H _ _ _ _ S' r b' λO'' U'' b'' S'' A' n2=>q _ _ b'' S'' (A.trans A') λn=>n2 (n1 n)
theorem A86 (n:Nat) {es:List Expr} {k:Nat} {bs:A6c} (hK:X.K=K) (hc:X.calm=true) (h:DGs X K es T bs) (hn:(assignEach es X.env).length=n) (hst:(assignEach es X.env).findIdx? (·.1)=none):DG X K (.Tuple es k pos) T (D3t n bs):=by
 obtain ⟨gs,q1,o1⟩:=h.ex;refine ⟨_,B1y K n hK hc q1 hn hst,λH0 ν O U H v d Qd Q S h b q=>?_⟩;unfold D3t at b;split at b
 ·obtain ⟨a,us,rfl,g1,g2⟩:=K6 h;exact ⟨a,us,rfl,A9.tup E4 g1,by rw[g2.length];exact b.1,o1 H0 ν O U H _ _ _ _ S g2 b.2 q⟩
 ·exact b.elim
end
def B1k (K:W.Frag) (F0:Hp) (J:It) (ds:List D):Prop:=∀ (W:Addr->Prop) (H2:Hp),(∀ a,W a->Mu H2 a)->A9 F0 (N0 W H2) ->
 J.stop ds.length H2/\∀ i d,ds[i]?=some d->J.go i H2/\∀ x H',J.yld i H2 x H'->A9 H2 H'/\Dn K (N0 W H') x d
abbrev TDI:=C4->(List D->Bool->Prop)->XD->Prop
noncomputable def fz (b:Bool) (ν:Nat->List Addr) (H:Hp):Hp:=if b=true then N0 (Hd Z0 ν) H else H
def LI (K:W.Frag) (E:XK) (t:TDI):TI:=λU H R=>∃ H0 ν O Qd Xd,B8 K Z0 H0 ν O U H/\t O Qd Xd/\(∀ ds b J H1,Qd ds b->A9 H H1->B1k K (fz b ν H1) J ds->R J H1)/\∀ C H',Xd C->A9 H0 H'->E (.ref C) none H'
structure DI (X:Cx) (K:W.Frag) (E:XK) (tg e:Expr) (t:TDI):Prop where
 q:QI X tg e (LI K E t)
theorem A8v {e:Expr} {t t':TI} (h:QI X tg e t) (i:∀ U H Q,t' U H Q->t U H Q):QI X tg e t':=⟨λpins s U H Q I w=>h.h pins s U H Q I (i U H Q w)⟩
section
variable {X:Cx} {K:W.Frag} {E:XK} {pos:Pos} {tg l:Expr} {te:TD} {ta:TDA}
variable {us:List V}
theorem B8h {a:Addr} {ds:List D} (h:F0 a=some (.lst us)) (r:Dns K F0 us ds):B1k K F0 (Itl K a) ds:=λW H2 hl sm=>by
 have h2:H2 a=some (.lst us):=(G7 (sm _ _ h)).1;refine ⟨⟨us,O5.of h2,by rw[r.length];exact qp _⟩,λi d hd=>?_⟩;obtain ⟨u,h3,h4⟩:=r.get hd;refine ⟨⟨us,u,O5.of h2,h3⟩,λx H' y=>?_⟩;obtain ⟨rfl,y⟩:=y;have:=y us (O5.of h2);rw[h3] at this;cases this;exact ⟨A9.refl _,Dn.same sm h4⟩
theorem C03 {a:Addr} {ds:List D} (h:V2 K F0 a us) (r:Dns K F0 us ds):B1k K F0 (Itt K a) ds:=λW H2 hl sm=>by
 have h2:V2 K H2 a us:=A9.tup E4 (A9.tup sm h);refine ⟨⟨us,h2,by rw[r.length];exact qp _⟩,λi d hd=>?_⟩;obtain ⟨u,h3,h4⟩:=r.get hd;refine ⟨⟨us,u,h2,h3⟩,λx H' y=>?_⟩;obtain ⟨rfl,y⟩:=y;have:=y us h2;rw[h3] at this;cases this;exact ⟨A9.refl _,Dn.same sm h4⟩
theorem C17 {k:Kd} {v:V} {d:D} (hl:∀ a,Hd Z0 ν a->Mu H a) (hn:∀ a,Hd Z0 ν a->Mu Hs a) (h:T0 K Z0 ν Hs H k v d):Dn K (fz k.isOld ν H) v d:=by
 unfold fz;split
 ·exact h.old hl hn ‹_›
 ·exact h.den
def iL (te:TD):TDI:=λO Q Xd=>te O (λd k=>match d with
 | .list ds=>Q ds k.isOld
 | _=>False) Xd
theorem D1 (hK:X.K=K) (hl:DE X K E l te):DI X K E tg l (iL te):=⟨A8v (B8f K hK hl.q) λU H R h=>by
 obtain ⟨H0,ν,O,Qd,Xd,S,h1,q,x⟩:=h;refine ⟨H0,ν,O,_,Xd,S,h1,λd k v H' g1 g2 g3=>?_,x⟩;cases d with
 | list ds =>
  have hf:=C17 (S.same g2).hl S.hl g3;obtain ⟨a,us,rfl,q1,q2⟩:=E8 hf;have q0:H' a=some (.lst us):=by unfold fz at q1;split at q1;exact (G7 q1).1;exact q1
  exact ⟨a,rfl,⟨us,O5.of q0⟩,q ds _ _ H' g1 g2 (B8h q1 q2)⟩
 | _=>exact g1.elim⟩
def iT (te:TD):TDI:=λO Q Xd=>te O (λd k=>match d with
 | .tuple ds=>Q ds k.isOld
 | _=>False) Xd
theorem A46 (hK:X.K=K) (hl:DE X K E l te):DI X K E tg l (iT te):=⟨A8v (C0t K hK hl.q) λU H R h=>by
 obtain ⟨H0,ν,O,Qd,Xd,S,h1,q,x⟩:=h;refine ⟨H0,ν,O,_,Xd,S,h1,λd k v H' g1 g2 g3=>?_,x⟩;cases d with
 | tuple ds =>
  have hf:=C17 (S.same g2).hl S.hl g3;obtain ⟨a,us,rfl,q1,q2⟩:=K6 hf;have q0:V2 K H' a us:=by unfold fz at q1;split at q1;exact A9.tup E4 q1;exact q1
  exact ⟨a,rfl,⟨us,q0⟩,q ds _ _ H' g1 g2 (C03 q1 q2)⟩
 | _=>exact g1.elim⟩
def A3l (lo:Int) (n:Nat):List D:=(List.range n).map λ(i:Nat)=>PyData.int (lo+i)
theorem B9h:B1k K F0 (Itr lo n) (A3l lo n):=λW H2 hl sm=>by
 refine ⟨?_,λi d hd=>?_⟩
 ·show n<=_;unfold A3l;rw[qf,length_range];exact qp _
 ·unfold A3l at hd;rw[qk] at hd;cases e:(List.range n)[i]? with
  | none=>rw[e] at hd;cases hd
  | some j =>
   rw[e] at hd;cases hd;obtain ⟨h1,h2⟩:=qh.mp e;rw[List.getElem_range] at h2;subst h2;rw[length_range] at h1;refine ⟨h1,λx H' y=>?_⟩;obtain ⟨rfl,rfl⟩:=y;exact ⟨A9.refl _,.int _⟩
def iR1 (ta:TDA):TDI:=λO Q Xd=>ta O (λds _=>match ds with
 | [.int j]=>-(2 ^ 62)<=j/\j < 2 ^ 62/\Q (A3l 0 j.toNat) true
 | _=>False) Xd
theorem K2 {a:Expr} (hg:Gl X "range") (hm:X.mg "range"=none) (ha:DA X K E [a] ta) (hs:starEach [a] X.env=[(false,eval a X.env)]:=by rfl):DI X K E tg (.Call (.Name "range" p) [a] [] pos) (iR1 ta):=⟨A8v (B3s hg hm ha.q hs) λU H R h=>by
 obtain ⟨H0,ν,O,Qd,Xd,S,h1,q,x⟩:=h;refine ⟨H0,ν,O,_,Xd,S,h1,λds k vs H' g1 g2 g3=>?_,x⟩;split at g1
 ·obtain ⟨v,rfl,h2⟩:=Y9 g3.dens;exact ⟨_,by rw[R4 h2],g1.1,g1.2.1,q _ _ _ H' g1.2.2 g2 B9h⟩
 ·exact g1.elim⟩
def D6n (ti:TDI) (bnd:TGD) (tb:L1):L1:=λDd O Xd=>ti O (λds b=>b=true/\∃ W:Nat->C4->Prop,W 0 O/\(∀ i d O,ds[i]?=some d->W i O->bnd d O λO'=>tb { Dd with nx:=W (i+1),ct:=W (i+1),bk:=Dd.nx } O' Xd)/\∀ O,W ds.length O->Dd.nx O) Xd
theorem G0 {ti:TDI} {bnd:TGD} {tb:L1} (hp:PassesOwn (model X.prog X.w) X.A X.env X.xe) (hc:X.calm=true) (hi:DI X K E tg iter ti) (hg:DG X K tg T bnd) (hb:DSs X K E body tb) (hs:∀ x,foldedSetIterable iter X.env x=pure x:=by intro _;rfl) :
  DS X K E (.For tg iter body [] pos) (D6n ti bnd tb):=by
 obtain ⟨g,qg,og⟩:=hg.ex;refine ⟨L9 (A8z hp hc hi.q qg hb.q hs) λEn U H h=>?_⟩;obtain ⟨H0,ν,O,Dd,Xd,S,h1,ok,x⟩:=h;refine ⟨H0,ν,O,_,Xd,S,h1,λds b J H1 g1 e1 it=>?_,x⟩;obtain ⟨rfl,W,w0,step,done⟩:=g1;have S1:=(S.same e1).high;have eb:A9 H0 (N0 (Hd Z0 ν) H1):=(S.same e1).base;have ok1:=ok.high eb;have x1:∀ C H',Xd C->A9 (N0 (Hd Z0 ν) H1) H'->E (.ref C) none H':=λC H' a b=>x C H' a (eb.trans b);have it:B1k K (N0 (Hd Z0 ν) H1) J ds:=it;refine ⟨λi m U H=>m=ds.length - i/\i<=ds.length/\∃ ν' O',B8 K Z0 (N0 (Hd Z0 ν) H1) ν' O' U H/\W i O',⟨ds.length,by simp,zz _,ν,O,S1,w0⟩,?_⟩;rintro i m σ2 H2 ⟨rfl,hi,ν2,ρ2,S2,w2⟩;obtain ⟨i1,i2⟩:=it (Hd Z0 ν2) H2 S2.hl S2.base;by_cases hlt:i < ds.length
 ·obtain ⟨j1,j2⟩:=i2 i ds[i] (zd hlt);refine .inr ⟨j1,λU' H'=>∃ ν' O',B8 K Z0 (N0 (Hd Z0 ν) H1) ν' O' U' H'/\W (i+1) O',λU' H' ⟨ν',O',S',w'⟩=>⟨_,by lia,rfl,hlt,ν',O',S',w'⟩,λy H' hy=>?_⟩;obtain ⟨k1,k2⟩:=j2 y H' hy;refine og _ ν2 ρ2 σ2 H' y _ _ _ (S2.same k1) k2 (step i _ ρ2 (zd hlt) w2) λρ3 σ3 b3 S3 A _=>?_;exact ⟨_,ν2,ρ3,_,Xd,S3,b3,⟨λν O U H a S=>⟨ν,O,S,a⟩,λν O U H a S=>ok1.nx ν O U H a S,λν O U H a S=>⟨ν,O,S,a⟩,ok1.rt⟩,x1⟩
 ·have e:i=ds.length:=by lia
  subst e;exact .inl ⟨i1,ok1.nx _ _ _ _ (done ρ2 w2) S2⟩
end
abbrev Q8:=List (D × Bool)
abbrev TB:=C4->Q8->(Q8->Prop)->Prop
def Xf:XD:=λ_=>False
structure In (K:W.Frag) (Hs Hm H0:Hp) (ν:Nat->List Addr) (acc:Addr) (O:C4) (U:L2.St) (H:Hp) (es:Q8):Prop where
 st:B8 K Z0 H0 ν O U H
 sm:A9 Hm H
 nm:Hm acc=none
 hs:∃ o,Hs acc=some o
 sh:∀ a,H a=none->Hs a=none
 hd:∃ j,acc∈ν j
 no:S5 O
 ac:∃ us,H acc=some (.lst us)/\Dns K (N0 (Hd Z0 ν) H) us (es.map (·.1))/\(es.all (·.2)=true->∃ ms,Ows K H us (es.map (·.1)) ms/\ms.Nodup/\∀ a∈ms,Hs a=none)
section
variable {K:W.Frag} {Hs Hm H0 H H':Hp} {ν:Nat->List Addr} {acc:Addr} {O O':C4} {U:L2.St} {es:Q8}
theorem In.same (I:In K Hs Hm H0 ν acc O U H es) (e:A9 H H'):In K Hs Hm H0 ν acc O U H' es:=by
 obtain ⟨us,h1,h2,h3⟩:=I.ac;refine ⟨I.st.same e,I.sm.trans e,I.nm,I.hs,λa h=>I.sh a (e.gone h),I.hd,I.no,us,e _ _ h1,Dns.same (R9 e) h2,λq=>?_⟩;obtain ⟨ms,g1,g2,g3⟩:=h3 q;exact ⟨ms,g1.same e,g2,g3⟩
theorem In.ren (I:In K Hs Hm H0 ν acc O U H es) (S:B8 K Z0 H0 ν O' U' H) (no:S5 O'):In K Hs Hm H0 ν acc O' U' H es:=⟨S,I.sm,I.nm,I.hs,I.sh,I.hd,no,I.ac⟩
variable {v:V} {d:D}
theorem B0o {vs:List V} {ds:List D} {ns ms:List Addr} (h:Ow K H v d ns) (r:Ows K H vs ds ms):Ows K H (vs++[v]) (ds++[d]) (ms++ns):=by
 induction vs generalizing ds ms with
 | nil =>
  cases r;rw[List.nil_append,List.nil_append,List.nil_append];have:=Ows.cons h (.nil (K:=K) (H:=H));rw[append_nil] at this;exact this
 | cons u us ih =>
  cases r with
  | cons a b=>rw[append_assoc];exact .cons a (ih b)
theorem B8.updH {ws:List V} (S:B8 K Z0 H0 ν O U H) (hd:∃ j,acc∈ν j) (no:S5 O):B8 K Z0 H0 ν O U (upd H acc (.lst ws)) where
 sm:=by obtain ⟨j,hj⟩:=hd;exact S.sm.put (S.fr j acc hj).1
 len:=S.len
 sl:=λi b d h=>by
  obtain ⟨v,h1,h2⟩:=S.sl i b d h;refine ⟨v,h1,?_⟩;cases b with
  | true=>exact absurd h (no i d)
  | false =>
   refine Dn.same (λa o ha=>?_) h2;obtain ⟨g1,g2⟩:=G7 ha;have:a≠acc:=λz=>g2 (.inr (by rw[z];exact hd));exact E2 (by rw[B5 this];exact g1) g2
 nd:=S.nd
 dj:=S.dj
 fr:=λi a h=>by
  obtain ⟨g1,g2,us,g3⟩:=S.fr i a h;by_cases z:a=acc
  ·subst z;exact ⟨g1,g2,Mu.lst B2⟩
  ·exact ⟨g1,g2,us,by rw[B5 z];exact g3⟩
 zf:=λa h=>h.elim
theorem In.emit {He:Hp} {k:Kd} (I:In K Hs Hm H0 ν acc O U H es) (e:A9 H H') (r:T0 K Z0 ν H H' k v d) (hk:(if flat d=true then Kd.own [] else k).isOld=true) (b:Bool) (hb:b=true->(if flat d=true then Kd.own [] else k)=.own []) :
  ∃ us,H' acc=some (.lst us)/\us.length=es.length/\In K Hs Hm H0 ν acc O U (upd H' acc (.lst (us++[v]))) (es++[(d,b)]):=by
 have I':=I.same e;obtain ⟨us,h1,h2,h3⟩:=I'.ac;have hl:=I'.st.hl;have r':T0 K Z0 ν H H' (if flat d=true then Kd.own [] else k) v d:=by
  split
  ·exact T0.flat r.den ‹_› hl _
  ·exact r
 generalize (if flat d=true then Kd.own [] else k)=k' at hk hb r';refine ⟨us,h1,by rw[h2.length,qf],I'.st.updH I'.hd I'.no,I'.sm.put I'.nm,I'.nm,I'.hs,λa h=>?_,I'.hd,I'.no,us++[v],B2,?_,λq=>?_⟩
 ·by_cases z:a=acc
  ·subst z;rw[B2] at h;cases h
  ·rw[B5 z] at h;exact I'.sh a h
 ·rw[map_append];have ho:=r'.old hl I.st.hl hk;have all:Dns K (N0 (Hd Z0 ν) H') (us++[v]) (es.map (·.1)++[d]):=h2.append (.cons ho .nil);refine Dns.same (λa o ha=>?_) all;obtain ⟨g1,g2⟩:=G7 ha;have:a≠acc:=λz=>g2 (.inr (by rw[z];exact I'.hd));exact E2 (by rw[B5 this];exact g1) g2
 ·rw[List.all_append,zb] at q;obtain ⟨q1,q2⟩:=q;have hb':=hb (by simpa using q2);subst hb';obtain ⟨ms,g1,g2,g3⟩:=h3 q1;obtain ⟨ns,k1,k2,k3⟩:=r';have frn:∀ a∈ns,H a=none:=λa ha=>by
   rcases k3 a ha with z|⟨j,z,_⟩
   ·exact z
   ·cases z
  obtain ⟨us0,_,_,h30⟩:=I.ac;obtain ⟨ms0,g10,g20,g30⟩:=h30 q1;refine ⟨ms0++ns,?_,nodup_append.mpr ⟨g20,k2,λx hx y hy e'=>?_⟩,λa ha=>?_⟩
  ·have hu:us0=us:=by
    obtain ⟨us1,z1,_⟩:=I.ac;have z2:=e _ _ z1;rw[h1] at z2;cases z2;rename_i hh _;have:H acc=some (.lst us0):=by assumption
    rw[z1] at this;cases this;rfl
   subst hu;rw[map_append];have hacc:∀ a∈ms0++ns,a≠acc:=λa ha z=>by
    obtain ⟨o,ho⟩:=I.hs;rcases zj.mp ha with ha|ha
    ·have:=g30 a ha;rw[z,ho] at this;cases this
    ·have:=I.sh a (frn a ha);rw[z,ho] at this;cases this
   refine (B0o k1 (g10.same e)).kept ⟨λa ha=>B5 (hacc a ha),λa o ha hn=>?_⟩;have:a≠acc:=λz=>by rw[z,h1] at ha;cases ha;cases (show true=false from hn)
   rw[B5 this];exact ha
  ·subst e';obtain ⟨ws,z⟩:=g10.there x hx;rw[frn x hy] at z;cases z
  ·rcases zj.mp ha with ha|ha
   ·exact g30 a ha
   ·exact I.sh a (frn a ha)
end
def go (f:D->Q8->(Q8->Prop)->Prop):List D->Q8->(Q8->Prop)->Prop
 | [],es,Q=>Q es
 | d::r,es,Q=>f d es λes'=>go f r es' Q
def LB (K:W.Frag) (acc:Addr) (T:List Nat) (tb:TB):TS:=λEn U H=>∃ Hs Hm H0 ν O es Qd,In K Hs Hm H0 ν acc O U H es/\tb O es Qd/\∀ es' O' U' H',Qd es'->In K Hs Hm H0 ν acc O' U' H' es'->Agr T O O'->En.nx U' H'
def LG (K:W.Frag) (T:List Nat) (bnd:TGD):TG:=λv U H Q=>∃ H0 ν O d Qd,B8 K Z0 H0 ν O U H/\Dn K (N0 (Hd Z0 ν) H) v d/\bnd d O Qd/\∀ O' U',Qd O'->B8 K Z0 H0 ν O' U' H->Agr T O O'->(S5 O->S5 O')->Q U' H
structure DB (Y:Cx) (K:W.Frag) (elt:Expr) (gens:List Comprehension) (scope:Scope) (pos:Pos) (d:Nat) (acc:Addr) (T:List Nat) (tb:TB):Prop where
 q:QB Y elt gens scope pos d acc (LB K acc T tb)
structure DTs (Y:Cx) (K:W.Frag) (ifs:List Expr) (t:Y7):Prop where
 q:QTs Y ifs (LT K E0 t)
theorem D3g {e:Expr} {g':TG} (h:QG X e g) (i:∀ v U H Q,g' v U H Q->g v U H Q):QG X e g':=⟨λpins s U H x u Q I r w=>h.h pins s U H x u Q I r (i x U H Q w)⟩
theorem C49 {Y:Cx} {elt:Expr} {gens:List Comprehension} {d:Nat} {t t':TS} (h:QB Y elt gens scope pos d acc t) (i:∀ En U H,t' En U H->t En U H):QB Y elt gens scope pos d acc t':=⟨λpins s U H D I w=>h.h pins s U H D I (i D U H w)⟩
theorem DG.lift {bnd:TGD} (h:DG X K tg T bnd):QG X tg (LG K T bnd):=by
 obtain ⟨g,q,o⟩:=h.ex;refine D3g q λv U H Q w=>?_;obtain ⟨H0,ν,O,d,Qd,S,h1,h2,h3⟩:=w;exact o H0 ν O U H v d Qd Q S h1 h2 h3
def C9m:Y7:=λ_ Q _=>Q true
def A2t:Kd->Bool
 | .own []=>true
 | _=>false
def eff (d:D) (k:Kd):Kd:=if flat d=true then Kd.own [] else k
def D07 (te:TD):TB:=λO es Q=>te O (λd k=>es.length < 1000000/\(eff d k).isOld=true/\Q (es++[(d,A2t (eff d k))])) Xf
def D9o (ti:TDI) (T:List Nat) (bnd:TGD) (tif:Y7) (tb:TB):TB:=λO es Q=>ti O (λds b=>b=true/\go (λd es Q'=>bnd d (E6 O T) λO'=>tif O' (λc=>if c=true then tb O' es Q' else Q' es) Xf) ds es Q) Xf
section
variable {Y:Cx} {K:W.Frag} {pos:Pos} {elt:Expr} {gens:List Comprehension} {scope:Scope} {dep:Nat} {acc:Addr}
theorem G3:DTs Y K [] C9m:=⟨⟨λpins s U H Q I h=>C4i.h pins s U H Q I (by
 obtain ⟨H0,ν,O,Qd,Xd,S,h1,q,x⟩:=h;exact q _ _ h1 (A9.refl H))⟩⟩
theorem A0k {c:Expr} {t:Y7} (h:DT Y K E0 c t):DTs Y K [c] t:=⟨B9j h.q⟩
theorem G4 (hg:gens[dep+1]?=none) (hx:Y.xe=λ_ _=>False) (he:DE Y K E0 elt te):DB Y K elt gens scope pos dep acc [] (D07 te):=⟨C49 (A5w hg hx he.q) λEn U H h=>by
 obtain ⟨Hs,Hm,H0,ν,O,es,Qd,I,h1,q⟩:=h;refine ⟨H0,ν,O,_,_,I.st,h1,λd k v H' g1 g2 g3=>?_,λC H' z _=>z.elim⟩;obtain ⟨g0,g4,g5⟩:=g1;obtain ⟨us,k1,k2,I'⟩:=I.emit (He:=H) g2 g3 g4 (A2t (eff d k)) (λz=>by
  change eff d k=_;generalize eff d k=k' at z;unfold A2t at z;split at z
  ·rfl
  ·cases z)
 exact ⟨us,k1,by rw[k2];exact qr g0 L3,q _ _ _ _ g5 I' ⟨rfl,λ_ _=>rfl⟩⟩⟩
variable {O:C4} {U:L2.St}
theorem A5i (h:S5 O):S5 (E6 O T):=λi d z=>h i d (W3 T z).2
theorem B8.agr {O':C4} (S:B8 K Z0 H0 ν O' U H) (A:Agr T O O'):B8 K Z0 H0 ν (E6 O T) U H :=
 ⟨S.sm,by rw[R1,S.len,A.1],λi b d h=>by
  obtain ⟨h1,h2⟩:=W3 T h;exact S.sl i b d (by rw[A.2 i h1];exact h2),S.nd,S.dj,S.fr,S.zf⟩
theorem Agr.drop:Agr T O (E6 O T):=by
 refine ⟨R1 T O,λi hi=>?_⟩
 induction T generalizing O with
 | nil=>rfl
 | cons j r ih =>
  rw[zk,not_or] at hi;show (E6 (O.set j none) r)[i]?=_;rw[ih hi.2,List.getElem?_set_ne (Ne.symm hi.1)]
theorem Agr.same {O' O'':C4} (h:Agr T O O') (g:Agr T O' O''):Agr T O O'':=⟨g.1.trans h.1,λi hi=>by rw[g.2 i hi,h.2 i hi]⟩
theorem Agr.less {O':C4} (h:Agr T O O') (s:∀ i∈T,i∈Ui):Agr Ui O O':=⟨h.1,λi hi=>h.2 i λz=>hi (s i z)⟩
theorem In.low {es:Q8} (I:In K Hs Hm H1 ν acc O U H es) (e:A9 H0 H1):In K Hs Hm H0 ν acc O U H es:=⟨I.st.low e,I.sm,I.nm,I.hs,I.sh,I.hd,I.no,I.ac⟩
theorem In.high {es:Q8} (I:In K Hs Hm H0 ν acc O U H es):In K Hs Hm (N0 (Hd Z0 ν) H) ν acc O U H es:=⟨I.st.high,I.sm,I.nm,I.hs,I.sh,I.hd,I.no,I.ac⟩
theorem In.agr {O':C4} {es:Q8} (I:In K Hs Hm H0 ν acc O' U H es) (A:Agr T O O') (n:S5 O):In K Hs Hm H0 ν acc (E6 O T) U H es:=I.ren (I.st.agr A) (A5i n)
theorem B4u {es:Q8} {ds:List D} {bnd:TGD} {tb:TB} {Qd:Q8->Prop} (I:In K Hs Hm H0 ν acc O U H es) (it:B1k K F0 J ds) (hf:A9 F0 H0) (hT:∀ i∈T,i∈T++Tb)
  (h:go (λd es Q'=>bnd d (E6 O (T++Tb)) λO'=>tif O' (λc=>if c=true then tb O' es Q' else Q' es) Xf) ds es Qd)
  (q:∀ es' O' U' H',Qd es'->In K Hs Hm H0 ν acc O' U' H' es'->Agr (T++Tb) O O'->En.nx U' H') :
  A4z J (LG K T bnd) (A4n (LT K E0 tif) (LB K acc Tb tb)) En U H:=by
 refine ⟨λi m U H=>m=ds.length - i/\i<=ds.length/\∃ es,In K Hs Hm H0 ν acc (E6 O (T++Tb)) U H es/\go (λd es Q'=>bnd d (E6 O (T++Tb)) λO'=>tif O' (λc=>if c=true then tb O' es Q' else Q' es) Xf) (ds.drop i) es Qd,
  ⟨ds.length,by simp,zz _,es,I.ren (I.st.agr ⟨rfl,λ_ _=>rfl⟩) (A5i I.no),by simpa using h⟩,?_⟩
 rintro i m σ2 H2 ⟨rfl,hi,es2,I2,w2⟩;obtain ⟨i1,i2⟩:=it (Hd Z0 ν) H2 I2.st.hl (hf.trans I2.st.base);by_cases hlt:i < ds.length
 ·obtain ⟨j1,j2⟩:=i2 i ds[i] (zd hlt);rw[List.drop_eq_getElem_cons hlt] at w2;have back:∀ es3 ρ3 σ3 H3,go (λd es Q'=>bnd d (E6 O (T++Tb)) λO'=>tif O' (λc=>if c=true then tb O' es Q' else Q' es) Xf) (ds.drop (i+1)) es3 Qd->In K Hs Hm H0 ν acc ρ3 σ3 H3 es3->Agr (T++Tb) (E6 O (T++Tb)) ρ3 ->
    ∃ es,In K Hs Hm H0 ν acc (E6 O (T++Tb)) σ3 H3 es/\go (λd es Q'=>bnd d (E6 O (T++Tb)) λO'=>tif O' (λc=>if c=true then tb O' es Q' else Q' es) Xf) (ds.drop (i+1)) es Qd:=λes3 ρ3 σ3 H3 g3 I3 A3=>⟨es3,I3.agr (Agr.same Agr.drop A3) I.no,g3⟩
  refine .inr ⟨j1,λU' H'=>∃ es,In K Hs Hm H0 ν acc (E6 O (T++Tb)) U' H' es/\go (λd es Q'=>bnd d (E6 O (T++Tb)) λO'=>tif O' (λc=>if c=true then tb O' es Q' else Q' es) Xf) (ds.drop (i+1)) es Qd,λU' H' ⟨es',a,b⟩=>⟨_,by lia,rfl,hlt,es',a,b⟩,λy H' hy=>?_⟩;obtain ⟨k1,k2⟩:=j2 y H' hy;refine ⟨H0,ν,_,_,_,(I2.same k1).st,k2,w2,λρ3 σ3 b3 S3 A3 n3=>?_⟩;have I3:=(I2.same k1).ren S3 (n3 I2.no);have A3':Agr (T++Tb) (E6 O (T++Tb)) ρ3:=A3.less hT;refine ⟨H0,ν,ρ3,_,_,S3,b3,λc H4 g4 e4=>?_,λC H' z _=>z.elim⟩;cases c with
  | true =>
   rw[qm rfl] at g4 ⊢;exact ⟨Hs,Hm,H0,ν,ρ3,es2,_,I3.same e4,g4,λes5 ρ5 σ5 H5 g5 I5 A5=>back es5 ρ5 σ5 H5 g5 I5 (Agr.same A3' (A5.less λi hi=>qw _ hi))⟩
  | false =>
   rw[qo qt] at g4 ⊢;exact back es2 ρ3 σ3 H4 g4 (I3.same e4) A3'
 ·have e:i=ds.length:=by lia
  subst e;rw[List.drop_length] at w2;exact .inl ⟨i1,q es2 _ σ2 H2 w2 I2 Agr.drop⟩
theorem C82 {ti:TDI} {bnd:TGD} {tb:TB} (hgd:gens[dep+1]?=some ⟨tg,iter,ifs,0⟩) (hx:Y.xe=λ_ _=>False) (hc:Y.calm=true) (hs:∀ x,foldedSetIterable iter Y.env x=pure x) (hi:DI Y K E0 tg iter ti) (hg:DG Y K tg T bnd) (ht:DTs Y K ifs tif) (hb:DB Y K elt gens scope pos (dep+1) acc Tb tb) :
  DB Y K elt gens scope pos dep acc (T++Tb) (D9o ti (T++Tb) bnd tif tb):=⟨C49 (C55 hgd hx hc hs hi.q hg.lift ht.q hb.q) λEn U H h=>by
 obtain ⟨Hs,Hm,H0,ν,O,es,Qd,I,h1,q⟩:=h;refine ⟨H0,ν,O,_,_,I.st,h1,λds b J H1 g1 e1 it=>?_,λC H' z _=>z.elim⟩;obtain ⟨rfl,g1⟩:=g1;have I1:=I.same e1;exact B4u I1.high it (A9.refl _) (λi hi=>qz _ hi) g1 λes' O' U' H' a I' A=>q es' O' U' H' a (I'.low I1.st.base) A⟩
end
def B1q (own:List Str) (cap:List (Str × Nat)) (O:C4):C4:=own.map (λ_=>none)++cap.map λp=>((O[p.2]?).join).map λy=>(false,y.2)
def A6m (cap:List (Str × Nat)) (O:C4):Bool:=cap.all λp=>match (O[p.2]?).join with
 | some (true,_)=>false
 | _=>true
def dLC (ti:TDI) (T:List Nat) (bnd:TGD) (tif:Y7) (tb:TB) (own:List Str) (cap:List (Str × Nat)):TD:=λO Q Xd=>ti O (λds b =>
 go (λd es Q'=>bnd d (E6 (B1q own cap O) T) λO'=>tif O' (λc=>if c=true then tb O' es Q' else Q' es) Xf) ds [] λes=>Q (.list (es.map (·.1))) (if es.all (·.2)=true then .own [] else if (b&&A6m cap O)=true then .old else .mix)) Xd
section
variable {K:W.Frag}
variable {O:C4} {U:L2.St}
theorem B14 {own:List Str} {i:Nat} {b:Bool} {d:D} (h:(B1q own cap O)[i]?=some (some (b,d))):b=false/\∃ p c,cap[i - own.length]?=some p/\own.length<=i/\O[p.2]?=some (some (c,d)):=by
 unfold B1q at h;by_cases hi:i < own.length
 ·rw[List.getElem?_append_left (by simpa using hi),qk] at h;cases e:own[i]? with
  | none=>rw[e] at h;cases h
  | some _=>rw[e] at h;cases h
 ·rw[List.getElem?_append_right (by simpa using Nat.le_of_not_lt hi),qf,qk] at h;cases e:cap[i - own.length]? with
  | none=>rw[e] at h;cases h
  | some p =>
   rw[e] at h;simp only[Option.map_some,Option.some.injEq] at h;cases e2:O[p.2]? with
   | none=>rw[e2] at h;cases h
   | some x =>
    rw[e2] at h;cases x with
    | none=>cases h
    | some y=>cases h;exact ⟨rfl,p,y.1,rfl,Nat.le_of_not_lt hi,e2⟩
theorem B9p {own:List Str} {i:Nat} {p:Str × Nat} {v:V} (h:cap[i - own.length]?=some p) (hi:own.length<=i) (hv:U[p.2]?=some (some v)):(A68 own cap U)[i]?=some (some v):=by
 unfold A68;rw[List.getElem?_append_right (by simpa using hi),qf,qk,h];simp[hv]
theorem C85 {own:List Str} :S5 (B1q own cap O):=λi d h=>by
 have:=(B14 h).1;cases this
def D2 (ok:Bool) (acc:Addr) (ν:Nat->List Addr):Nat->List Addr
 | 0=>[acc]
 | i+1=>if ok=true then ν i else []
theorem Q9 {ok:Bool} {i:Nat}:D2 ok acc ν (i+1)=if ok=true then ν i else []:=rfl
theorem C43 {own:List Str} (S:B8 K Z0 H0 ν O U H1) (ha:H1 acc=none) (ok:Bool) (hok:ok=true->A6m cap O=true) :
  In K (upd H1 acc (.lst [])) H1 (fz ok ν H1) (D2 ok acc ν) acc (B1q own cap O) (A68 own cap U) (upd H1 acc (.lst [])) []:=by
 have sm:A9 H1 (upd H1 acc (.lst [])):=A9.new ha;have fzs:A9 (fz ok ν H1) H1:=by unfold fz;split;exact E4;exact A9.refl _
 have nacc:∀ i,acc∉ν i:=λi z=>by obtain ⟨_,_,us,q⟩:=S.fr i acc z;rw[ha] at q;cases q
 refine ⟨⟨fzs.trans sm,?_,?_,?_,?_,?_,λa z=>z.elim⟩,sm,ha,⟨_,B2⟩,λa h=>h,⟨0,by simp[D2]⟩,C85,[],B2,.nil,λ_=>⟨[],.nil,nodup_nil,λ_ z=>by cases z⟩⟩
 ·unfold A68 B1q;simp
 ·intro i b d h;obtain ⟨rfl,p,c,h1,h2,h3⟩:=B14 h;obtain ⟨v,g1,g2⟩:=S.sl p.2 c d h3;refine ⟨v,B9p h1 h2 g1,?_⟩;cases ok with
  | true =>
   have hc:=hok rfl;unfold A6m at hc;have hc:=all_eq_true.mp hc p (zr h1);rw[h3] at hc;cases c with
   | true=>cases hc
   | false =>
    refine Dn.same (λa o q=>?_) (show Dn K (N0 (Hd Z0 ν) H1) v d from g2);obtain ⟨q1,q2⟩:=G7 q;refine E2 (sm _ _ q1) λz=>?_;rcases z with z|⟨j,z⟩
    ·exact z
    ·cases j with
     | zero=>rw[show D2 true acc ν 0=[acc] from rfl,zc] at z;rw[z,ha] at q1;cases q1
     | succ j=>exact q2 (.inr ⟨j,z⟩)
  | false =>
   have gd:Dn K H1 v d:=by
    cases c with
    | true=>exact Ow.den g2
    | false=>exact Dn.same E4 g2
   refine Dn.same (λa o q=>?_) gd;refine E2 (sm _ _ q) λz=>?_;rcases z with z|⟨j,z⟩
   ·exact z
   ·cases j with
    | zero=>rw[show D2 false acc ν 0=[acc] from rfl,zc] at z;rw[z,ha] at q;cases q
    | succ j=>cases z
 ·intro i;cases i with
  | zero=>simp[D2]
  | succ i=>rw[Q9];split;exact S.nd i;exact nodup_nil
 ·intro i j a hi hj;cases i with
  | zero =>
   have e:a=acc:=by simpa [D2] using hi
   cases j with
   | zero=>rfl
   | succ j =>
    rw[Q9] at hj;split at hj
    ·rw[e] at hj;exact absurd hj (nacc j)
    ·cases hj
  | succ i =>
   rw[Q9] at hi;split at hi
   case isFalse=>cases hi
   case isTrue =>
    cases j with
    | zero =>
     have e:a=acc:=by simpa [D2] using hj
     rw[e] at hi;exact absurd hi (nacc i)
    | succ j =>
     rename_i hk;rw[Q9,qm hk] at hj;rw[S.dj i j a hi hj]
 ·intro i a h;cases i with
  | zero =>
   have e:a=acc:=by simpa [D2] using h
   subst e;exact ⟨fzs.gone ha,λz=>z,Mu.lst B2⟩
  | succ i =>
   rw[Q9] at h;split at h
   case isFalse=>cases h
   case isTrue hk =>
    obtain ⟨_,_,us,q⟩:=S.fr i a h;refine ⟨?_,λz=>z,us,sm _ _ q⟩;unfold fz;rw[qm hk];unfold N0;rw[qm (.inr ⟨i,h⟩)]
theorem D2y {Hq:Hp} {ρr:C4} {σr:L2.St} {es:Q8} {ok:Bool} (S:B8 K Z0 H0 ν O U Hs) (e1:A9 Hs H1) (ha:H1 acc=none) (I:In K (upd H1 acc (.lst [])) H1 Hq (D2 ok acc ν) acc ρr σr H' es) :
  T0 K Z0 ν Hs H' (if es.all (·.2)=true then .own [] else if ok=true then .old else .mix) (.ref acc) (.list (es.map (·.1))):=by
 obtain ⟨us,h1,h2,h3⟩:=I.ac;split
 ·obtain ⟨ms,g1,g2,g3⟩:=h3 ‹_›;refine ⟨acc::ms,.lst h1 g1,nodup_cons.mpr ⟨λz=>?_,g2⟩,λa hm=>.inl ?_⟩
  ·have:=g3 acc z;rw[B2] at this;cases this
  ·rcases zk.mp hm with rfl|hm
   ·exact e1.gone ha
   ·have:=g3 a hm;by_cases z:a=acc
    ·subst z;exact e1.gone ha
    ·rw[B5 z] at this;exact e1.gone this
 ·split
  case isTrue hk =>
   have hz:¬ Hd Z0 ν acc:=λz=>by obtain ⟨us,q⟩:=S.hl acc z;rw[e1.gone ha] at q;cases q
   refine .lst (E2 h1 hz) (Dns.same (A08 λa z=>?_) h2);rcases z with z|⟨j,z⟩
   ·exact z.elim
   ·exact .inr ⟨j+1,by rw[Q9,qm hk];exact z⟩
  case isFalse=>exact .lst h1 (Dns.same E4 h2)
end
section
variable {X:Cx} {K:W.Frag} {E:XK} {pos:Pos} {elt tg iter:Expr} {ifs:List Expr} {rest:List Comprehension} {scope:Scope} {ti:TDI} {T Tb:List Nat} {bnd:TGD} {tif:Y7} {tb:TB}
theorem C9u {own:List Str} :∀ U H Q,LE K E (dLC ti (T++Tb) bnd tif tb own cap) U H Q->tLC (LI K E ti) (LG K T bnd) (LT K E0 tif) (λacc=>LB K acc Tb tb) own cap U H Q:=λU H Q h=>by
 obtain ⟨H0,ν,O,Qd,Xd,S,h1,q,x⟩:=h;refine ⟨H0,ν,O,_,Xd,S,h1,λds b J H1 g1 e1 it=>?_,x⟩;intro acc ha;obtain ⟨ok,hk⟩:∃ ok,ok=(b&&A6m cap O):=⟨_,rfl⟩;have I:=C43 (own:=own) (S.same e1) ha ok (λz=>by rw[hk,zb] at z;exact z.2);have hf:A9 (fz b ν H1) (fz ok ν H1):=by
  cases ok with
  | true =>
   have:b=true:=by rw[Eq.comm,zb] at hk;exact hk.1
   rw[this];exact A9.refl _
  | false=>unfold fz;split;exact E4;exact A9.refl _
 refine B4u I it hf (λi hi=>qz _ hi) g1 λes' O' U' H' a I' A=>?_;rw[<-hk] at a;exact q _ _ _ H' a (e1.trans I'.sm) (D2y S e1 ha I')
theorem S9 (own:List Str) (cap:List (Str × Nat)) (hc:X.calm=true) (L:C2 X scope own cap) (hi:DI X K E tg iter ti)
  (hin:∀ (s₃:Shared) (H₃:Hp) (fp:List Addr) (acc:Addr),DG (X.inn scope (L2.D2 own cap) s₃ H₃ fp) K tg T bnd/\DTs (X.inn scope (L2.D2 own cap) s₃ H₃ fp) K ifs tif/\DB (X.inn scope (L2.D2 own cap) s₃ H₃ fp) K elt (⟨tg,iter,ifs,0⟩::rest) scope pos 0 acc Tb tb)
  (hs:∀ x,foldedSetIterable iter X.env x=pure x:=by intro _;rfl):DE X K E (.ListComp elt (⟨tg,iter,ifs,0⟩::rest) scope pos) (dLC ti (T++Tb) bnd tif tb own cap) :=
 ⟨C9 (B2w own cap hc L hi.q (λa b c d=>⟨(hin a b c d).1.lift,(hin a b c d).2.1.q,(hin a b c d).2.2.q⟩) hs) C9u⟩
theorem V9 {i:Nat} {y:Str} (own:List Str) (cap:List (Str × Nat)) (hN:X.N.Nodup) (hyi:X.N[i]?=some y) (hy:X.env.scope.names.lookup y=some .local) (hc:X.calm=true) (L:C2 X scope own cap) (hi:DI X K E tg iter ti)
  (hin:∀ (s₃:Shared) (H₃:Hp) (fp:List Addr) (acc:Addr),DG (X.inn scope (L2.D2 own cap) s₃ H₃ fp) K tg T bnd/\DTs (X.inn scope (L2.D2 own cap) s₃ H₃ fp) K ifs tif/\DB (X.inn scope (L2.D2 own cap) s₃ H₃ fp) K elt (⟨tg,iter,ifs,0⟩::rest) scope pos 0 acc Tb tb)
  (hsw:swapsWith (.ListComp elt (⟨tg,iter,ifs,0⟩::rest) scope pos) (some (.Name y py)) spos.line X.env=pure true:=by rfl) (hs:∀ x,foldedSetIterable iter X.env x=pure x:=by intro _;rfl) :
  DS X K E (.Assign [.Name y py] (.ListComp elt (⟨tg,iter,ifs,0⟩::rest) scope pos) spos) (C78 i (dLC ti (T++Tb) bnd tif tb own cap)) :=
 ⟨L9 (B8w own cap hN hyi hy hc L hi.q (λa b c d=>⟨(hin a b c d).1.lift,(hin a b c d).2.1.q,(hin a b c d).2.2.q⟩) hsw hs) λEn U H h=>by
  obtain ⟨H0,ν,O,Dd,Xd,S,h1,ok,x⟩:=h;refine C9u U H _ ⟨H0,ν,O,_,Xd,S,h1,λd k v H' g1 g2 g3=>?_,x⟩;obtain ⟨ν',S'⟩:=S.setK g2 g3 i;exact ok.nx _ _ _ _ g1 S'⟩
end
section
variable {K:W.Frag} {H0 H H':Hp} {ν:Nat->List Addr} {O:C4} {U:L2.St} {v:V} {d:D}
theorem B8.mut (S:B8 K Z0 H0 ν O U H) (s:List Nat) (i:Nat) {ms:List Addr} (hi:U[i]?=some (some v)) (hr:i < O.length) (k:∀ a o,H a=some o->a∉ν i->H' a=some o) (h:Ow K H' v d ms) (nd:ms.Nodup) (fr:∀ a∈ms,a∈ν i\/H a=none\/∃ j∈s,a∈ν j) (hs:i∉s)
  (gone:∀ j∈s,∀ a∈ν j,Mu H' a) :
  B8 K Z0 H0 (λj=>if j=i then ms else if j∈s then [] else ν j) ((E6 O s).set i (some (true,d))) U H' where
 sm:=λa o ha=>k a o (S.sm a o ha) λz=>by rw[(S.fr i a z).1] at ha;cases ha
 len:=by rw[length_set,R1];exact S.len
 sl:=λj b c hj=>by
  rcases P5 hj with ⟨rfl,h1,h2⟩|⟨h1,h2⟩
  ·cases h1;exact ⟨v,hi,by rw[qm rfl];rw[qm rfl];exact h⟩
  ·obtain ⟨h3,h4⟩:=W3 s h2;obtain ⟨u,q1,q2⟩:=S.sl j b c h4;refine ⟨u,q1,?_⟩;cases b with
   | true =>
    rw[qm rfl,qo h1,qo h3];have q2:Ow K H u c (ν j):=q2;refine q2.kept ⟨λa ha=>?_,λa o ha hn=>k a o ha λz=>?_⟩
    ·obtain ⟨us,q⟩:=q2.there a ha;rw[k a _ q λz=>h1 (S.dj j i a ha z),q]
    ·exact (S.fr i a z).2.2.no ha hn
   | false =>
    refine Dn.same (λa o ha=>?_) q2;obtain ⟨g1,g2⟩:=G7 ha;refine E2 (k a o g1 λz=>g2 (.inr ⟨i,z⟩)) λz=>?_;rcases z with z|⟨l,z⟩
    ·exact z
    ·have z:a∈(if l=i then ms else if l∈s then [] else ν l):=z;split at z
     ·rcases fr a z with z|z|⟨l,_,z⟩
      ·exact g2 (.inr ⟨i,z⟩)
      ·rw[g1] at z;cases z
      ·exact g2 (.inr ⟨l,z⟩)
     ·split at z
      ·cases z
      ·exact g2 (.inr ⟨l,z⟩)
 nd:=λj=>by
  split
  ·exact nd
  ·split
   ·exact nodup_nil
   ·exact S.nd j
 dj:=λj l a hj hl=>by
  have key:∀ m,m≠i->m∉s->a∈ν m->a∉ms:=λm hm hms ha hz=>by
   rcases fr a hz with z|z|⟨n,hn,z⟩
   ·exact hm (S.dj m i a ha z)
   ·obtain ⟨_,_,us,q⟩:=S.fr m a ha;rw[z] at q;cases q
   ·rw[S.dj m n a ha z] at hms;exact hms hn
  split at hj
  ·split at hl
   ·lia
   ·split at hl
    ·cases hl
    ·exact absurd hj (key l ‹_› ‹_› hl)
  ·split at hj
   ·cases hj
   ·split at hl
    ·exact absurd hl (key j ‹_› ‹_› hj)
    ·split at hl
     ·cases hl
     ·exact S.dj j l a hj hl
 fr:=λj a ha=>by
  split at ha
  ·have ht:=h.there a ha;rcases fr a ha with z|z|⟨m,_,z⟩
   ·exact ⟨(S.fr i a z).1,(λq=>q),ht⟩
   ·exact ⟨S.sm.gone z,(λq=>q),ht⟩
   ·exact ⟨(S.fr m a z).1,(λq=>q),ht⟩
  ·split at ha
   ·cases ha
   ·obtain ⟨q1,q2,us,q3⟩:=S.fr j a ha;exact ⟨q1,q2,us,k a _ q3 λz=>absurd (S.dj j i a ha z) ‹_›⟩
 zf:=λa h=>h.elim
theorem C68 {k:Kd} {s:List Nat} (e:eff d k=.own s) (hl:∀ a,Hd Z0 ν a->Mu H a) (h:T0 K Z0 ν Hs H k v d):∃ ms,Ow K H v d ms/\ms.Nodup/\∀ a∈ms,Hs a=none\/∃ j∈s,a∈ν j:=by
 have h':T0 K Z0 ν Hs H (eff d k) v d:=by
  unfold eff;split
  ·exact T0.flat h.den ‹_› hl _
  ·exact h
 rw[e] at h';exact h'
end
section
variable {X:Cx} {K:W.Frag} {E:XK} {pos apos cpos:Pos} {e:Expr} {te:TD}
def D7j (i:Nat) (te:TD):L1:=λDd O Xd=>∃ ds,O[i]?=some (some (true,.list ds))/\ds.length < 1000000/\te O (λd k=>match eff d k with
 | .own s=>i∉s/\Dd.nx ((E6 O s).set i (some (true,.list (ds++[d]))))
 | _=>False) Xd
theorem C1r {O:C4} {U:L2.St} {i:Nat} {ds:List D} (S:B8 K Z0 H0 ν O U H) (h:O[i]?=some (some (true,.list ds))):∃ a us ns,U[i]?=some (some (.ref a))/\H a=some (.lst us)/\Ows K H us ds ns/\ν i=a::ns/\a∉ns/\ns.Nodup:=by
 obtain ⟨v,h1,h2⟩:=S.sl i true _ h;have h2:Ow K H v (.list ds) (ν i):=h2;have hn:=S.nd i;generalize hv:ν i=n at h2 hn;cases h2 with
 | lst h r=>exact ⟨_,_,_,h1,h,r,rfl,(nodup_cons.mp hn).1,(nodup_cons.mp hn).2⟩
theorem C2z {α:Type} {l:List α} {i:Nat} {x:α} (h:l[i]?=some x):i < l.length:=(qh.mp h).1
theorem X2 (i:Nat) {x:Str} (hK:X.K=K) (ho:QE X (.Name x px) (Z1 i)) (he:DE X K E e te) (hs:starEach [e] X.env=[(false,eval e X.env)]) (hbase:attributeBase (.Name x px) "append" X.env (eval (.Name x px) X.env)=eval (.Name x px) X.env) (hline:(apos.endLine==cpos.line)=true)
  (hsw:swapsWith (.Call (.Attribute (.Name x px) "append" apos) [e] [] cpos) none pos.line X.env=pure false:=by rfl):DS X K E (.Expr (.Call (.Attribute (.Name x px) "append" apos) [e] [] cpos) pos) (D7j i te):=⟨L9 (B16 (B0s K hK ho he.q hs hbase hline) hsw) λEn U H h=>by
 obtain ⟨H0,ν,O,Dd,Xd,S,⟨ds,h1,h2,h3⟩,ok,x⟩:=h;obtain ⟨a,us,ns,g1,g2,g3,g4,g5,g6⟩:=C1r S h1;refine ⟨_,g1,tyl (O5.of g2),H0,ν,O,_,Xd,S,h3,λd k v H1 q1 e1 r1=>?_,x⟩;split at q1
 case h_2=>exact q1.elim
 case h_1 s es =>
  obtain ⟨ms,m1,m2,m3⟩:=C68 es (S.same e1).hl r1;have ha1:H1 a=some (.lst us):=e1 _ _ g2;have nm:∀ b∈ms,b∉ν i:=λb hb z=>by
   rcases m3 b hb with y|⟨j,hj,y⟩
   ·obtain ⟨_,_,us,w⟩:=S.fr i b z;rw[y] at w;cases w
   ·rw[S.dj i j b z y] at q1;exact q1.1 hj
  have ham:a∉ms:=λz=>nm a z (by rw[g4];exact qu);refine ⟨a,us,v,rfl,rfl,ha1,by rw[g3.den.length];exact qr h2 L3,?_⟩;have S1:=S.same e1;refine ok.nx _ _ _ _ q1.2 (S.mut s i (ms:=a::(ns++ms)) (v:=.ref a) g1 (C2z h1) (λb o hb hn=>?_) ?_ ?_ ?_ q1.1 ?_)
  ·rw[B5 (λz=>hn (by rw[z,g4];exact qu))];exact e1 _ _ hb
  ·have kp:∀ l:List Addr,(∀ b∈l,b≠a)->A3n l H1 (upd H1 a (.lst (us++[v]))):=λl hl=>⟨λb hb=>B5 (hl b hb),λb o hb hn=>by
    have:b≠a:=λz=>by rw[z,ha1] at hb;cases hb;cases (show true=false from hn)
    rw[B5 this];exact hb⟩
   have A:=(g3.same e1).kept (kp ns λb hb z=>g5 (z ▸ hb));have B:=m1.kept (kp ms λb hb z=>ham (z ▸ hb));exact .lst B2 (B0o B A)
  ·refine nodup_cons.mpr ⟨λz=>?_,nodup_append.mpr ⟨g6,m2,λy hy z hz e=>?_⟩⟩
   ·rcases zj.mp z with z|z
    ·exact g5 z
    ·exact ham z
   ·subst e;exact nm y hz (by rw[g4];exact qv _ hy)
  ·intro b hb;rcases zk.mp hb with rfl|hb
   ·exact .inl (by rw[g4];exact qu)
   ·rcases zj.mp hb with hb|hb
    ·exact .inl (by rw[g4];exact qv _ hb)
    ·rcases m3 b hb with y|y
     ·exact .inr (.inl y)
     ·exact .inr (.inr y)
  ·intro j hj b hb;obtain ⟨_,_,us',w⟩:=S1.fr j b hb;have:b≠a:=λz=>by
    have:=S.dj i j b (by rw[g4,z];exact qu) hb;rw[this] at q1;exact q1.1 hj
   exact ⟨us',by rw[B5 this];exact w⟩⟩
end
section
variable {X:Cx} {K:W.Frag} {E:XK} {pos px:Pos} {e e1:Expr} {te:TD} {x:Str}
def D7c (i:Nat) (te:TD) (f:Int->Int->Int):L1:=λDd O Xd=>∃ b a,O[i]?=some (some (b,.int a))/\te O (λd _=>∃ c,d=.int c/\Dd.nx (O.set i (some (false,.int (f a c))))) Xd
theorem B9e (i:Nat) {op:Operator} {f:Int->Int->Int} (hN:X.N.Nodup) (he:DE X K E e te) (hp:PIp X op (ipI f)) (hi:X.N[i]?=some x:=by rfl) (hx:Loc X.env.scope x:=by first|exact Or.inl rfl|exact Or.inr rfl) (hf:X.fn x=true\/X.env.scope.names.lookup x=some .local:=by first|exact .inl rfl|exact .inr rfl|assumption) :
  DS X K E (.AugAssign (.Name x px) op e pos) (D7c i te f):=⟨L9 (C6t hN hi hx he.q hp hf) λEn U H h=>by
 obtain ⟨H0,ν,O,Dd,Xd,S,⟨b,a,h1,h2⟩,ok,x⟩:=h;obtain ⟨v,g1,g2⟩:=S.get h1;refine ⟨v,g1,H0,ν,O,_,Xd,S,h2,λd k w H1 q1 e1 r1=>?_,x⟩;obtain ⟨c,rfl,q1⟩:=q1;exact ⟨a,c,R4 g2,R4 r1.den,ok.nx _ _ _ _ q1 ((S.same e1).setOld i (.int _))⟩⟩
end
def A1d (N:List Str) (ds:List D):C4:=ds.map (λd=>some (false,d))++List.replicate (N.length - ds.length) none
theorem C0w {vs:List V} {ds:List D} (h:Dns K H vs ds):B8 K Z0 H (λ_=>[]) (A1d N ds) (start N vs) H:=by
 have hl:=h.length;refine ⟨A9.refl H,?_,λi b d hi=>?_,λ_=>nodup_nil,(λ_ _ _ z=>by cases z),(λ_ _ z=>by cases z),λ_ z=>False.elim z⟩
 ·unfold A1d L2.start;simp[hl]
 ·unfold A1d at hi;by_cases hlt:i < ds.length
  ·rw[List.getElem?_append_left (by simpa using hlt),qk] at hi;cases e:ds[i]? with
   | none=>rw[e] at hi;cases hi
   | some c =>
    rw[e] at hi;cases hi;obtain ⟨v,g1,g2⟩:=h.get e;refine ⟨v,?_,Dn.same A4g g2⟩;unfold L2.start;rw[List.getElem?_append_left (by rw[qf,hl];exact hlt),qk,g1];rfl
  ·rw[List.getElem?_append_right (by simpa using Nat.le_of_not_lt hlt),List.getElem?_replicate] at hi;split at hi<;>cases hi
theorem dmk {E:XK} {b:List Stmt} {t:L1} {vs:List V} {Q:VK} {ds:List D} {Qd:D->Bool->Prop} {Xd:XD} (h:DSs X K E b t) (hd:Dns K H vs ds) (q:∀ d o v H',Qd d o->A9 H H'->RR K H H' o v d->Q v H') (x:∀ C H',Xd C->A9 H H'->E (.ref C) none H')
  (r:t {nx:=λ_=>Qd .none true,rt:=Qd } (A1d N ds) Xd):∃ t,PSs X b t/\t { nx:=λ_ H'=>Q .non H',rt:=Q } (start N vs) H :=
 ⟨_,h.q.h,H,_,_,_,Xd,C0w hd,r,⟨λν O U H' a S=>q _ _ _ _ a S.sm ⟨[],.non,nodup_nil,λ_ z=>by cases z⟩,λ_ _ _ _ z=>z.elim,λ_ _ _ _ z=>z.elim,q⟩,x⟩
theorem ok0 {base:Heap} {x:Str} {st:Stmt} {f:Addr} {k:Nat} {sp:W1} (F:W2 K x qual st f fd) (S:C0 N ps (B1 st)) (len:∀ ds Q X,sp ds Q X->ds.length=ps.length)
  (hbody:∀ (cdv:Value) (A:Around) (outer:List Env) (s:Shared) (H:Hp) (E:XK),O3 k (A.deeper (envOfC qual (B1 st) s.heap.objs.size f cdv))->∃ t,DSs (Z5 Z2 P w K mg base N qual (B1 st) f cdv A outer s H E).nox K E0 (M8 st) t/\∀ ds Qd,sp ds Qd Xf->t {nx:=λ_=>Qd .none true,rt:=Qd } (A1d N ds) Xf)
  (hx:∀ ds Qd Xd,sp ds Qd Xd->sp ds Qd Xf):I0 P w K mg base Z2 (k+1) f fd ps (G6 K sp):=by
 refine F.ok S (λvs H Q E h=>?_) (λcdv A outer s H vs Q E hr h=>?_)
 ·obtain ⟨ds,Qd,Xd,h1,h2,_⟩:=h;rw[h1.length];exact len ds Qd Xd h2
 ·obtain ⟨ds,Qd,Xd,h1,h2,h3,h4⟩:=h;obtain ⟨t,D,r⟩:=hbody cdv A outer s H E hr;exact dmk D h1 h3 (λ_ _ z _=>z.elim) (r ds Qd (hx _ _ _ h2))
theorem okE {base:Heap} {x:Str} {st:Stmt} {f:Addr} {k:Nat} {sp:W1} (F:W2 K x qual st f fd) (S:C0 N ps (B1 st)) (len:∀ ds Q X,sp ds Q X->ds.length=ps.length)
  (hbody:∀ (cdv:Value) (A:Around) (outer:List Env) (s:Shared) (H:Hp) (E:XK),O3 k (A.deeper (envOfC qual (B1 st) s.heap.objs.size f cdv))->∃ t,DSs (Z5 (CXE P w base) P w K mg base N qual (B1 st) f cdv A outer s H E) K E (M8 st) t/\∀ ds Qd Xd,sp ds Qd Xd->t {nx:=λ_=>Qd .none true,rt:=Qd } (A1d N ds) Xd) :
  I0 P w K mg base (CXE P w base) (k+1) f fd ps (G6 K sp):=by
 refine F.okE S (λvs H Q E h=>?_) (λcdv A outer s H vs Q E hr h=>?_)
 ·obtain ⟨ds,Qd,Xd,h1,h2,_⟩:=h;rw[h1.length];exact len ds Qd Xd h2
 ·obtain ⟨ds,Qd,Xd,h1,h2,h3,h4⟩:=h;obtain ⟨t,D,r⟩:=hbody cdv A outer s H E hr;exact dmk D h1 h3 h4 (r ds Qd Xd h2)
section
variable {X:Cx} {K:W.Frag} {E:XK} {pos:Pos} {e e1:Expr} {te:TD} {x:Str}
theorem dnS {s:Stmt} {t:L1} (h:DS X.nox K E s t):DS X K E s t:=⟨qnS h.q⟩
theorem dnT {e:Expr} {t:Y7} (h:DT X.nox K E e t):DT X K E e t:=⟨qnT h.q⟩
def O2 (b:Bool):C4->List Nat->List D->C4
 | O,i::is,d::ds=>O2 b (O.set i (some (b&&!flat d,d))) is ds
 | O,_,_=>O
def B0z (O:C4) (is:List Nat) (ds:List D) (k:Kd):C4:=match eff (.tuple ds) k with
 | .own []=>O2 true O is ds
 | .old=>O2 false O is ds
 | _=>O2 false (frz O) is ds
def B23:L2.St->List Nat->List V->L2.St
 | U,i::is,v::vs=>B23 (U.set i (some v)) is vs
 | U,_,_=>U
theorem A80:∀ {is:List Nat} {vs:List V} {ds:List D} {O:C4} {U:L2.St},B8 K Z0 H0 ν O U H->Dns K (N0 (Hd Z0 ν) H) vs ds->B8 K Z0 H0 ν (O2 false O is ds) (B23 U is vs) H
 | [],_,_,_,_,S,_=>S
 | i::is,_,_,_,_,S,.nil=>S
 | i::is,_,_,_,_,S,.cons h r=>by
  have:=A80 (is:=is) (S.setOld i h) r;exact this
theorem C5p:∀ (is:List Nat) {vs:List V} {ds:List D} {O:C4} {U:L2.St} {ν:Nat->List Addr} {ms:List Addr},B8 K Z0 H0 ν O U (N0 (·∈ms) H')->Ows K H' vs ds ms->ms.Nodup->∃ ν',B8 K Z0 H0 ν' (O2 true O is ds) (B23 U is vs) H':=by
 intro is
 induction is with
 | nil=>intro vs ds O U ν ms S _ _;exact ⟨ν,by unfold O2 B23;exact S.same E4⟩
 | cons i is ih =>
  intro vs ds O U ν ms S r0 nd;cases r0 with
  | nil=>exact ⟨ν,S.same E4⟩
  | cons h r =>
   rename_i v vs d ds n m;rw[nodup_append] at nd;have sm:A9 (N0 (·∈n++m) H') (N0 (·∈m) H'):=A08 λa z=>qw _ z;have nt:∀ a o,H' a=some o->muO o=false->N0 (·∈m) H' a=some o:=λa o ha hn=>E2 ha λz=>by
    exact (r.there a z).no ha hn
   have hk:A3n n H' (N0 (·∈m) H'):=⟨λa ha=>by
    unfold N0;rw[qo λz=>nd.2.2 a ha a z rfl],nt⟩
   show ∃ ν',B8 K Z0 H0 ν' (O2 true (O.set i (some (true&&!flat d,d))) is _) (B23 (U.set i (some v)) is _) H';cases hf:flat d with
   | true =>
    have S1:=(S.same sm).setOld i (v:=v) (d:=d) (A0n (S.same sm).hl (B0h nt h.den hf) hf);exact ih S1 r nd.2.1
   | false =>
    have S1:=S.setOwn [] i sm (h.kept hk) nd.1 λa ha=>.inl (by unfold N0;rw[qm (qz _ ha)]);exact ih S1 r nd.2.1
theorem D30 {O:C4} {U:L2.St} {k:Kd} {a:Addr} {ds:List D} (S:B8 K Z0 H0 ν O U H) (e:A9 H H') (h:T0 K Z0 ν H H' k (.ref a) (.tuple ds)) (is:List Nat):∃ us ν',V2 K H' a us/\us.length=ds.length/\B8 K Z0 H0 ν' (B0z O is ds k) (B23 U is us) H':=by
 have h':T0 K Z0 ν H H' (eff (.tuple ds) k) (.ref a) (.tuple ds):=by
  unfold eff;split
  ·exact T0.flat h.den ‹_› (S.same e).hl _
  ·exact h
 have frzc:∃ us ν',V2 K H' a us/\us.length=ds.length/\B8 K Z0 H0 ν' (O2 false (frz O) is ds) (B23 U is us) H':=by
  obtain ⟨a',us,q,q1,q2⟩:=K6 h.den;cases q;exact ⟨us,_,q1,q2.length,A80 (S.same e).frz (Dns.same A4g q2)⟩
 unfold B0z;generalize eff (.tuple ds) k=k' at h';split
 ·obtain ⟨ms,m1,m2,m3⟩:=h';cases m1 with
  | tup q1 q2 =>
   have sm:A9 H (N0 (·∈ms) H'):=λb o hb=>E2 (e _ _ hb) λz=>by
    rcases m3 b z with y|⟨_,y,_⟩
    ·rw[hb] at y;cases y
    ·cases y
   obtain ⟨ν',S'⟩:=C5p is (S.same sm) q2 m2;exact ⟨_,ν',q1,q2.den.length,S'⟩
 ·obtain ⟨a',us,q,q1,q2⟩:=K6 (show Dn K _ _ _ from h');cases q;exact ⟨us,ν,A9.tup E4 q1,q2.length,A80 (S.same e) q2⟩
 ·exact frzc
def B3o:List Nat->TGs
 | []=>D4p
 | i::is=>B9v (N1 i) (B3o is)
theorem A75:∀ (is:List Nat) (vs:List V) (U:L2.St) (H:Hp) (Q:L2.St->Hp->Prop),vs.length=is.length->Q (B23 U is vs) H->B3o is vs U H Q
 | [],[],U,H,Q,_,q=>⟨rfl,q⟩
 | i::is,v::vs,U,H,Q,hl,q=>⟨v,vs,rfl,A75 is vs _ H Q (by simpa using hl) q⟩
 | [],_::_,_,_,_,hl,_=>by cases hl
 | _::_,[],_,_,_,hl,_=>by cases hl
def D6g (is:List Nat) (te:TD):L1:=λDd O Xd=>te O (λd k=>match d with
 | .tuple ds=>ds.length=is.length/\Dd.nx (B0z O is ds k)
 | _=>False) Xd
theorem A43 (is:List Nat) (n:Nat) {es:List Expr} {kt:Nat} {pt:Pos} (hn':is.length=n) (hK:X.K=K) (hc:X.calm=true) (hg:QGs X es (B3o is)) (hn:(assignEach es X.env).length=n) (hst:(assignEach es X.env).findIdx? (·.1)=none) (he:DE X K E e te)
  (hs:swapsWithSole [.Tuple es kt pt] e pos.line X.env=pure false:=by rfl) (hw:swappedStores [.Tuple es kt pt] e X.env=pure none:=by rfl) (h1:(assignEach [.Tuple es kt pt] X.env).map (·.2)=[assign (.Tuple es kt pt) X.env]:=by rfl) :
  DS X K E (.Assign [.Tuple es kt pt] e pos) (D6g is te):=⟨L9 (C8c he.q (B1y K n hK hc hg hn hst) hs hw h1) λEn U H h=>by
 obtain ⟨H0,ν,O,Dd,Xd,S,h1,ok,x⟩:=h;refine ⟨H0,ν,O,_,Xd,S,h1,λd k v H' q1 e1 r1=>?_,x⟩;cases d with
 | tuple ds =>
  obtain ⟨a,us0,rfl,_,_⟩:=K6 r1.den;obtain ⟨us,ν',k1,k2,S'⟩:=D30 S e1 r1 is;exact ⟨a,us,rfl,k1,by rw[k2,q1.1,hn'],A75 is us U H' _ (by rw[k2,q1.1]) (ok.nx _ _ _ _ q1.2 S')⟩
 | _=>exact q1.elim⟩
variable {ns:List Int}
theorem B2v:flats (ns.map PyData.int)=true:=M4.mpr λd hd=>by
 obtain ⟨n,_,rfl⟩:=zg.mp hd;rfl
theorem A3g:∀ (ns:List Int),Dns K H (ns.map V.int) (ns.map PyData.int)
 | []=>.nil
 | n::r=>.cons (.int n) (A3g r)
def D06 (ns:List Int):TDA:=λ_ Q _=>Q (ns.map PyData.int) (.own [])
theorem C0g {es:List Expr} (h:A5p es=some ns):DA X K E es (D06 ns):=⟨B2j (C1d h) λU H Q h=>by
 obtain ⟨H0,ν,O,Qd,Xd,S,h1,q,x⟩:=h;exact q _ _ _ H h1 (A9.refl H) ⟨[],P9 (A3g ns) B2v,nodup_nil,λ_ z=>by cases z⟩⟩
end
def iD (r:List Int):D:=.list (r.map PyData.int)
def gD (g:List (List Int)):D:=.list (g.map iD)
theorem C0n {i:Int}:flat (.int i)=true:=rfl
theorem B7i {i:Bool}:flat (.bool i)=true:=rfl
theorem B9s {i:Str}:flat (.str i)=true:=rfl
theorem C3c:flat .none=true:=rfl
theorem B8r {l:List D}:flat (.list l)=false:=rfl
theorem W8 {l:List D}:flat (.tuple l)=flats l:=rfl
theorem B80:flats []=true:=rfl
theorem A52 {d:D} {l:List D}:flats (d::l)=(flat d&&flats l):=rfl
theorem C7s {r:List Int}:flat (iD r)=false:=rfl
theorem C6u {r:List (List Int)}:flat (gD r)=false:=rfl
def lpD (ds:List D) (bnd:TGD) (tb:L1):L1:=λDd O Xd=>∃ W:Nat->C4->Prop,W 0 O/\(∀ i d O,ds[i]?=some d->W i O->bnd d O λO'=>tb { Dd with nx:=W (i+1),ct:=W (i+1),bk:=Dd.nx } O' Xd)/\∀ O,W ds.length O->Dd.nx O
theorem M5 {ds:List D} {bnd:TGD} {tb:L1} {Dd:N5} {O:C4} {Xd:XD} (W:Nat->C4->Prop) (h0:W 0 O) (hs:∀ i d O,ds[i]?=some d->W i O->bnd d O λO'=>tb { Dd with nx:=W (i+1),ct:=W (i+1),bk:=Dd.nx } O' Xd) (hd:∀ O,W ds.length O->Dd.nx O):lpD ds bnd tb Dd O Xd:=⟨W,h0,hs,hd⟩
theorem C3g {i:Nat} {d:D} (h:(A3l lo n)[i]?=some d):i < n/\d=.int (lo+i):=by
 unfold A3l at h;rw[qk] at h;cases e:(List.range n)[i]? with
 | none=>rw[e] at h;cases h
 | some j =>
  rw[e] at h;cases h;obtain ⟨h1,h2⟩:=qh.mp e;rw[List.getElem_range] at h2;rw[length_range] at h1;exact ⟨h1,by rw[h2]⟩
theorem C05:(A3l lo n).length=n:=by unfold A3l;rw[qf,length_range]
theorem A1e {bnd:TGD} {tb:L1} {Dd:N5} {O:C4} {Xd:XD} (W:Nat->C4->Prop) (h0:W 0 O) (hs:∀ (i:Nat) O,i < n->W i O->bnd (.int (lo+i)) O λO'=>tb {Dd with nx:=W (i+1),ct:=W (i+1),bk:=Dd.nx } O' Xd) (hd:∀ O,W n O->Dd.nx O):lpD (A3l lo n) bnd tb Dd O Xd :=
 ⟨W,h0,λi d O e w=>by obtain ⟨h1,rfl⟩:=C3g e;exact hs i O h1 w,λO w=>hd O (by rw[C05] at w;exact w)⟩
def onB (d:D) (Q:Bool->Prop):Prop:=match d with|.bool i=>Q i|_=>False
def onI (d:D) (Q:Int->Prop):Prop:=match d with|.int i=>Q i|_=>False
def onL (d:D) (Q:List D->Prop):Prop:=match d with|.list l=>Q l|_=>False
def onT (d:D) (Q:List D->Prop):Prop:=match d with|.tuple l=>Q l|_=>False
section
variable {t u:L1} {te ta tb tc:TD} {tA tB:Y7} {tl:TDA} {Dd:N5} {O:C4} {Xd:XD} {Q:QD} {QT:Bool->Prop} {QA:List D->Kd->Prop} {i:Nat} {d e:D} {k l:Kd}
theorem D71 {b:Bool} {Q:Bool->Prop} (h:Q b):onB (.bool b) Q:=h
theorem D9b {b:Int} {Q:Int->Prop} (h:Q b):onI (.int b) Q:=h
theorem D8a {b:List D} {Q:List D->Prop} (h:Q b):onL (.list b) Q:=h
theorem D8t {b:List D} {Q:List D->Prop} (h:Q b):onT (.tuple b) Q:=h
theorem D96 (h:t { Dd with nx:=λO'=>u Dd O' Xd } O Xd):D6x t u Dd O Xd:=h
theorem D9a (h:te O (λd k=>Dd.nx (setK O i d k)) Xd):C78 i te Dd O Xd:=h
theorem D9f (h:te O (λd k=>Dd.rt d (rtK d k)) Xd):D8h te Dd O Xd:=h
theorem D2m (h:te O (λ_ _=>Dd.nx O) Xd):C9x te Dd O Xd:=h
theorem D2s (h:Dd.nx O):C9z Dd O Xd:=h
theorem D94 (h:tA O (λb=>if b=true then t Dd O Xd else u Dd O Xd) Xd):D9s tA t u Dd O Xd:=h
theorem E28 {f b:C4->Prop} {r:D->Bool->Prop} (h:f O):N5.nx ⟨f,r,b,c⟩ O:=h
theorem E1h {f b:C4->Prop} {r:D->Bool->Prop} {o:Bool} (h:r d o):N5.rt ⟨f,r,b,c⟩ d o:=h
theorem E01 (h:t Dd (frz1 i O) Xd):D6u i t Dd O Xd:=h
theorem w_c (h:Q d .old):dC d O Q Xd:=h
theorem E0q {f:F2} (h:ta O (λd k=>tb O (λe l=>f d k e l Q) Xd) Xd):dOp f ta tb O Q Xd:=h
variable {y:Int} {ds:List D} {s:List Nat} {r:C4} {x1:Option (Bool × D)}
theorem D93 {g:Int->Int->D} {x:Int} (h:Q (g x y) .old):fI T2 g (.int x) k (.int y) l Q:=⟨trivial,h⟩
theorem E1e {C:Int->Int->Prop} {g:Int->Int->D} {x:Int} (h:C x y/\Q (g x y) .old):fI C g (.int x) k (.int y) l Q:=h
theorem D5m {x:Int} (h:Q (.int (x+y)) .old):C2e (.int x) k (.int y) l Q:=h
theorem D2c {x y:List D} (h:x.length+y.length<=1000000/\Q (.list (x++y)) (A01 x k y l)):C2e (.list x) k (.list y) l Q:=h
theorem D53 {x y:Str} (h:x.length+y.length<=1000000/\Q (.str (x++y)) .old):C2e (.str x) k (.str y) l Q:=h
def IxD (ds:List D) (i:Int) (Q:D->Prop):Prop:=∃ x,atI ds i=some x/\Q x
theorem D7m {x:List D} (h:IxD x y λd=>Q d k.sub):fIx (.list x) k (.int y) l Q:=h
theorem D6w {x:List D} (h:IxD x y λd=>Q d k.sub):fIx (.tuple x) k (.int y) l Q:=h
theorem E0m {f:Bool->Bool} (h:(d.canLay0=true/\e.canLay0=true/\d.depth<=32)/\Q (.bool (f (PyData.eqv d e))) .old):fEq f d k e l Q:=⟨h.1.1,h.1.2.1,h.1.2.2,h.2⟩
theorem D9i {f:Bool->Bool} {x:Int} (h:Q (.bool (f (x==y))) .old):fEq f (.int x) k (.int y) l Q:=⟨rfl,rfl,zz _,h⟩
theorem E2g {f:Bool->Bool} {x:List D} (h:(O6 d=true/\x.all O6=true)/\Q (.bool (f (inD d x))) .old):fIn f d k (.list x) l Q:=⟨h.1.1,h.1.2,h.2⟩
theorem D6f {f:Bool->Bool} {x:List D} (h:(O6 d=true/\x.all O6=true)/\Q (.bool (f (inD d x))) .old):fIn f d k (.tuple x) l Q:=⟨h.1.1,h.1.2,h.2⟩
theorem D6l (h:ta O (λd _=>onI d λi=>Q (.int (-i)) .old) Xd):D8b ta O Q Xd:=h
theorem D4d (h:ta O (λd _=>onB d λi=>Q (.bool (!i)) .old) Xd):C9v ta O Q Xd:=h
theorem D1e (h:ta O (λd _=>onB d λi=>if i=true then tb O Q Xd else Q (.bool false) .old) Xd):C9h ta tb O Q Xd:=h
theorem w_B (h:ta O (λd _=>onB d QT) Xd):dB ta O QT Xd:=h
theorem D74 (h:tA O (λb=>if b=true then tB O QT Xd else QT false) Xd):D3f tA tB O QT Xd:=h
theorem E22 (h:tA O (λb=>if b=true then QT true else tB O QT Xd) Xd):dOr tA tB O QT Xd:=h
theorem w_not (h:tA O (λb=>QT (!b)) Xd):D8s tA O QT Xd:=h
theorem D3n (h:QT true):C9m O QT Xd:=h
theorem D7w (h:ta O (λd _=>∃ b,C5s d=some b/\QT b) Xd):D9h ta O QT Xd:=h
theorem D4c {x:List D} (h:QT (!x.isEmpty)):∃ b,C5s (.list x)=some b/\QT b:=⟨_,rfl,h⟩
theorem D1x {x:Bool} (h:QT x):∃ b,C5s (.bool x)=some b/\QT b:=⟨_,rfl,h⟩
theorem C7l {f g:Int->Int->Bool} (h:ta O (λx _=>tb O (λy _=>onI x λi=>onI y λj=>if f i j=true then tc O (λz _=>onI z λl=>Q (.bool (g j l)) .old) Xd else Q (.bool false) .old) Xd) Xd):A9v f g ta tb tc O Q Xd:=by
 unfold A9v;have key:∀ x y:D,(onI x λi=>onI y λj=>if f i j=true then tc O (λz _=>onI z λl=>Q (.bool (g j l)) .old) Xd else Q (.bool false) .old)=(match x,y with
  | .int i,.int j=>if f i j=true then tc O (λz _=>match z with|.int l=>Q (.bool (g j l)) .old|_=>False) Xd else Q (.bool false) .old
  | _,_=>False):=λx y=>by
  cases x<;>first|rfl|(cases y<;>rfl)
 simp only[key] at h;exact h
theorem E00 (h:QA [] (.own [])):D9u O QA Xd:=h
theorem D5i (h:ta O (λd k=>tl O (λds l=>QA (d::ds) (N7 d k l)) Xd) Xd):D01 ta tl O QA Xd:=h
theorem D1h {ns:List Int} (h:QA (ns.map PyData.int) (.own [])):D06 ns O QA Xd:=h
theorem D9x (h:tl O (λds k=>ds.length<=1000/\Q (.tuple ds) k) Xd):D75 tl O Q Xd:=h
theorem D9r (h:tl O (λds k=>ds.length<=1000/\Q (.list ds) k) Xd):D65 tl O Q Xd:=h
theorem D39 {sp:W1} (h:tl O (λds _=>sp ds (λd o=>Q d (A84 o)) Xd) Xd):C1x sp tl O Q Xd:=h
theorem C76 {sp:W1} (h:tl O (λds _=>sp ds (λd o=>Q d (A84 o)) Xf) Xd):B3h sp tl O Q Xd:=h
theorem E1n {g:FA} (h:tl O (λds k=>g ds k Q) Xd):dCB g tl O Q Xd:=h
theorem D8z {x:List D} (h:Q (.int x.length) .old):C2x [.list x] k Q:=h
theorem D0k {x:List D} (h:Q (.int x.length) .old):C2x [.tuple x] k Q:=h
theorem D16 {x:List D} (h:Q (.int x.length) .old):C2x [.dict [(.none,.list x)]] k Q:=h
theorem A7b:∀ (ns:List Int),A17 (ns.map PyData.int)=some ns
 | []=>rfl
 | n::r=>by show (A17 (r.map PyData.int)).map (n::·)=_;rw[A7b r];rfl
theorem D97 {f:List Bool->Bool} {x:List D} (h:∃ ns,A1c x=some ns/\Q (.bool (f ns)) .old):B2s f [.list x] k Q:=h
theorem D4e {x:List D} (h:Q (.list x) (A1i x k)):C46 [.list x] k Q:=h
theorem D4x {x:Int} (h:Q (.int (if y > x then y else x)) .old):D4i [.int x,.int y] k Q:=h
theorem D9y {f:D->Bool} (h:ta O (λd _=>A2q d=true/\Q (.bool (f d)) .old) Xd):dIs f ta O Q Xd:=h
theorem E13 {f:F3} {tlo thi:TDO} (h:te O (λd k=>tlo O (λl=>thi O (λh=>f d k l h Q) Xd) Xd) Xd):dSl f te tlo thi O Q Xd:=h
theorem C40 {Q:Option Int->Prop} (h:Q none):B5p O Q Xd:=h
theorem D1d {Q:Option Int->Prop} (h:te O (λd _=>onI d λi=>Q (some i)) Xd):D0h te O Q Xd:=h
theorem D8p {x:List D} {lo hi:Option Int} (h:Q (.list (A0x x lo hi)) (A1i (A0x x lo hi) k)):fSl (.list x) k lo hi Q:=h
theorem C6l {Q:C4->Prop} (h:Q (O.set i (some (false,d)))):C9f i d O Q:=h
theorem D51 {bs:A6c} {Q:C4->Prop} (h:ds.length=n/\bs ds O Q):D3t n bs (.tuple ds) O Q:=h
theorem C6i {b:TGD} {bs:A6c} {Q:C4->Prop} (h:b d O λO'=>bs ds O' Q):D0b b bs (d::ds) O Q:=h
theorem D5q {Q:C4->Prop} (h:Q O):D89 [] O Q:=⟨rfl,h⟩
theorem D99 {ti:TDI} {bnd:TGD} (h:ti O (λds b=>b=true/\lpD ds bnd t Dd O Xd) Xd):D6n ti bnd t Dd O Xd:=h
theorem E29 {Q:List D->Bool->Prop} (h:te O (λd k=>onL d λds=>Q ds k.isOld) Xd):iL te O Q Xd:=h
theorem E2c {Q:List D->Bool->Prop} (h:te O (λd k=>onT d λds=>Q ds k.isOld) Xd):iT te O Q Xd:=h
def C6a (ds:List D) (Q:Int->Prop):Prop:=match ds with|[.int j]=>Q j|_=>False
theorem D5f {x:Int} {Q:Int->Prop} (h:Q x):C6a [.int x] Q:=h
theorem D8x {Q:List D->Bool->Prop} (h:tl O (λds _=>C6a ds λj=>(-(2 ^ 62)<=j/\j < 2 ^ 62)/\Q (A3l 0 j.toNat) true) Xd):iR1 tl O Q Xd:=by
 have e:(λ(ds:List D) (_:Kd)=>C6a ds λj=>(-(2 ^ 62)<=j/\j < 2 ^ 62)/\Q (A3l 0 j.toNat) true)=(λds _=>match ds with|[.int j]=>-(2 ^ 62)<=j/\j < 2 ^ 62/\Q (A3l 0 j.toNat) true|_=>False):=by
  funext ds _;unfold C6a;split
  ·exact propext and_assoc
  ·rfl
 rw[e] at h;exact h
theorem D8q {is:List Nat} (h:te O (λd k=>onT d λds=>ds.length=is.length/\Dd.nx (B0z O is ds k)) Xd):D6g is te Dd O Xd:=h
theorem C53 (h:tl O (λds _=>ds.length<=1000/\Xd C) Xd):C2q C tl Dd O Xd:=h
def LcD (f:D->Q8->(Q8->Prop)->Prop) (ds:List D) (ok:Bool) (Q:QD):Prop:=go f ds [] λes=>Q (.list (es.map (·.1))) (if es.all (·.2)=true then .own [] else if ok=true then .old else .mix)
theorem E1j {ti:TDI} {bnd:TGD} {tb:TB} {own:List Str} (h:ti O (λds b=>LcD (λd es Q'=>bnd d (E6 (B1q own cap O) T) λO'=>tif O' (λc=>if c=true then tb O' es Q' else Q' es) Xf) ds (b&&A6m cap O) Q) Xd):dLC ti T bnd tif tb own cap O Q Xd:=h
theorem D5o {es:Q8} {Q:Q8->Prop} (h:te O (λd k=>es.length < 1000000/\(eff d k).isOld=true/\Q (es++[(d,A2t (eff d k))])) Xf):D07 te O es Q:=h
theorem D2g {ti:TDI} {bnd:TGD} {tb:TB} {es:Q8} {Q:Q8->Prop} (h:ti O (λds b=>b=true/\go (λd es Q'=>bnd d (E6 O T) λO'=>tif O' (λc=>if c=true then tb O' es Q' else Q' es) Xf) ds es Q) Xf):D9o ti T bnd tif tb O es Q:=h
theorem D7y {A:Prop} (h:A):if (true:Bool)=true then A else B:=h
theorem D9p {A:Prop} (h:B):if (false:Bool)=true then A else B:=by rw[qo qt];exact h
theorem C4b {x:Int}:setK O i (.int x) k=O.set i (some (false,.int x)):=rfl
theorem B7c {x:Bool}:setK O i (.bool x) k=O.set i (some (false,.bool x)):=rfl
theorem B9z {x:Str}:setK O i (.str x) k=O.set i (some (false,.str x)):=rfl
theorem B98:setK O i .none k=O.set i (some (false,.none)):=rfl
theorem C3h {x:List D} :setK O i (.list x) (.own s)=(E6 O s).set i (some (true,.list x)):=rfl
theorem C2c {x:List D}:setK O i (.list x) .old=O.set i (some (false,.list x)):=rfl
theorem C2j {x:List D}:setK O i (.list x) .mix=(frz O).set i (some (false,.list x)):=rfl
theorem B8p {x:List Int} :setK O i (iD x) (.own s)=(E6 O s).set i (some (true,iD x)):=rfl
theorem B6o {x:List Int}:setK O i (iD x) .old=O.set i (some (false,iD x)):=rfl
theorem B6j {x:List Int}:setK O i (iD x) .mix=(frz O).set i (some (false,iD x)):=rfl
theorem B71 {x:List (List Int)} :setK O i (gD x) (.own s)=(E6 O s).set i (some (true,gD x)):=rfl
theorem B6p {x:List (List Int)}:setK O i (gD x) .old=O.set i (some (false,gD x)):=rfl
theorem B6v {x:List (List Int)}:setK O i (gD x) .mix=(frz O).set i (some (false,gD x)):=rfl
theorem C1b {x:List D} (h:flats x=true):setK O i (.tuple x) k=O.set i (some (false,.tuple x)):=by unfold setK;rw[W8,qm h]
theorem C7x {x:Int}:rtK (.int x) k=true:=rfl
theorem C1h {x:Bool}:rtK (.bool x) k=true:=rfl
theorem C64 {x:Str}:rtK (.str x) k=true:=rfl
theorem C7v:rtK .none k=true:=rfl
theorem C8e:rtK d (.own s)=true:=by unfold rtK;rw[Bool.or_true]
theorem C74 {x:List D} (h:flats x=true):rtK (.tuple x) k=true:=by unfold rtK;rw[W8,h];rfl
theorem R6 (h:flat d=true):N7 d k (.own [])=.own []:=by unfold N7;rw[qm h];rfl
theorem B7w (h:flat d=false):N7 d (.own s) (.own [])=.own (s++[]):=by
 unfold N7;rw[h,qo qt];show (if C8q s []=true then Kd.own (s++[]) else .mix)=_;rw[qm (by unfold C8q;simp)]
theorem B8j (h:flat d=false):N7 d .old (.own [])=.old:=by unfold N7;rw[h];rfl
theorem C6d:frz []=[]:=rfl
theorem B94 {b:Bool} :frz (some (b,d)::r)=some (false,d)::frz r:=rfl
theorem C1c:frz (none::r)=none::frz r:=rfl
theorem B8u:E6 O []=O:=rfl
theorem B3d:E6 O (i::s)=E6 (O.set i none) s:=rfl
theorem D0m:A84 true=.own []:=rfl
theorem D1y:A84 false=.mix:=rfl
theorem C8g:Kd.sub (.own [])=.own []:=rfl
theorem C60:Kd.sub .old=.old:=rfl
theorem C31:Kd.sub (.own (i::s))=.mix:=rfl
theorem C62:Kd.sub .mix=.mix:=rfl
theorem B7z:Kd.isOld (.own [])=true:=rfl
theorem B7k:Kd.isOld .old=true:=rfl
theorem B6n:Kd.isOld .mix=false:=rfl
theorem B32:Kd.isOld (.own (i::s))=false:=rfl
theorem C97 {x:Int}:eff (.int x) k=.own []:=rfl
theorem C1f {x:Bool}:eff (.bool x) k=.own []:=rfl
theorem C65 {x:Str}:eff (.str x) k=.own []:=rfl
theorem B5g {x:List D} (h:flats x=true):eff (.tuple x) k=.own []:=by unfold eff;rw[W8,h];rfl
theorem C7i {x:List D}:eff (.list x) k=k:=rfl
theorem D3j {x:List Int}:eff (iD x) k=k:=rfl
theorem D0o {x:List (List Int)}:eff (gD x) k=k:=rfl
theorem B4c:A2t (.own [])=true:=rfl
theorem B3n:A2t .old=false:=rfl
theorem E1p (q:Q d .old):Q5 0 (some (false,d)::r) Q Xd:=⟨false,d,rfl,q⟩
theorem E1m (q:Q d .old):Q5 1 (x0::some (false,d)::r) Q Xd:=⟨false,d,rfl,q⟩
theorem E1r (q:Q d (.own [1])):Q5 1 (x0::some (true,d)::r) Q Xd:=⟨true,d,rfl,q⟩
theorem E0v (q:Q d .old):Q5 2 (x0::x1::some (false,d)::r) Q Xd:=⟨false,d,rfl,q⟩
theorem E2e (q:Q d (.own [2])):Q5 2 (x0::x1::some (true,d)::r) Q Xd:=⟨true,d,rfl,q⟩
theorem E0x (q:Q d .old):Q5 3 (x0::x1::x2::some (false,d)::r) Q Xd:=⟨false,d,rfl,q⟩
theorem E0t (q:Q d (.own [3])):Q5 3 (x0::x1::x2::some (true,d)::r) Q Xd:=⟨true,d,rfl,q⟩
theorem E20 (q:Q d .old):Q5 4 (x0::x1::x2::x3::some (false,d)::r) Q Xd:=⟨false,d,rfl,q⟩
theorem E2d (q:Q d (.own [4])):Q5 4 (x0::x1::x2::x3::some (true,d)::r) Q Xd:=⟨true,d,rfl,q⟩
theorem E14 (q:Q d .old):Q5 5 (x0::x1::x2::x3::x4::some (false,d)::r) Q Xd:=⟨false,d,rfl,q⟩
theorem E0y (q:Q d (.own [5])):Q5 5 (x0::x1::x2::x3::x4::some (true,d)::r) Q Xd:=⟨true,d,rfl,q⟩
theorem E1t (q:Q d .old):Q5 6 (x0::x1::x2::x3::x4::x5::some (false,d)::r) Q Xd:=⟨false,d,rfl,q⟩
theorem E1l (q:Q d (.own [6])):Q5 6 (x0::x1::x2::x3::x4::x5::some (true,d)::r) Q Xd:=⟨true,d,rfl,q⟩
theorem E1u (q:Q d .old):Q5 7 (x0::x1::x2::x3::x4::x5::x6::some (false,d)::r) Q Xd:=⟨false,d,rfl,q⟩
theorem E1y (q:Q d .old):Q5 8 (x0::x1::x2::x3::x4::x5::x6::x7::some (false,d)::r) Q Xd:=⟨false,d,rfl,q⟩
theorem E1c (q:Q d .old):Q5 9 (x0::x1::x2::x3::x4::x5::x6::x7::x8::some (false,d)::r) Q Xd:=⟨false,d,rfl,q⟩
theorem D92 (q:Q d .old):Q5 10 (x0::x1::x2::x3::x4::x5::x6::x7::x8::x9::some (false,d)::r) Q Xd:=⟨false,d,rfl,q⟩
theorem D69 (q:Q d .old):Q5 11 (x0::x1::x2::x3::x4::x5::x6::x7::x8::x9::x10::some (false,d)::r) Q Xd:=⟨false,d,rfl,q⟩
theorem D6i (q:Q d .old):Q5 12 (x0::x1::x2::x3::x4::x5::x6::x7::x8::x9::x10::x11::some (false,d)::r) Q Xd:=⟨false,d,rfl,q⟩
theorem D9g (q:Q d .old):Q5 13 (x0::x1::x2::x3::x4::x5::x6::x7::x8::x9::x10::x11::x12::some (false,d)::r) Q Xd:=⟨false,d,rfl,q⟩
theorem D8u (q:Q d .old):Q5 14 (x0::x1::x2::x3::x4::x5::x6::x7::x8::x9::x10::x11::x12::x13::some (false,d)::r) Q Xd:=⟨false,d,rfl,q⟩
theorem D8j (q:Q d (.own [15])):Q5 15 (x0::x1::x2::x3::x4::x5::x6::x7::x8::x9::x10::x11::x12::x13::x14::some (true,d)::r) Q Xd:=⟨true,d,rfl,q⟩
theorem D8w {x15:Option (Bool × D)} (q:Q d .old):Q5 16 (x0::x1::x2::x3::x4::x5::x6::x7::x8::x9::x10::x11::x12::x13::x14::x15::some (false,d)::r) Q Xd:=⟨false,d,rfl,q⟩
end
structure B03 (k:Nat) (A:Around):Prop where
 dp:A.depth+3*k+5 < recursionLimit
 un:A.units+16*k+200 < cLine
theorem B03.units {k:Nat} (r:B03 k A):A.units+64 < cLine:=by have:=r.un;lia
abbrev cxH (P:Program) (w:World) (K:W.Frag) (mg:Str->Option Value) (base:Heap) (N:List Str) (qual:Str) (scope:Scope) (f:Addr) (cd:Value) (A:Around) (outer:List Env) (s:Shared) (H:Hp) (E:XK):Cx :=
 { Z5 Z2 P w K mg base N qual scope f cd A outer s H E with calm:=false }
theorem B4i {base:Heap} {f:Addr} {s:Shared} {E:XK} {us:List Value} {vs:List V}
  (S:C0 N ps scope) (e0:B0l P w K mg base A outer s H) (hl:vs.length=ps.length) (r:C6 vs us)
  (x:InCallC s s.heap.objs.size (bindL (envOfC qual scope s.heap.objs.size f cd).kindOf (ps.zip us) λ_=>none) (cellsFrom (s.heap.objs.size+1) scope.names []) (bindC (envOfC qual scope s.heap.objs.size f cd).kindOf (ps.zip us) λ_=>none) s1) :
  B6 (cxH P w K mg base N qual scope f cd A outer s H E) [] (L2.start N vs) H s1:=by
 have I:=A7d (CX:=Z2) (E:=E) (qual:=qual) (f:=f) (cd:=cd) (A:={ A with handled:=none }) (outer:=outer) S rfl (show B0l P w K mg base { A with handled:=none } outer s H from ⟨e0.frames,e0.mod,e0.bs,e0.bsz,e0.funs,e0.frf,e0.hok,e0.bare⟩) hl r x;exact ⟨⟨I.ok.mod,I.ok.kind,I.ok.glob,I.ok.blt,I.ok.above,I.ok.inj,I.ok.has,I.ok.cab,(λz=>nomatch z),Around.frames_deeper e0.frames,I.ok.stk,I.ok.exf,I.ok.bs,I.ok.bsz,I.ok.noex,I.ok.exfs,I.ok.funs,I.ok.frf⟩,I.os,I.bare,I.base,I.loc,I.cell,I.free,I.freeC,I.pin,I.hok,I.len⟩
def LEX (K:W.Frag) (t:TD):TEX:=λU H Q E=>∃ H0 ν O Qd Xd,B8 K Z0 H0 ν O U H/\t O Qd Xd/\(∀ d k v H',Qd d k->A9 H H'->T0 K Z0 ν H H' k v d->Q v H')/\∀ C H',Xd C->A9 H H'->E (.ref C) none H'
structure DEX (X:Cx) (K:W.Frag) (e:Expr) (t:TD):Prop where
 q:PEX X e (LEX K t)
abbrev A5n:=N5->C4->(C4->Addr->Prop)->Prop
def LSX (K:W.Frag) (t:A5n):TSX:=λEn Es U H=>∃ H0 ν O Dd Xr,B8 K Z0 H0 ν O U H/\t Dd O Xr/\A5f K H0 En Dd/\∀ ν' O' U' H' C,Xr O' C->B8 K Z0 H0 ν' O' U' H'->Es U' (.ref C) none H'
structure DSX (X:Cx) (K:W.Frag) (s:Stmt) (t:A5n):Prop where
 q:PSX X s (LSX K t)
structure D8y (X:Cx) (K:W.Frag) (s:List Stmt) (t:A5n):Prop where
 q:D3e X s (LSX K t)
theorem B53 {e:Expr} {t t':TEX} (h:PEX X e t) (i:∀ U H Q E,t' U H Q E->t U H Q E):PEX X e t':=⟨λpins s U H Q E I w=>h.h pins s U H Q E I (i U H Q E w)⟩
theorem C6f {e:Stmt} {t t':TSX} (h:PSX X e t) (i:∀ D E U H,t' D E U H->t D E U H):PSX X e t':=⟨λpins s U H D E I w=>h.h pins s U H D E I (i D E U H w)⟩
section
variable {X:Cx} {K:W.Frag} {pos:Pos} {e:Expr}
def xCl (sp:W1) (t:TDA):TD:=λO Q Xd=>t O (λds _=>sp ds (λd o=>Q d (A84 o)) Xd) Xf
theorem C3m {x:Str} {k:Nat} {sp:W1} {es:List Expr} {t:TDA} (D:DfE X.prog X.w X.K X.mg X.base x ps k (G6 K sp)) (F:A5j X) (hr:O3 k X.A) (ha:DA X.nox K E0 (e::es) t) (hg:Gl X x:=by rfl) (hdb:noD x:=by decide)
  (he:stE e es X.env:=by rfl) (hpl:stB pos es X.env:=by rfl):DEX X K (.Call (.Name x p) (e::es) [] pos) (xCl sp t):=⟨B53 (C0p D F hr ha.q hg hdb he hpl) λU H Q E h=>by
 obtain ⟨H0,ν,O,Qd,Xd,S,h1,q,x⟩:=h;refine ⟨H0,ν,O,_,Xf,S,h1,λds k vs H1 g1 e1 r1=>?_,λ_ _ z _=>z.elim⟩;exact ⟨ds,_,Xd,r1.dens,g1,λd o v H' a1 a2 a3=>q _ _ _ _ a1 (e1.trans a2) (B2h e1 a3),λC H' a1 a2=>x C H' a1 (e1.trans a2)⟩⟩
def D7q (ta tb:TD):TD:=λO Q Xd=>ta O (λd k=>tb O (λe l=>Q (.tuple [d,e]) (N7 d k (N7 e l (.own [])))) Xd) Xf
theorem C0j {a b:Expr} {x1} (ha:DE X.nox K E0 a ta) (hb:DEX X K b tb) (hs:starEach [a,b] X.env=[(false,eval a X.env),(false,eval b X.env)]:=by rfl):DEX X K (.Tuple [a,b] x1 pos) (D7q ta tb):=⟨B53 (C0d ha.q hb.q hs) λU H Q E h=>by
 obtain ⟨H0,ν,O,Qd,Xd,S,h1,q,x⟩:=h;refine ⟨H0,ν,O,_,Xf,S,h1,λd k v H1 g1 e1 r1=>?_,λ_ _ z _=>z.elim⟩;refine ⟨H0,ν,O,_,Xd,S.same e1,g1,λd2 k2 v2 H2 g2 e2 r2 p hp=>?_,λC H' a b=>x C H' a (e1.trans b)⟩;have hl2:∀ a,Hd Z0 ν a->Mu H2 a:=(S.same (e1.trans e2)).hl;have R2:RsL K Z0 ν H1 H2 (N7 d2 k2 (.own [])) [v2] [d2]:=A5t (S.same e1).hl S.dj e2 (A9.refl H2) r2 ⟨[],.nil,nodup_nil,λ_ z=>by cases z⟩;exact q _ _ _ _ g2 ((e1.trans e2).trans (A9.new hp)) (B1n hl2 (e1.trans e2) hp (A5t S.hl S.dj e1 e2 r1 R2))⟩
def xRt (te:TD):A5n:=λDd O Xr=>te O (λd k=>Dd.rt d (rtK d k)) (Xr O)
theorem C95 (h:DEX X K e te):DSX X K (.Return (some e) pos) (xRt te):=⟨C6f (C7c h.q) λD E U H h=>by
 obtain ⟨H0,ν,O,Dd,Xr,S,h1,ok,x⟩:=h;exact ⟨H0,ν,O,_,_,S,h1,λd k v H' g1 g2 g3=>ok.rt _ _ _ _ g1 (S.sm.trans g2) (C9d S g2 g3),λC H' a b=>x _ _ _ _ _ a (S.same b)⟩⟩
theorem B95 {s:Stmt} {t:A5n} (h:DSX X K s t):D8y X K [s] t:=⟨C3r h.q⟩
def xIf (tc:Y7) (a b:A5n):A5n:=λDd O Xr=>tc O (λc=>if c=true then a Dd O Xr else b Dd O Xr) Xf
def opq (a:Addr):D:=.dict [(.bool true,.int (a:Nat))]
def A34 (Dd:N5):N5:={ nx:=λ_=>False,rt:=Dd.rt,bk:=λ_=>False,ct:=λ_=>False }
def D9v (K:W.Frag) (ea C D:Addr) (te:TD):TD:=λO Q Xd=>te O (λd _=>d=opq ea/\∃ b,W.kitOne K (.ref C) (.ref D)=some b/\Q (.bool b) .old) Xd
theorem A8m {v:V} {a:Addr} (h:Dn K H v (opq a)):v=.ref a:=by
 unfold opq at h;generalize hd:(PyData.dict [(.bool true,.int ((a:Nat):Int))])=d at h;cases h with
 | opq b =>
  have:((a:Nat):Int)=((b:Nat):Int):=by injection hd with z;injection z with z _;injection z with _ z;injection z
  have:a=b:=by exact_mod_cast this
  rw[this]
 | _=>cases hd
variable {ex:Expr}
theorem T9 {E:XK} {D:Addr} {x y:Str} (hK:X.K=K) (hp:(ea,oe)∈X.pn) (hc:XOf oe C) (c:W4 K X.mg x C) (k:ExK K C) (hg:Gl X "isinstance") (hm:X.mg "isinstance"=none) (ha:DE X K E ex te) (hg2:Gl X y) (hm2:X.mg y=some (.ref D)) (hd:noD y:=by decide)
  (he:starEach [ex,.Name y p2] X.env=(false,eval ex X.env)::starEach [.Name y p2] X.env:=by rfl) (hpl:(backTo pos (starEach [.Name y p2] X.env)).any (·.1)=false:=by rfl):DE X K E (.Call (.Name "isinstance" p) [ex,.Name y p2] [] pos) (D9v K ea C D te) :=
 ⟨C9 (V3 (B22 hK hp hc.1 c k) hg hm (by decide +kernel) (K0 ha.q (hs:=he) (K0 (A8r hg2 hm2 hd) T8)) (by decide) (by decide) he hpl) λU H Q h=>by
  obtain ⟨H0,ν,O,Qd,Xd,S,h1,q,x⟩:=h;refine ⟨H0,ν,O,_,Xd,S,h1,λd l v H' g1 g2 g3=>?_,x⟩;obtain ⟨rfl,b,hb,g1⟩:=g1;exact ⟨.ref D,b,by rw[A8m g3.den],.inl ⟨D,rfl,hb⟩,q _ _ _ _ g1 g2 (.bl _)⟩⟩
def C9c (K:W.Frag) (ea C:Addr) (Ds:List Addr) (te:TD):TD:=λO Q Xd=>te O (λd _=>d=opq ea/\∃ b,W.kitAny K (.ref C) (Ds.map Value.ref)=some b/\Q (.bool b) .old) Xd
theorem C14 {E:XK} (Ds:List Addr) {x:Str} {es:List Expr} {x1} (hK:X.K=K) (hp:(ea,oe)∈X.pn) (hc:XOf oe C) (c:W4 K X.mg x C) (k:ExK K C) (hg:Gl X "isinstance") (hm:X.mg "isinstance"=none) (ha:DE X K E ex te) (hcl:QA X es (λ_ H Q=>Q (Ds.map V.ref) H)) (hl:Ds.length<=1000)
  (he:starEach [ex,.Tuple es x1 p2] X.env=(false,eval ex X.env)::starEach [.Tuple es x1 p2] X.env:=by rfl) (he2:starEach [.Tuple es x1 p2] X.env=(false,eval (.Tuple es x1 p2) X.env)::starEach [] X.env:=by rfl) (hpl:(backTo pos (starEach [.Tuple es x1 p2] X.env)).any (·.1)=false:=by rfl):DE X K E (.Call (.Name "isinstance" p) [ex,.Tuple es x1 p2] [] pos) (C9c K ea C Ds te) :=
 ⟨C9 (V3 (B6z hK hp hc.1 c k) hg hm (by decide +kernel) (K0 ha.q (hs:=he) (K0 (B4r hcl) (hs:=he2) T8)) (by decide) (by decide) he hpl) λU H Q h=>by
  obtain ⟨H0,ν,O,Qd,Xd,S,h1,q,x⟩:=h;refine ⟨H0,ν,O,_,Xd,S,h1,λd l v H' g1 g2 g3=>?_,x⟩;obtain ⟨rfl,b,hb,g1⟩:=g1;refine ⟨by rw[qf];exact zn hl (by decide),λtp htp=>⟨tp,Ds,b,by rw[A8m g3.den],B2,hb,q _ _ _ _ g1 (g2.trans (A9.new htp)) (.bl _)⟩⟩⟩
end
section
variable {X:Cx} {K:W.Frag}
theorem C8d {x:List Int}:PyData.list (x.map PyData.int)=iD x:=rfl
theorem C5f {x:List (List Int)}:PyData.list (x.map iD)=gD x:=rfl
theorem A2v:DOp X K (binaryOp .FloorDiv) (fI C9o λi j=>.int (i / j)):=⟨_,C0f,A0a⟩
end
section
variable {te:TD} {Dd:N5} {O:C4} {Xd:XD} {i:Nat} {d e:D} {k:Kd}
def D4q (ds:List D) (i:Nat) (O:C4) (Dd:N5) (d:D):Kd->Prop
 | .own s=>i∉s/\Dd.nx ((E6 O s).set i (some (true,.list (ds++[d]))))
 | _=>False
variable {ds:List D} {is:List Nat} {r:List Int}
theorem D04 (e:O[i]?=some (some (true,.list ds))) (hl:ds.length < 1000000) (h:te O (λd k=>D4q ds i O Dd d (eff d k)) Xd):D7j i te Dd O Xd:=by
 refine ⟨ds,e,hl,?_⟩;have:(λd k=>D4q ds i O Dd d (eff d k))=(λd k=>match eff d k with
  | .own s=>i∉s/\Dd.nx ((E6 O s).set i (some (true,.list (ds++[d]))))
  | _=>False):=by
  funext d k;cases eff d k<;>rfl
 rw[this] at h;exact h
theorem D4j {s:List Nat} (h:i∉s/\Dd.nx ((E6 O s).set i (some (true,.list (ds++[d]))))):D4q ds i O Dd d (.own s):=h
theorem C33:B0z O is ds (.own [])=O2 true O is ds:=by
 unfold B0z eff;split<;>first|rfl|(split at*<;> simp_all)
theorem B88 (h:flats ds=true):B0z O is ds k=O2 true O is ds:=by
 unfold B0z;have:eff (.tuple ds) k=.own []:=B5g h;rw[this]
theorem B07 {b:Bool} :O2 b O (i::is) (d::ds)=O2 b (O.set i (some (b&&!flat d,d))) is ds:=rfl
theorem B3u {b:Bool} :O2 b O [] ds=O:=rfl
theorem D47 {x:Int}:PyData.list (r.map .int++[.int x])=iD (r++[x]):=by unfold iD;rw[map_append];rfl
theorem D1t {g:List (List Int)} :PyData.list (g.map iD++[iD r])=gD (g++[r]):=by unfold gD;rw[map_append];rfl
end
variable {α:Type}
theorem A8c {f:D->Q8->(Q8->Prop)->Prop} {Q:Q8->Prop} (F G:α->D) (p:α->Bool):∀ (L:List α) (es:Q8),(∀ a∈L,∀ es (Q':Q8->Prop),es.length < 1000000->Q' (if p a=true then es++[(G a,true)] else es)->f (F a) es Q')->es.length+L.length<=1000000->Q (es++(L.filter p).map λa=>(G a,true))->go f (L.map F) es Q
 | [],es,_,_,q=>by
  show Q es;simpa using q
 | a::r,es,hs,hm,q=>by
  rw[length_cons] at hm;refine hs a qu es _ (by lia) ?_;refine A8c F G p r _ (λb hb=>hs b (qv _ hb)) ?_ ?_
  ·split
   ·rw[length_append,List.length_singleton];lia
   ·lia
  ·rw[List.filter_cons] at q;by_cases hp:p a=true
   ·rw[qm hp] at q ⊢;rw[append_assoc];exact q
   ·rw[qo hp] at q ⊢;exact q
theorem B5k {f:D->Q8->(Q8->Prop)->Prop} {ok:Bool} {Q:QD} {L:List α} (F G:α->D) (p:α->Bool) (hs:∀ a∈L,∀ es (Q':Q8->Prop),es.length < 1000000->Q' (if p a=true then es++[(G a,true)] else es)->f (F a) es Q') (hm:L.length<=1000000) (q:Q (.list ((L.filter p).map G)) (.own [])):LcD f (L.map F) ok Q:=by
 refine A8c F G p L [] hs (by simpa using hm) ?_;have e1:((((L.filter p).map λa=>(G a,true)):Q8).map (·.1))=(L.filter p).map G:=by rw[map_map];rfl
 have e2:((((L.filter p).map λa=>(G a,true)):Q8).all (·.2))=true:=by rw[List.all_map];exact all_eq_true.mpr λ_ _=>rfl
 rw[List.nil_append,e1,qm e2];exact q
theorem L6 {f:D->Q8->(Q8->Prop)->Prop} {ok:Bool} {Q:QD} {L:List α} (F G:α->D) (hs:∀ a∈L,∀ es (Q':Q8->Prop),es.length < 1000000->Q' (es++[(G a,true)])->f (F a) es Q') (hm:L.length<=1000000) (q:Q (.list (L.map G)) (.own [])):LcD f (L.map F) ok Q :=
 B5k F G (λ_=>true) hs hm (by rw[List.filter_eq_self.mpr λ_ _=>rfl];exact q)
def dJn (t:L1):L1:=t
theorem A8t {E:XK} {s:Stmt} {t:L1} (h:DS X K E s t):DS X K E s (dJn t):=h
theorem C50 {t:L1} {Dd:N5} {O:C4} {Xd:XD} (I:C4->Prop) (h1:∀ N:C4->Prop,(∀ O',I O'->N O')->t { Dd with nx:=N } O Xd) (h2:∀ O',I O'->Dd.nx O'):dJn t Dd O Xd:=h1 Dd.nx h2
section
variable {tb:A5n} {Dd:N5} {O:C4} {Xd:XD} {Xr:C4->Addr->Prop} {te:TD} {tl:TDA} {sp:W1} {Q:QD}
theorem D7g (h:tl O (λds _=>sp ds (λd o=>Q d (A84 o)) Xd) Xf):xCl sp tl O Q Xd:=h
theorem D7l {tb:TD} (h:ta O (λd k=>tb O (λe l=>Q (.tuple [d,e]) (N7 d k (N7 e l (.own [])))) Xd) Xf):D7q ta tb O Q Xd:=h
theorem D8g (h:te O (λd k=>Dd.rt d (rtK d k)) (Xr O)):xRt te Dd O Xr:=h
end
theorem D5c {b:Bool} {d:D} {r:C4}:frz1 0 (some (b,d)::r)=some (false,d)::r:=rfl
theorem D13 {i:Nat} {x:Option (Bool × D)} {r:C4}:frz1 (i+1) (x::r)=x::frz1 i r:=by
 unfold frz1;rw[List.getElem?_cons_succ];cases h:r[i]? with
 | none=>rfl
 | some y=>cases y with
  | none=>rfl
  | some p=>rfl
section
variable {k:Expr}
theorem B7e {x:Int} {k:Kd}:N7 (.int x) k (.own [])=.own []:=R6 rfl
theorem B7d {x:Bool} {k:Kd}:N7 (.bool x) k (.own [])=.own []:=R6 rfl
theorem C0c {x:Str} {k:Kd}:N7 (.str x) k (.own [])=.own []:=R6 rfl
theorem C2b {k:Kd}:N7 .none k (.own [])=.own []:=R6 rfl
theorem D45 {x:Int}:PyData.list [PyData.int x]=iD [x]:=rfl
theorem two_iD {x y:Int}:PyData.list [PyData.int x,PyData.int y]=iD [x,y]:=rfl
end
abbrev SpX:=Addr->(D->Prop)->Prop
structure C3z (P:Program) (w:World) (K:W.Frag) (mg:Str->Option Value) (base:Heap) (k:Nat) (f:Addr) (fd:FuncData) (p:Str) (spx:SpX):Prop where
 run:∀ (A:Around) (outer:List Env) (s:Shared) (H:Hp) (args:Args) (ea C:Addr) (oe:Obj) (y:Str) (Qd:D->Prop) (Q:VK),B03 k A->B0l P w K mg base A outer s H->BindsTo s fd args [(p,.ref ea)]->s.heap.get? ea=some oe->A.handled=some (.ref ea)->XOf oe C->W4 K mg y C->ExK K C->H ea=none->ea∉frs outer->(∀ v,oe.data≠.cell v)->spx C Qd->(∀ d v H',Qd d->flat d=true->A9 H H'->Dn K H' v d->Q v H') ->
  codeAny (model P w) A (.call (.ref f) args) (CR Z2 outer P w H s Q E0) s
abbrev cxX (P:Program) (w:World) (K:W.Frag) (mg:Str->Option Value) (base:Heap) (N:List Str) (qual:Str) (scope:Scope) (f:Addr) (cd:Value) (A:Around) (outer:List Env) (s:Shared) (H:Hp) (E:XK) (ea:Addr) (oe:Obj):Cx :=
 { Z5 Z2 P w K mg base N qual scope f cd A outer s H E with calm:=false,pn:=[(ea,oe)] }
theorem B49 {base:Heap} {f:Addr} {s:Shared} {E:XK} {us:List Value} {vs:List V} 
  (S:C0 N ps scope) (e0:B0l P w K mg base A outer s H) (hl:vs.length=ps.length) (r:C6 vs us) (he:s.heap.get? ea=some oe) (h1:H ea=none) (h2:ea∉frs outer) (h3:∀ v,oe.data≠.cell v)
  (x:InCallC s s.heap.objs.size (bindL (envOfC qual scope s.heap.objs.size f cd).kindOf (ps.zip us) λ_=>none) (cellsFrom (s.heap.objs.size+1) scope.names []) (bindC (envOfC qual scope s.heap.objs.size f cd).kindOf (ps.zip us) λ_=>none) s1) :
  B6 (cxX P w K mg base N qual scope f cd A outer s H E ea oe) [] (L2.start N vs) H s1:=by
 have I:=B4i (E:=E) (qual:=qual) (f:=f) (cd:=cd) S e0 hl r x;refine ⟨⟨I.ok.mod,I.ok.kind,I.ok.glob,I.ok.blt,I.ok.above,I.ok.inj,I.ok.has,I.ok.cab,(λz=>nomatch z),I.ok.frames,I.ok.stk,I.ok.exf,I.ok.bs,I.ok.bsz,I.ok.noex,I.ok.exfs,I.ok.funs,I.ok.frf⟩,I.os,I.bare,I.base,I.loc,I.cell,I.free,I.freeC,λp hp=>?_,I.hok,I.len⟩;have:p=(ea,oe):=by simpa using hp
 subst this;exact ⟨x.toInCall.keep _ _ he,h1,ze (qi he),h2,h3⟩
variable {spx:SpX}
theorem okX {base:Heap} {x:Str} {st:Stmt} {f:Addr} {p:Str} {k:Nat} (F:W2 K x qual st f fd) (S:C0 N [p] (B1 st))
  (hbody:∀ (cdv:Value) (A:Around) (outer:List Env) (s:Shared) (H:Hp) (E:XK) (ea C:Addr) (oe:Obj) (y:Str),B03 k (A.deeper (envOfC qual (B1 st) s.heap.objs.size f cdv))->A.handled=some (.ref ea)->XOf oe C->W4 K mg y C->ExK K C->∃ t,DSs (cxX P w K mg base N qual (B1 st) f cdv A outer s H E ea oe).nox K E0 (M8 st) t/\∀ Qd:D->Prop,spx C Qd->t {nx:=λ_=>Qd .none,rt:=λd _=>Qd d/\flat d=true } (A1d N [opq ea]) Xf):C3z P w K mg base (k+1) f fd p spx:=by
 obtain ⟨oc,od,kV,doc,pm,an,cdv,ct,osl,rfl,lk,hcd⟩:=F.ex;refine ⟨λA outer s H args ea C oe y Qd Q hr e0 hb he hA hc cx kx h1 h2 h3 hsp q=>?_⟩;have KX:K.In s.heap:=e0.mod.kin.keeps λb o e=>(e0.bs b o e).1;have lim:s.heap.NoLimit:=e0.mod.nolimit.keeps λb o e=>(e0.bs b o e).1;have hkind:∀ y∈[p].zip [Value.ref ea],(B1 st).names.lookup y.1=some .local\/((B1 st).names.lookup y.1=some .cell/\((cellsFrom (s.heap.objs.size+1) (B1 st).names []).lookup y.1).isSome=true):=λ⟨n,v⟩ hy=>by
  rcases S.par n (List.of_mem_zip hy).1 with q|q
  ·exact .inl q
  ·exact .inr ⟨q,W.cellsFrom_some _ _ _ (.inl q)⟩
 refine codeAny_call_function (by have:=hr.dp;lia) (KX _ _ lk) rfl S.co S.gen rfl (W.codeRec_of KX hcd) (hb _ _ _ _ ?_);refine wpAny_newFunctionEnv_cells S.kind hkind λenv henv s1 x=>?_;subst henv;refine ⟨lim.keeps x.toInCall.keep,codeAny_func ?_⟩;obtain ⟨t,ht,hq⟩:=hbody cdv A outer s H E0 ea C oe y ⟨by have:=hr.dp;show A.depth+1+3*k+5 < _;lia,by have:=hr.un;show A.units+3+16*k+200 < _;lia⟩ hA hc cx kx;obtain ⟨t',ht',hq'⟩:=dmk (N:=N) (vs:=[.ref ea]) (H:=H) (Q:=Q) (Qd:=λd _=>Qd d/\flat d=true) (Xd:=Xf) ht (.cons (.opq ea) .nil) (λd o v H' hd sm r=>q d v H' hd.1 hd.2 sm (by
  cases o with
  | true=>obtain ⟨ms,m1,_⟩:=r;exact m1.den
  | false=>exact r)) (λ_ _ z _=>z.elim) (by
   have:=hq Qd hsp;have e:(λ(_:C4)=>Qd PyData.none)=λ_=>(Qd PyData.none/\flat PyData.none=true):=by funext _;simp[flat]
   rw[e] at this;exact this)
 have ht2:PSs (cxX P w K mg base N qual (B1 st) f cdv A outer s H E0 ea oe) (M8 st) t':=λpins s U H D I hw =>
  jc (ht' pins s U H D (I.wish _) hw) (λ_ _ q=>q.unwish) λ_ _ z=>False.elim z
 have I:B6 (cxX P w K mg base N qual (B1 st) f cdv A outer s H E0 ea oe) [] (L2.start N [.ref ea]) H s1:=B49 S e0 rfl (.cons rfl .nil) he h1 h2 h3 x;refine jc (ht2 [] s1 (L2.start N [.ref ea]) H _ I hq') (λfl s' hs=>?_) λe s' hs=>hs;have fin:∀ {U':L2.St} {H':Hp} {v:V} {u:Value},B6 (cxX P w K mg base N qual (B1 st) f cdv A outer s H E0 ea oe) [] U' H' s'->D0 v u->Q v H'->CE outer P w H s Q u s' :=
  λ{U' H' v u} J rv q=>⟨v,H',J.os,J.bare,J.base,J.hok,rv,q⟩
 cases fl with
 | ret u =>
  obtain ⟨v,U',H',J,rv,q⟩:=hs;exact fin J rv q
 | next =>
  obtain ⟨U',H',J,q⟩:=hs;exact fin (v:=V.non) (u:=Value.none) J rfl q
 | brk =>
  obtain ⟨_,_,_,q⟩:=hs;exact False.elim q
 | cont =>
  obtain ⟨_,_,_,q⟩:=hs;exact False.elim q
structure DfX (P:Program) (w:World) (K:W.Frag) (mg:Str->Option Value) (base:Heap) (x p:Str) (k:Nat) (spx:SpX):Prop where
 ex:∃ f fd,C3z P w K mg base k f fd p spx/\mg x=some (.ref f)/\W.keepIn K (.ref f)=true/\A3b K fd [p] []
section
variable {X:Cx} {K:W.Frag} {E:XK} {pos pp:Pos} {te:TD} {x:Str} {ex:Expr}
def C00 (spx:SpX) (ea C:Addr) (te:TD):TD:=λO Q Xd=>te O (λd _=>d=opq ea/\spx C λr=>Q r .old) Xd
theorem C5u {p:Str} {k:Nat} {y:Str} (D:DfX X.prog X.w K X.mg X.base x p k spx) (hK:X.K=K) (hr:B03 k X.A) (hp:(ea,oe)∈X.pn) (hA:X.A.handled=some (.ref ea)) (hc:XOf oe C) (c:W4 K X.mg y C) (kk:ExK K C) (ha:DE X K E ex te) (hst:X.stack=X.env::X.outer/\X.env.frame=some X.env.locals) (hg:Gl X x:=by rfl) (hdb:noD x:=by decide)
  (he:starEach [ex] X.env=(false,eval ex X.env)::starEach [] X.env:=by rfl) (hpl:(backTo pos (starEach [] X.env)).any (·.1)=false:=by rfl):DE X K E (.Call (.Name x pp) [ex] [] pos) (C00 spx ea C te):=by
 subst hK;refine ⟨⟨λpins s U H Q I h=>?_⟩⟩;obtain ⟨f,fd,F,hm,hk,hb⟩:=D.ex;obtain ⟨H0,ν,O,Qd,Xd,S,h1,q,xx⟩:=h;refine wpAny_Call_Name_kw (U2 I hg hm ?_ hdb);refine W.callWith_K (h₀:=X.base) I.ok.mod.kin hk (E1 ((K0 ha.q T8 he).h pos pins s U H (λvs H1=>vs=[.ref ea]/\A9 H H1/\spx C λr=>Qd r .old) I ⟨H0,ν,O,_,Xd,S,h1,λd k v H1 g1 g2 g3=>?_,xx⟩) λus s1 ⟨vs,H1,I1,r,q1⟩=>⟨I1.kIn,?_⟩) he hpl
 ·obtain ⟨rfl,g1⟩:=g1;exact ⟨by rw[A8m g3.den],g2,g1⟩
 ·obtain ⟨rfl,sm,hsp⟩:=q1;obtain ⟨u,rfl⟩:∃ u,us=[u]:=by
   cases r with
   | cons _ r2=>cases r2;exact ⟨_,rfl⟩
  have hu:u=.ref ea:=by
   cases r with
   | cons h _=>exact h
  subst hu;obtain ⟨p1,p2,p3,p4,p5⟩:=I1.pin (ea,oe) (qz _ hp);have hfr:ea∉frs X.stack:=by
   rw[hst.1];unfold frs;rw[List.filterMap_cons,hst.2];intro z;rcases zk.mp z with z|z
   ·exact p3 z
   ·exact p4 z
  refine wpAny_call (codeAny_mono (F.run X.A X.stack s1 H1 ⟨[.ref ea],[]⟩ ea C oe y (λr=>Qd r .old) Q hr I1.env0 (hb s1 [.ref ea] I1.kIn rfl) p1 hA hc c kk p2 hfr p5 hsp λd v H' hd hf sm2 hv=>?_) λr s' hq=>?_)
  ·exact q d .old v H' hd (sm.trans sm2) (by
    exact A0n (λa z=>by
     obtain ⟨us,w⟩:=((S.same sm).same sm2).hl a z;exact ⟨us,w⟩) hv hf)
  ·cases r with
   | error e=>exact hq.elim
   | ok fl =>
    cases fl with
    | ret u=>exact I1.after hq
    | next=>exact False.elim hq
    | brk=>exact False.elim hq
    | cont=>exact False.elim hq
end
section
variable {X:Cx} {K:W.Frag} {E:XK}
def D0c (K:W.Frag) (ea C:Addr) (n:String) (te:TD):TD:=λO Q Xd=>te O (λd _=>d=opq ea/\∃ b,W.kitOne K (.ref C) (.type n)=some b/\Q (.bool b) .old) Xd
theorem C3y {x y:Str} {n:String} {ex:Expr} (hK:X.K=K) (hp:(ea,oe)∈X.pn) (hc:XOf oe C) (c:W4 K X.mg x C) (k:ExK K C) (hg:Gl X "isinstance") (hm:X.mg "isinstance"=none) (ha:DE X K E ex te) (hg2:Gl X y) (hm2:X.mg y=none) (hv2:bootBuiltins y=some (.type n)) (hn:y≠"__name__":=by decide) (hd:noD y:=by decide)
  (he:starEach [ex,.Name y p2] X.env=(false,eval ex X.env)::starEach [.Name y p2] X.env:=by rfl) (hpl:(backTo pos (starEach [.Name y p2] X.env)).any (·.1)=false:=by rfl):DE X K E (.Call (.Name "isinstance" p) [ex,.Name y p2] [] pos) (D0c K ea C n te) :=
 ⟨C9 (V3 (B22 hK hp hc.1 c k) hg hm (by decide +kernel) (K0 ha.q (hs:=he) (K0 (B1o (v:=.ty n) hg2 hm2 hv2 rfl hn hd) T8)) (by decide) (by decide) he hpl) λU H Q h=>by
  obtain ⟨H0,ν,O,Qd,Xd,S,h1,q,x⟩:=h;refine ⟨H0,ν,O,_,Xd,S,h1,λd l v H' g1 g2 g3=>?_,x⟩;obtain ⟨rfl,b,hb,g1⟩:=g1;exact ⟨.ty n,b,by rw[A8m g3.den],.inr ⟨n,rfl,hb⟩,q _ _ _ _ g1 g2 (.bl _)⟩⟩
end
end DL
namespace L2
end L2
variable {Xd:XD} {O':C4} {ts0 ts:Addr->Addr->L1} {Dd:N5} {bnd:TGD} {td:TD}
namespace DL
open L2
variable {C:Addr} {O:C4} {te:TD} {Q:QD}
section
variable {K:W.Frag}
theorem C6g {spx:SpX} (h:te O (λd _=>d=opq ea/\spx C λr=>Q r .old) Xd):C00 spx ea C te O Q Xd:=h
theorem D9t {D':Addr} (h:te O (λd _=>d=opq ea/\∃ b,W.kitOne K (.ref C) (.ref D')=some b/\Q (.bool b) .old) Xd):D9v K ea C D' te O Q Xd:=h
theorem D58 (h:te O (λd _=>d=opq ea/\∃ b,W.kitAny K (.ref C) (Ds.map Value.ref)=some b/\Q (.bool b) .old) Xd):C9c K ea C Ds te O Q Xd:=h
theorem D17 {n:String} (h:te O (λd _=>d=opq ea/\∃ b,W.kitOne K (.ref C) (.type n)=some b/\Q (.bool b) .old) Xd):D0c K ea C n te O Q Xd:=h
end
end DL
namespace L2
end L2
namespace DL
open L2
section
variable {κ:Type} [DecidableEq κ]
def look (es:List (κ × D)) (k:κ):Option D:=(es.find? λp=>decide (p.1=k)).map (·.2)
def A0z (es:List (κ × D)) (k:κ) (d:D):List (κ × D):=if (es.any λp=>decide (p.1=k))=true then es.map (λp=>if p.1=k then (p.1,d) else p) else es++[(k,d)]
inductive VPs:List (κ × V)->List (κ × D)->Prop
 | nil:VPs [] []
 | cons {k v d r t}:Y8 d=some v->VPs r t->VPs ((k,v)::r) ((k,d)::t)
theorem VPs.look {kvs:List (κ × V)} {es:List (κ × D)} (h:VPs kvs es) (k:κ):(∃ d v,DL.look es k=some d/\O4 kvs k=some v/\Y8 d=some v)\/(DL.look es k=none/\O4 kvs k=none):=by
 induction h with
 | nil=>exact .inr ⟨rfl,rfl⟩
 | @cons k' v d r t e _ ih =>
  by_cases h:k'=k
  ·exact .inl ⟨d,v,by unfold DL.look;rw[List.find?_cons_of_pos (by simpa using h)];rfl,by unfold O4;rw[List.find?_cons_of_pos (by simpa using h)];rfl,e⟩
  ·have e1:DL.look ((k',d)::t) k=DL.look t k:=by unfold DL.look;rw[find?_cons_of_neg (by simpa using h)]
   have e2:O4 ((k',v)::r) k=O4 r k:=by unfold O4;rw[find?_cons_of_neg (by simpa using h)]
   rw[e1,e2];exact ih
theorem VPs.any {kvs:List (κ × V)} {es:List (κ × D)} (h:VPs kvs es) (k:κ):(kvs.any λp=>decide (p.1=k))=es.any λp=>decide (p.1=k):=by
 induction h with
 | nil=>rfl
 | cons _ _ ih=>rw[any_cons,any_cons,ih]
theorem VPs.snoc {kvs:List (κ × V)} {es:List (κ × D)} {k:κ} {v:V} {d:D} (h:VPs kvs es) (e:Y8 d=some v):VPs (kvs++[(k,v)]) (es++[(k,d)]):=by
 induction h with
 | nil=>exact .cons e .nil
 | cons e' _ ih=>exact .cons e' ih
theorem VPs.repl {kvs:List (κ × V)} {es:List (κ × D)} {k:κ} {v:V} {d:D} (h:VPs kvs es) (e:Y8 d=some v):VPs (kvs.map λp=>if p.1=k then (p.1,v) else p) (es.map λp=>if p.1=k then (p.1,d) else p):=by
 induction h with
 | nil=>exact .nil
 | @cons k' v' d' r t e' _ ih =>
  rw[map_cons,map_cons];by_cases q:k'=k
  ·rw[qm q,qm q];exact .cons e ih
  ·rw[qo q,qo q];exact .cons e' ih
theorem VPs.put {kvs:List (κ × V)} {es:List (κ × D)} {k:κ} {v:V} {d:D} (h:VPs kvs es) (e:Y8 d=some v):VPs (S4 kvs k v) (A0z es k d):=by
 unfold S4 A0z;rw[h.any k];split
 ·exact h.repl e
 ·exact h.snoc e
theorem VPs.length {kvs:List (κ × V)} {es:List (κ × D)} (h:VPs kvs es):kvs.length=es.length:=by
 induction h with
 | nil=>rfl
 | cons _ _ ih=>rw[length_cons,length_cons,ih]
theorem C10 (es:List (κ × D)) (k:κ) (d:D):(A0z es k d).length<=es.length+1:=by
 unfold A0z;split
 ·rw[qf];lia
 ·rw[length_append];exact qp _
end
def B77 (k:List C1):D:=.tuple (k.map E3)
def K8 (es:List (C1 × D)):D:=A51 false (es.map λp=>(E3 p.1,p.2))
def dTD (es:List (List C1 × D)):D:=A51 true (es.map λp=>(B77 p.1,p.2))
theorem B06 {a b:C1} (h:E3 a=E3 b):a=b:=by
 cases a<;>cases b<;>simp[E3] at h
 ·rw[h]
 ·rw[h]
theorem A6k:∀ {a b:List C1},a.map E3=b.map E3->a=b
 | [],[],_=>rfl
 | [],_::_,h=>by cases h
 | _::_,[],h=>by cases h
 | _::r,_::t,h=>by
  rw[map_cons,map_cons] at h;injection h with h1 h2
  rw[B06 h1,A6k h2]
theorem B45:∀ {kvs:List (C1 × V)} {es:List (C1 × D)},B0c kvs (es.map λp=>(E3 p.1,p.2))->VPs kvs es
 | [],[],_=>.nil
 | (k,v)::r,(k',d)::t,h=>by
  have h1:E3 k'=E3 k/\Y8 d=some v/\B0c r (t.map λp=>(E3 p.1,p.2)):=h;rw[B06 h1.1];exact .cons h1.2.1 (B45 h1.2.2)
 | [],_::_,h=>h.elim
 | _::_,[],h=>h.elim
theorem C99 {kvs:List (C1 × V)} {es:List (C1 × D)} (h:VPs kvs es):B0c kvs (es.map λp=>(E3 p.1,p.2)):=by
 induction h with
 | nil=>trivial
 | cons e _ ih=>exact ⟨rfl,e,ih⟩
theorem C32:∀ {kvs:List (List C1 × V)} {es:List (List C1 × D)},C1i kvs (es.map λp=>(B77 p.1,p.2))->VPs kvs es
 | [],[],_=>.nil
 | (k,v)::r,(k',d)::t,h=>by
  have h1:B77 k'=.tuple (k.map E3)/\Y8 d=some v/\C1i r (t.map λp=>(B77 p.1,p.2)):=h;have h2:k'.map E3=k.map E3:=by have:=h1.1;unfold B77 at this;injection this
  rw[A6k h2];exact .cons h1.2.1 (C32 h1.2.2)
 | [],_::_,h=>h.elim
 | _::_,[],h=>h.elim
variable {kvs:List (List C1 × V)} {o:Expr} {y:V}
theorem D9d {es:List (List C1 × D)} (h:VPs kvs es):C1i kvs (es.map λp=>(B77 p.1,p.2)):=by
 induction h with
 | nil=>trivial
 | cons e _ ih=>exact ⟨rfl,e,ih⟩
section
variable {K:W.Frag} {H:Hp} {v:V}
theorem Z9 {es:List (C1 × D)} (h:Dn K H v (K8 es)):∃ a kvs,v=.ref a/\H a=some (.dK kvs)/\VPs kvs es:=by
 unfold K8 A51 at h;cases h with
 | dct e r =>
  rename_i a o;cases o<;>first|exact r.elim|skip
  exact ⟨_,_,rfl,e,B45 r⟩
theorem B4y {es:List (List C1 × D)} (h:Dn K H v (dTD es)):∃ a kvs,v=.ref a/\H a=some (.dT kvs)/\VPs kvs es:=by
 unfold dTD A51 at h;cases h with
 | dct e r =>
  rename_i a o;cases o<;>first|exact r.elim|skip
  exact ⟨_,_,rfl,e,C32 r⟩
theorem B1i {a:Addr} {kvs:List (C1 × V)} {es:List (C1 × D)} (e:H a=some (.dK kvs)) (h:VPs kvs es):Ow K H (.ref a) (K8 es) [a]:=.dct e (C99 h)
theorem D78 {a:Addr} {es:List (List C1 × D)} (e:H a=some (.dT kvs)) (h:VPs kvs es):Ow K H (.ref a) (dTD es) [a]:=.dct e (D9d h)
theorem A23 {b:Bool} {kds:List (D × D)} {ms:List Addr} (h:Ow K H v (A51 b kds) ms):∃ a,v=.ref a/\ms=[a]:=by
 unfold A51 at h;cases h with
 | dct e r=>exact ⟨_,rfl,rfl⟩
end
abbrev A33:=Sum C1 (List C1)
def A76 (H:Hp):A33->V->Prop
 | .inl k,v=>v=kV k
 | .inr ks,v=>∃ b,v=.ref b/\H b=some (.tup (ks.map kV))
theorem A76.same {k:A33} {v:V} (h:A76 H k v) (e:A9 H H'):A76 H' k v:=by
 cases k with
 | inl=>exact h
 | inr=>obtain ⟨b,h1,h2⟩:=h;exact ⟨b,h1,e _ _ h2⟩
abbrev TKy:=C4->(A33->Prop)->XD->Prop
def LKy (K:W.Frag) (E:XK) (t:TKy):TE:=λU H Q=>∃ H0 ν O Qd Xd,B8 K Z0 H0 ν O U H/\t O Qd Xd/\(∀ k v H',Qd k->A9 H H'->A76 H' k v->Q v H')/\∀ C H',Xd C->A9 H0 H'->E (.ref C) none H'
structure DKy (X:Cx) (K:W.Frag) (E:XK) (e:Expr) (t:TKy):Prop where
 q:QE X e (LKy K E t)
section
variable {X:Cx} {K:W.Frag} {E:XK} {pos:Pos} {e:Expr} {es:List Expr} {te td:TD} {tk:TKy}
variable {v:V} {d:D}
theorem A95 {k:C1} (h:Dn K H v (E3 k)):v=kV k:=by
 cases k with
 | inl=>exact R4 h
 | inr=>cases h;rfl
def kyS (t:TD):TKy:=λO Q Xd=>t O (λd _=>∃ k,d=E3 k/\Q (.inl k)) Xd
theorem K1 (h:DE X K E e te):DKy X K E e (kyS te):=⟨C9 h.q λU H Q h=>by
 obtain ⟨H0,ν,O,Qd,Xd,S,h1,q,x⟩:=h;refine ⟨H0,ν,O,_,Xd,S,h1,λd k v H' g1 g2 g3=>?_,x⟩;obtain ⟨k',rfl,g⟩:=g1;exact q _ _ _ g g2 (A95 g3.den)⟩
def C3i (d:D) (k:A33) (C:Bool->Prop):Prop:=(∃ es k',d=K8 es/\k=.inl k'/\C (look es k').isSome)\/∃ es k',d=dTD es/\k=.inr k'/\C (look es k').isSome
theorem B99 {x:V} {k:A33} {C:Bool->Prop} (h:C3i d k C) (hx:Dn K H x d) (hy:A76 H k y):∃ a o,x=.ref a/\Y6 H a y o/\C o.isSome:=by
 rcases h with ⟨es,k',rfl,rfl,c⟩|⟨es,k',rfl,rfl,c⟩
 ·obtain ⟨a,kvs,rfl,e,p⟩:=Z9 hx;cases hy;refine ⟨a,_,rfl,Y6.k e,?_⟩;rcases p.look k' with ⟨d,v,e1,e2,_⟩|⟨e1,e2⟩
  ·rw[e1] at c;rw[e2];exact c
  ·rw[e1] at c;rw[e2];exact c
 ·obtain ⟨a,kvs,rfl,e,p⟩:=B4y hx;obtain ⟨b,rfl,hb⟩:=hy;refine ⟨a,_,rfl,Y6.t e hb,?_⟩;rcases p.look k' with ⟨d,v,e1,e2,_⟩|⟨e1,e2⟩
  ·rw[e1] at c;rw[e2];exact c
  ·rw[e1] at c;rw[e2];exact c
def C69 (f:Bool->Bool) (tk:TKy) (td:TD):TD:=λO Q Xd=>tk O (λk=>td O (λd _=>C3i d k λb=>Q (.bool (f b)) .old) Xd) Xd
theorem C3u {i:Expr} (f:Bool->Bool) (r:TE->TE->TE) (hr:∀ (ty td:TE) U H Q,(ty U H λy H1=>td U H1 λx H2=>∃ a o,x=.ref a/\Y6 H2 a y o/\Q (.bl (f o.isSome)) H2)->r ty td U H Q):∀ U H Q,LE K E (C69 f tk td) U H Q->r (LKy K E tk) (LE K E td) U H Q:=λU H Q h=>by
 refine hr _ _ _ _ _ ?_;obtain ⟨H0,ν,O,Qd,Xd,S,h1,q,x⟩:=h;refine ⟨H0,ν,O,_,Xd,S,h1,λk v H1 g1 e1 r1=>?_,x⟩;refine ⟨H0,ν,O,_,Xd,S.same e1,g1,λd kk u H2 g2 e2 r2=>?_,x⟩;obtain ⟨a,o,ha,hg,c⟩:=B99 g2 r2.den (r1.same e2);exact ⟨a,o,ha,hg,q _ _ _ _ c (e1.trans e2) (.bl _)⟩
def D34 (d:D) (k:A33) (C:D->Prop):Prop:=(∃ es k' z,d=K8 es/\k=.inl k'/\look es k'=some z/\C z)\/∃ es k' z,d=dTD es/\k=.inr k'/\look es k'=some z/\C z
theorem C35 (h:Y8 d=some v):Dn K H v d:=by
 cases d<;>simp[Y8] at h<;>subst h
 ·exact .non
 ·exact .bl _
 ·exact .int _
 ·exact .str _
theorem C20 {x:V} {k:A33} {C:D->Prop} (h:D34 d k C) (hx:Dn K H x d) (hy:A76 H k y):∃ a v z,x=.ref a/\Y6 H a y (some v)/\Y8 z=some v/\C z:=by
 rcases h with ⟨es,k',z,rfl,rfl,l,c⟩|⟨es,k',z,rfl,rfl,l,c⟩
 ·obtain ⟨a,kvs,rfl,e,p⟩:=Z9 hx;cases hy;rcases p.look k' with ⟨d,v,e1,e2,e3⟩|⟨e1,e2⟩
  ·rw[l] at e1;cases e1;exact ⟨a,v,_,rfl,e2 ▸ Y6.k e,e3,c⟩
  ·rw[l] at e1;cases e1
 ·obtain ⟨a,kvs,rfl,e,p⟩:=B4y hx;obtain ⟨b,rfl,hb⟩:=hy;rcases p.look k' with ⟨d,v,e1,e2,e3⟩|⟨e1,e2⟩
  ·rw[l] at e1;cases e1;exact ⟨a,v,_,rfl,e2 ▸ Y6.t e hb,e3,c⟩
  ·rw[l] at e1;cases e1
def C9q (td:TD) (tk:TKy):TD:=λO Q Xd=>td O (λd _=>tk O (λk=>D34 d k λz=>Q z .old) Xd) Xd
theorem A4l {i:Expr} (hu:X.A.units+1 < cLine) (ho:DE X K E o td) (hi:DKy X K E i tk) (hs:B7m i):DE X K E (.Subscript o i pos) (C9q td tk):=⟨C9 (A4y hu ho.q hi.q hs) λU H Q h=>by
 obtain ⟨H0,ν,O,Qd,Xd,S,h1,q,x⟩:=h;refine ⟨H0,ν,O,_,Xd,S,h1,λd kk u H1 g1 e1 r1=>?_,x⟩;refine ⟨H0,ν,O,_,Xd,S.same e1,g1,λk v H2 g2 e2 r2=>?_,x⟩;obtain ⟨a,w',z,ha,hg,hz,c⟩:=C20 g2 (r1.same e2).den r2;exact ⟨a,w',ha,hg,q _ _ _ _ c (e1.trans e2) (C35 hz)⟩⟩
def C9g (b:Bool):TD:=λ_ Q _=>Q (if b=true then dTD [] else K8 []) (.own [])
theorem A0r:DE X K E (.Dict [] [] pos) (C9g false):=⟨C9 B8c λU H Q h=>by
 obtain ⟨H0,ν,O,Qd,Xd,S,h1,q,x⟩:=h;exact λp hp=>q _ _ _ _ h1 (A9.new hp) ⟨[p],B1i B2 .nil,by simp,λa ha=>by rw[zc] at ha;subst ha;exact .inl hp⟩⟩
def B63 (x:D) (k:A33) (d:D) (C:D->Prop):Prop:=(∃ es k',x=K8 es/\k=.inl k'/\es.length < 1000000/\C (K8 (A0z es k' d)))\/∃ es k',x=dTD es/\k=.inr k'/\es.length < 1000000/\C (dTD (A0z es k' d))
def C9a (i:Nat) (tk:TKy) (te:TD):L1:=λDd O Xd=>te O (λd _=>(Y8 d).isSome=true/\∃ x,O[i]?=some (some (true,x))/\tk O (λk=>B63 x k d λy=>Dd.nx (O.set i (some (true,y)))) Xd) Xd
theorem D5d (h:Dn K H v d) (hs:(Y8 d).isSome=true):Y8 d=some v:=by
 cases h<;>simp[Y8] at hs ⊢
theorem A2j (i:Nat) {x:Str} {ie:Expr} (hu:X.A.units+1 < cLine) (ho:QE X (.Name x px) (Z1 i)) (hi:DKy X K E ie tk) (hv:DE X K E value te) (hs:swapsWith value (some (.Subscript (.Name x px) ie pos')) pos.line X.env=pure false:=by rfl):DS X K E (.Assign [.Subscript (.Name x px) ie pos'] value pos) (C9a i tk te):=⟨L9 (B0p hu ho hi.q hv.q hs) λEn U H h=>by
 obtain ⟨H0,ν,O,Dd,Xd,S,h1,ok,x⟩:=h;refine ⟨H0,ν,O,_,Xd,S,h1,λd kk v H1 g1 e1 r1=>?_,x⟩;obtain ⟨hd,y,hy,g1⟩:=g1;have hvd:=D5d r1.den hd;obtain ⟨u,u1,u2⟩:=S.sl i true y hy;have u2:Ow K H u y (ν i):=u2;refine ⟨u,u1,H0,ν,O,_,Xd,S.same e1,g1,λk w' H2 g2 e2 r2=>?_,x⟩;have e02:=e1.trans e2;have fin:∀ (a:Addr) (o o':HO) (z:D),u=.ref a->ν i=[a]->H2 a=some o->muO o=true->Ow K (upd H2 a o') (.ref a) z [a]->Dd.nx (O.set i (some (true,z)))->En.nx U (upd H2 a o'):=λa o o' z hu hn ho hm hz hx=>by
  subst hu;have S':=S.mut [] i (ms:=[a]) (v:=.ref a) (H':=upd H2 a o') u1 (C2z hy) (λb ob hb hnb=>by
   rw[B5 (λz=>hnb (by rw[z,hn];exact qu))];exact e02 _ _ hb) hz (by simp) (λb hb=>.inl (by rw[hn];exact hb)) (by simp) (λj hj=>by cases hj)
  exact ok.nx _ _ _ _ hx S'
 rcases g2 with ⟨es,k',rfl,rfl,hl,g2⟩|⟨es,k',rfl,rfl,hl,g2⟩
 ·obtain ⟨a,rfl,hn⟩:=A23 (b:=false) u2;obtain ⟨a',kvs,ea,e,p⟩:=Z9 u2.den;cases ea;cases r2;have e':=e02 _ _ e;exact ⟨a,_,rfl,A9a.k e' (by rw[p.length];exact qr hl L3),fin a _ _ _ rfl hn e' rfl (B1i B2 (p.put hvd)) g2⟩
 ·obtain ⟨a,rfl,hn⟩:=A23 (b:=true) u2;obtain ⟨a',kvs,ea,e,p⟩:=B4y u2.den;cases ea;obtain ⟨b,rfl,hb⟩:=r2;have e':=e02 _ _ e;exact ⟨a,_,rfl,A9a.t e' hb (by rw[p.length];exact qr hl L3),fin a _ _ _ rfl hn e' rfl (D78 B2 (p.put hvd)) g2⟩⟩
end
end DL
namespace L2
def ItS (z:Str):It:=⟨λi _=>i < z.cps.size,λi H x H'=>H'=H/\∃ c,z.cps[i]?=some c/\x=.str ⟨#[c]⟩,λi _=>z.cps.size<=i⟩
theorem B13 {w:World} {K:W.Frag} {tg:Expr} {it:Addr} {T:String} {z:Str} {t:Tok}
  (hT:["enumerate","zip","dict_itemiterator","dict_reverseitemiterator","odict_iterator","itertools.zip_longest","itertools.pairwise"].contains T=false)
  (W:∀ A:Around,A.handled=none->Walks P w A it [it] [it] z.cps.size (SignAt z) (λi h=>h.IsStrIter it T z t i))
  (slf:∀ (A:Around) (i:Nat) (s:Shared) (Q:Value->Shared->Prop) (E:Value->Shared->Prop),s.heap.IsStrIter it T z t i->Q (.ref it) s->wpAny (model P w) A (pyIter (.ref it)) Q E s):B1l P w K tg (ItS z) [it] it (λi h=>i<=z.cps.size/\h.IsStrIter it T z t i) where
 mem:=by simp
 obj:=λi h st b hb=>by
  have e:b=it:=by simpa using hb
  subst e;obtain ⟨_,o,e,c,d⟩:=st;exact ⟨o,e,λv z=>by rw[d] at z;cases z⟩
 keep:=λi h h' st k=>⟨st.1,let ⟨o,e,r⟩:=st.2;⟨o,k it (by simp) o e,r⟩⟩
 item:=by
  intro X hP hw hK hc i pins s U H E I hf st hg;subst hP hw hK;obtain ⟨f0,f1,f2,f3,f4,f5⟩:=hf it (by simp);refine (W X.A (I.ok.hd hc)).item i s _ _ hg st.2 λv h' tk hv st' kk=>?_;obtain ⟨c,u,hc',rfl⟩:=hv;have I1:B6 X pins U H { s with heap:=h',toks:=tk }:=I.turned (λb o hb e=>kk b o (by simpa using hb) e) f0 f1 f3 f4 f5;obtain ⟨o,e1,e2,e3⟩:=id st';exact ⟨_,rfl,B0w (s:={ s with heap:=h',toks:=tk }) (n:=T) e1 e2 e3 hT ⟨.str ⟨#[c]⟩,H,I1,⟨u,rfl⟩,⟨rfl,c,hc',rfl⟩,⟨hg,st'⟩,λb hb=>(hf b hb).1⟩⟩
 done:=by
  intro X hP hw hK hc i pins s U H E I hf st hg;subst hP hw hK;obtain ⟨f0,f1,f2,f3,f4,f5⟩:=hf it (by simp);have ei:i=z.cps.size:=Nat.le_antisymm st.1 hg;subst ei;refine (W X.A (I.ok.hd hc)).done s _ _ st.2 λh' tk kk=>?_;exact ⟨rfl,I.turned (λb o hb e=>kk b o (by simpa using hb) e) f0 f1 f3 f4 f5⟩
 self:=λA i s Q E st hq=>slf A i s Q E st.2 hq
section
variable {X:Cx} {tg:Expr}
def D9c (tl:TE):TI:=λU H R=>tl U H λx H1=>∃ z,x=.str z/\R (ItS z) H1
theorem D2q {l:Expr} {tl:TE} (hl:PE X l tl):PI X tg l (D9c tl):=by
 intro pins s U H R I h;refine E1 (hl pins s U H _ I h) λv s1 ⟨x,H1,I1,r1,q1⟩=>?_;obtain ⟨z,rfl,q⟩:=q1;obtain ⟨t,rfl⟩:=r1;have fp:∀ (o:Obj),∀ b∈[s1.heap.objs.size],V5 X pins H1 b:=λo b hb=>by
  have e:b=s1.heap.objs.size:=by simpa using hb
  subst e;exact I1.fpOk (qp _) (I1.hok.fresh (qp _))
 cases ha:z.cps.all (· < 128) with
 | false =>
  refine wpAny_pyIter_wide ha ?_;exact ⟨s1.heap.objs.size,[s1.heap.objs.size],_,_,H1,rfl,I1.kept (t':=s1.toks) λb o e=>qa _ e,B13 (by decide) (λA hA=>Walks.strWide hA _ z t) (λA i s Q E st hq=>wpAny_pyIter_striter_wide st hq),⟨zz _,_,ql _ rfl,rfl,rfl⟩,fp { cls:=.none,data:=.fields #[] },q⟩
 | true =>
  refine wpAny_pyIter_ascii ha ?_;exact ⟨s1.heap.objs.size,[s1.heap.objs.size],_,_,H1,rfl,I1.kept (t':=s1.toks) λb o e=>qa _ e,B13 (by decide) (λA hA=>Walks.strAscii hA _ z t) (λA i s Q E st hq=>wpAny_pyIter_striter_ascii st hq),⟨zz _,_,ql _ rfl,rfl,rfl⟩,fp { cls:=.none,data:=.fields #[] },q⟩
def E1f:V->Option Int->Option Int->Hp->VK->Prop:=λx lo hi H Q=>∃ z,x=.str z/\z.length<=sizeLine/\Q (.str (Txt.slice z lo hi)) H
theorem B56 {v:Value} {o:Option Int} (h:IsPart v o):∃ l:Option (Int × Tok),v=partValue l/\l.map (·.1)=o:=by
 cases h with
 | none=>exact ⟨none,rfl,rfl⟩
 | int i t=>exact ⟨some (i,t),rfl,rfl⟩
theorem D20:SlR X E1f:=by
 intro pins s U H x v vl vu lo hi sl Q I rx hs pl pu h;obtain ⟨z,rfl,hz,q⟩:=h;obtain ⟨t,rfl⟩:=rx;obtain ⟨l,rfl,rfl⟩:=B56 pl;obtain ⟨u,rfl,rfl⟩:=B56 pu;refine ⟨"str",_,F.slot_str_getitem.lookup,typeIs_str _ _ _,wpAny_getItem_str_slice (l:=l) (u:=u) (st:=none) hs rfl ?_⟩;exact post_val_or_str ⟨zn (Txt.slice_le z _ _) hz,λt' k=>⟨.str _,H,I.tok _,⟨t',rfl⟩,q⟩⟩
theorem B4a:U1 X (binaryOp .Mult) (λx y H Q=>∃ z n,x=.str z/\y=.int n/\MulOk z n/\Q (.str (Txt.mul z n)) H):=by
 intro pins s U H x y v u Q I rx ry h;obtain ⟨z,n,rfl,rfl,hm,q⟩:=h;obtain ⟨t,rfl⟩:=rx;obtain ⟨t',rfl⟩:=ry;exact SB.mul hm λt k=>⟨.str _,H,I.tok _,⟨t,rfl⟩,q⟩
end
end L2
namespace DL
open L2
section
variable {X:Cx} {K:W.Frag} {E:XK} {pos:Pos} {tg l:Expr} {te:TD}
def signs (z:Str):List D:=z.cps.toList.map λc=>PyData.str ⟨#[c]⟩
theorem B74 (z:Str):(signs z).length=z.cps.size:=by unfold signs;rw[qf,qj]
theorem C1p {z:Str}:B1k K F0 (ItS z) (signs z):=λW H2 hl sm=>by
 refine ⟨?_,λi d hd=>?_⟩
 ·show z.cps.size<=_;rw[B74];exact qp _
 ·unfold signs at hd;rw[qk,zm] at hd;cases e:z.cps[i]? with
  | none=>rw[e] at hd;cases hd
  | some c =>
   rw[e] at hd;cases hd;refine ⟨?_,λx H' y=>?_⟩
   ·show i < z.cps.size;exact (zl.mp e).1
   ·obtain ⟨rfl,c',e',rfl⟩:=y;rw[e] at e';cases e';exact ⟨A9.refl _,.str _⟩
def iS (te:TD):TDI:=λO Q Xd=>te O (λd _=>match d with
 | .str z=>Q (signs z) true
 | _=>False) Xd
theorem A48 (hl:DE X K E l te):DI X K E tg l (iS te):=⟨A8v (⟨D2q hl.q.h⟩:QI X tg l (D9c (LE K E te))) λU H R h=>by
 obtain ⟨H0,ν,O,Qd,Xd,S,h1,q,x⟩:=h;refine ⟨H0,ν,O,_,Xd,S,h1,λd k v H' g1 g2 g3=>?_,x⟩;have:=g3.den;cases d with
 | str z=>cases this;exact ⟨z,rfl,q _ _ _ H' g1 g2 C1p⟩
 | _=>exact g1.elim⟩
def D15:F2:=λd _ e _ Q=>match d,e with
 | .str z,.int i=>z.length<=1000000/\∃ c,atI z.cps.toList i=some c/\Q (.str ⟨#[c]⟩) .old
 | _,_=>False
theorem D95:DIx X K D15:=⟨_,C27,λZ ν Hs H x y d k e l Qf Q _ _ _ h3 h4 h5 h6=>by
 unfold D15 at h5;split at h5
 ·have a:=h3.den;have b:=h4.den;cases a;cases b;obtain ⟨h5,c,h7,h8⟩:=h5;exact ⟨_,_,c,rfl,rfl,zn h5 L3,h7,h6 _ _ _ _ h8 (A9.refl H) (.str _)⟩
 ·exact h5.elim⟩
def C4g:F2:=λd _ e _ Q=>match d,e with
 | .str z,.int i=>MulOk z i/\Q (.str (Txt.mul z i)) .old
 | _,_=>False
theorem A5y:DOp X K (binaryOp .Mult) C4g:=⟨_,B4a,λZ ν Hs H x y d k e l Qf Q _ _ _ h3 h4 h5 h6=>by
 unfold C4g at h5;split at h5
 ·have a:=h3.den;have b:=h4.den;cases a;cases b;exact ⟨_,_,rfl,rfl,h5.1,h6 _ _ _ _ h5.2 (A9.refl H) (.str _)⟩
 ·exact h5.elim⟩
def C3s:FA:=λds _ Q=>match ds with
 | [.str z]=>z.length<=1000000/\Q (.int z.length) .old
 | _=>False
theorem N9:DCl X K (.builtin "len") C3s:=⟨_,A9g,λZ ν Hs H xs ds k Qf Q _ _ _ h g q=>by
 unfold C3s at g;split at g
 ·obtain ⟨v,rfl,h1⟩:=Y9 h.dens;cases h1;exact ⟨_,rfl,zn g.1 L3,q _ _ _ _ g.2 (A9.refl H) (.int _)⟩
 ·exact g.elim⟩
def D1g:F3:=λd _ lo hi Q=>match d with
 | .str z=>z.length<=1000000/\Q (.str (Txt.slice z lo hi)) .old
 | _=>False
theorem D8 {e:Expr} {lo hi:Option Expr} {te:TD} {tl th:TDO} {p2:Pos} (he:DE X K E e te) (hl:DO X K E lo tl) (hu:DO X K E hi th):DE X K E (.Subscript e (.Slice lo hi none p2) pos) (dSl D1g te tl th):=⟨by
 refine C9 (A2s D20 he.q hl.q hu.q) λU H Q h=>?_;obtain ⟨H0,ν,O,Qd,Xd,S,h1,q,x⟩:=h;refine ⟨H0,ν,O,_,Xd,S,h1,λd k v H1 g1 e1 r1=>?_,x⟩;refine ⟨H0,ν,O,_,Xd,S.same e1,g1,λl H2 g2 e2=>?_,x⟩;refine ⟨H0,ν,O,_,Xd,S.same (e1.trans e2),g2,λu H3 g3 e3=>?_,x⟩;have r:=r1.den;unfold D1g at g3;split at g3
 ·cases r;exact ⟨_,rfl,zn g3.1 L3,q _ _ _ _ g3.2 ((e1.trans e2).trans e3) (.str _)⟩
 ·exact g3.elim⟩
theorem C0i {C:Addr} (hK:X.K=K) (hp:(ea,oe)∈X.pn) (hc:XOf oe C) (hh:X.A.handled=some (.ref ea)):DCl X K (.builtin "any") (B2s λl=>l.any id):=⟨_,B8q K hK hp hc.2 hh,λZ ν Hs H xs ds k Qf Q _ _ _ h g q=>by
 unfold B2s at g;split at g
 ·obtain ⟨v,rfl,h1⟩:=Y9 h.dens;obtain ⟨a,us,rfl,g1,g2⟩:=E8 h1;obtain ⟨ns,e,g⟩:=g;exact ⟨a,ns,rfl,O5.of (by rw[g1,A0w g2 e]),q _ _ _ _ g (A9.refl H) (.bl _)⟩
 ·exact g.elim⟩
end
section
variable {O:C4} {Q:QD} {Xd:XD} {z:Str} {i:Int} {k l:Kd} {te:TD} {lo hi:Option Int}
theorem E03 (h:z.length<=1000000/\∃ c,atI z.cps.toList i=some c/\Q (.str ⟨#[c]⟩) .old):D15 (.str z) k (.int i) l Q:=h
theorem D3a (h:MulOk z i/\Q (.str (Txt.mul z i)) .old):C4g (.str z) k (.int i) l Q:=h
theorem D1u (h:z.length<=1000000/\Q (.int z.length) .old):C3s [.str z] k Q:=h
theorem D6s (h:z.length<=1000000/\Q (.str (Txt.slice z lo hi)) .old):D1g (.str z) k lo hi Q:=h
def onS (Q:List D->Bool->Prop):QD:=λd _=>match d with
 | .str z=>Q (signs z) true
 | _=>False
theorem E1a {Q:List D->Bool->Prop} (h:te O (onS Q) Xd):iS te O Q Xd:=h
theorem D80 {Q:List D->Bool->Prop} (h:Q (signs z) true):onS Q (.str z) k:=h
end
end DL
namespace L2
open PySem.W
open PySem.Calls
def A15:V->V->Bool
 | .int _,.int _=>true
 | .str _,.str _=>true
 | _,_=>false
def Q1:List V->List V->Bool
 | [],[]=>true
 | a::r,b::t=>A15 a b&&Q1 r t
 | _,_=>false
theorem A15.symm {a b:V} (h:A15 a b=true):A15 b a=true:=by cases a<;>cases b<;>first|rfl|cases h
theorem A15.trans {a b c:V} (h:A15 a b=true) (g:A15 b c=true):A15 a c=true:=by cases a<;>cases b<;>first|(cases h;done)|(cases c<;>first|rfl|(cases g;done))
theorem Q1.symm:∀ {a b:List V},Q1 a b=true->Q1 b a=true
 | [],[],_=>rfl
 | _::_,_::_,h=>by
  rw[Q1,zb] at h ⊢;exact ⟨A15.symm h.1,Q1.symm h.2⟩
 | [],_::_,h=>by cases h
 | _::_,[],h=>by cases h
theorem Q1.trans:∀ {a b c:List V},Q1 a b=true->Q1 b c=true->Q1 a c=true
 | [],[],[],_,_=>rfl
 | _::_,_::_,_::_,h,g=>by
  rw[Q1,zb] at h g ⊢;exact ⟨A15.trans h.1 g.1,Q1.trans h.2 g.2⟩
 | [],_::_,_,h,_=>by cases h
 | _::_,[],_,h,_=>by cases h
 | _,[],_::_,_,g=>by cases g
 | _,_::_,[],_,g=>by cases g
end L2
namespace DL
open L2
variable {α:Type}
variable {Q:Q8->Prop}
theorem C96 {f:D->Q8->(Q8->Prop)->Prop} (F G:α->D) (L:List α) (es:Q8) (hs:∀ a∈L,∀ es (Q':Q8->Prop),es.length < 1000000->Q' (es++[(G a,true)])->f (F a) es Q') (hm:es.length+L.length<=1000000) (q:Q (es++(L.map G).map λd=>(d,true))):go f (L.map F) es Q :=
 A8c F G (λ_=>true) L es hs hm (by rw[List.filter_eq_self.mpr λ_ _=>rfl];rw[map_map] at q;exact q)
theorem B1r {f:D->Q8->(Q8->Prop)->Prop} (F:α->D) (G:α->List D):∀ (L:List α) (es:Q8),(∀ a∈L,∀ es (Q':Q8->Prop),es.length+(G a).length<=1000000->Q' (es++(G a).map λd=>(d,true))->f (F a) es Q')->es.length+(L.flatMap G).length<=1000000->Q (es++(L.flatMap G).map λd=>(d,true))->go f (L.map F) es Q
 | [],es,_,_,q=>by
  show Q es;simpa using q
 | a::r,es,hs,hm,q=>by
  rw[List.flatMap_cons,length_append] at hm;rw[List.flatMap_cons,map_append,<-append_assoc] at q;refine hs a qu es _ (by lia) ?_;exact B1r F G r _ (λb hb=>hs b (qv _ hb)) (by rw[length_append,qf];lia) q
theorem B9g {f:D->Q8->(Q8->Prop)->Prop} {ok:Bool} {Q:QD} {L:List α} (F:α->D) (G:α->List D) (hs:∀ a∈L,∀ es (Q':Q8->Prop),es.length+(G a).length<=1000000->Q' (es++(G a).map λd=>(d,true))->f (F a) es Q') (hm:(L.flatMap G).length<=1000000) (q:Q (.list (L.flatMap G)) (.own [])):LcD f (L.map F) ok Q:=by
 refine B1r F G L [] hs (by simpa using hm) ?_;have e1:((((L.flatMap G).map λd=>(d,true)):Q8).map (·.1))=L.flatMap G:=by rw[map_map];exact List.map_id _
 have e2:((((L.flatMap G).map λd=>(d,true)):Q8).all (·.2))=true:=by rw[List.all_map];exact all_eq_true.mpr λ_ _=>rfl
 rw[List.nil_append,e1,qm e2];exact q
end DL
namespace L2
end L2
namespace DL
open L2
end DL
namespace L2
open PySem.W PySem.Calls
def Z3 (h:Heap) (d:Addr) (es:Array DictEntry) (ep:Nat):Prop:=∃ o,h.get? d=some o/\o.ExactDict/\o.data=.dict es ep
variable {h:Heap} {d:Addr} {Q:Option Value->Shared->Prop} {n:Nat}
theorem Z3.lt {es:Array DictEntry} (x:Z3 h d es ep):d < h.objs.size:=let ⟨_,e,_⟩:=x;qi e
theorem Z3.at {es:Array DictEntry} (x:Z3 h d es ep) (k:∀ o,h.get? d=some o->h'.get? d=some o):Z3 h' d es ep:=let ⟨o,e,r⟩:=x;⟨o,k o e,r⟩
theorem Z3.ty {s:Shared} {es:Array DictEntry} (x:Z3 s.heap d es ep):s.TypeIs (.ref d) "dict":=let ⟨o,e,c,_⟩:=x;⟨o,e,c.1⟩
section
variable {prog:Program} {w:World} {A:Around} {E:Value->Shared->Prop} {s:Shared} {d it:Addr} {es:Array DictEntry} {ep i:Nat}
theorem C47 {Q:Value->Shared->Prop} (hd:(d==sysModules)=false) (hm:Z3 s.heap d es ep)
  (hQ:Q (.ref s.heap.objs.size) { s with heap:=s.heap.push { cls:=.type "dict_keyiterator",data:=.fields #[.ref d,.int 0 0,.int es.size 0,.int ep 0] } }):wpAny (model prog w) A (pyIter (.ref d)) Q E s:=by
 obtain ⟨o,ho,hc,hdat⟩:=id hm;refine wpAny_pyIter_slot hm.ty F.slot_dict_iter (wpAny_call_entry F.slot_dict_iter hm.ty F.entry_dict_iter ?_ (F.args_dict_iter_1 _));unfold Builtin.«dict.__iter__»;refine qb ?_;unfold Builtin.Dict.dictSlotNone;refine qb (wpAny_notOrdered_dict hm.ty ?_);show wpAny _ _ (pure (Value.ref d)) _ _ s;refine qc ?_;show wpAny _ _ (Builtin.Dict.showsAll d >>= _) _ _ s;unfold Builtin.Dict.showsAll;rw[qo (by rw[hd];exact qt)];refine qb (qc ?_);refine qb (wpAny_dictEntries ho hdat ?_);refine qb (wpAny_dictEpoch ho hdat ?_);refine qb (wpAny_newObj_type (qc ⟨_,rfl,"dict_keyiterator",_,⟨_,ql _ rfl,rfl⟩,F.slot_dict_keyiterator_next.lookup,?_⟩));simpa [rawInt] using hQ
theorem C1a {e:DictEntry} (hit:s.heap.IsKeyIter it d i es.size ep) (hm:Z3 s.heap d es ep) (hx:es[i]?=some e)
  (hQ:∀ h',h'.IsKeyIter it d (i+1) es.size ep->Heap.SameBut it s.heap h'->Q (some e.key) {s with heap:=h' }):wpAny (model prog w) A (pyNext (.ref it)) Q E s:=by
 obtain ⟨o,ho,hc,hd⟩:=id hit;obtain ⟨od,hod,hcd,hdd⟩:=id hm;unfold pyNext;refine qb (wpAny_attempt (wpAny_callSpecial?_slot (name:=Str.ofString "__next__") hit.typeIs F.slot_dict_keyiterator_next
  (wpAny_call_entry F.slot_dict_keyiterator_next hit.typeIs F.entry_dict_keyiterator_next ?_ (F.args_dict_keyiterator_next_1 _))))
 refine qb (qc ?_);refine qb ?_;refine qb ?_
 first|refine qb (wpAny_typeNameOfWhole_keyiter hit.typeIs (qc ?_))|refine qb (wpAny_typeNameOf_keyiter hit.typeIs (qc ?_))
 refine qb (wpAny_fieldsOf ho hd ?_);simp only[show Builtin.Dict_items.ownsTuple "dict_keyiterator"=false by decide,zo,if_false];show wpAny _ _ (if (Value.ref d==Value.none)=true then _ else _) _ _ s;rw[qo (show ¬ ((Value.ref d==Value.none)=true) from qt)];refine qb (qc ?_);refine qb (wpAny_dictEntries hod hdd ?_);rw[qo (by simp)];refine qb (qc ?_);refine qb (wpAny_dictEpoch hod hdd ?_);rw[qo (by simp)];refine qc ?_;simp only[show ¬ ((i:Int) < 0) from by lia,if_false,Int.toNat_natCast,hx];refine qb ?_
 first|refine qb (wpAny_typeNameOfWhole_keyiter hit.typeIs (qc ?_))|refine qb (wpAny_typeNameOf_keyiter hit.typeIs (qc ?_))
 refine qb (wpAny_isOneOf_keyiter hit.typeIs ?_);show wpAny _ _ (setField (.ref it) 1 (rawInt ((i:Int)+1)) >>= _) _ _ s;refine qb (wpAny_setField ho hd (by simp) ?_);have hit':(s.heap.update it (Obj.mapFields (·.setIfInBounds 1 (rawInt ((i:Int)+1))))).IsKeyIter it d (i+1) es.size ep :=
  ⟨_,Heap.get?_update_self _ ho (Obj.isFreed_of_fields (Obj.data_mapFields hd _)),(Obj.cls_mapFields ..).trans hc,by rw[Obj.data_mapFields hd];simp[rawInt]⟩
 refine qb (wpAny_holding ?_);refine qb (wpAny_isOneOf_keyiter (s:={ s with heap:=s.heap.update it (Obj.mapFields (·.setIfInBounds 1 (rawInt ((i:Int)+1)))) }) hit'.typeIs ?_);show wpAny _ _ (pure e.key) _ _ _;exact qc (qc ⟨_,rfl,qc (hQ _ hit' (Heap.SameBut.update ..))⟩)
theorem C6o (hh:A.handled=none) (hit:s.heap.IsKeyIter it d i es.size ep) (hm:Z3 s.heap d es ep) (hx:es[i]?=none)
  (hQ:∀ h',Heap.ExtBut it s.heap h'->Q none {s with heap:=h' }):wpAny (model prog w) A (pyNext (.ref it)) Q E s:=by
 obtain ⟨o,ho,hc,hd⟩:=id hit;obtain ⟨od,hod,hcd,hdd⟩:=id hm;unfold pyNext;refine qb (wpAny_attempt (wpAny_callSpecial?_slot (name:=Str.ofString "__next__") hit.typeIs F.slot_dict_keyiterator_next
  (wpAny_call_entry F.slot_dict_keyiterator_next hit.typeIs F.entry_dict_keyiterator_next ?_ (F.args_dict_keyiterator_next_1 _))))
 refine qb (qc ?_);refine qb ?_;refine qb ?_
 first|refine qb (wpAny_typeNameOfWhole_keyiter hit.typeIs (qc ?_))|refine qb (wpAny_typeNameOf_keyiter hit.typeIs (qc ?_))
 refine qb (wpAny_fieldsOf ho hd ?_);simp only[show Builtin.Dict_items.ownsTuple "dict_keyiterator"=false by decide,zo,if_false];show wpAny _ _ (if (Value.ref d==Value.none)=true then _ else _) _ _ s;rw[qo (show ¬ ((Value.ref d==Value.none)=true) from qt)];refine qb (qc ?_);refine qb (wpAny_dictEntries hod hdd ?_);rw[qo (by simp)];refine qb (qc ?_);refine qb (wpAny_dictEpoch hod hdd ?_);rw[qo (by simp)];refine qc ?_;simp only[show ¬ ((i:Int) < 0) from by lia,if_false,Int.toNat_natCast,hx];refine qb ?_
 first|refine qb (wpAny_typeNameOfWhole_keyiter hit.typeIs (qc ?_))|refine qb (wpAny_typeNameOf_keyiter hit.typeIs (qc ?_))
 show wpAny _ _ (setField (.ref it) 0 .none >>= _) _ _ s;refine qb (wpAny_setField ho hd (by simp) ?_);show wpAny _ _ (newExc (.type "StopIteration") [] >>= _) _ _ _;refine qb ?_;simp only[newExc,newTuple];refine qb (wpAny_newObj_type ?_ (by size_fits));refine qb (m:=firstArgMember _ _) (wpAny_of_eq (a:=Value.none) (by first|rfl|(simp only[firstArgMember];rfl)) ?_);refine wpAny_newObj_type ?_ (by size_fits);simp only[raiseNew];refine qb (wpAny_handled ?_);rw[show A.in1.handled=none from hh];refine qb (qc (wpAny_throw ?_));refine qb (wpAny_isInstance (T:="StopIteration") (b:=true) ⟨_,ql _ rfl,rfl⟩ isSubtype_stop ?_);exact qc (hQ _ (((Heap.SameBut.update ..).extBut.push _).push _))
theorem B6r (hh:A.handled=none) (I:Addr) (hne:d≠I):Walks prog w A I [I,d] [I] es.size (λi v=>(es[i]?).map (·.key)=some v) (λi h=>h.IsKeyIter I d i es.size ep/\Z3 h d es ep) where
 sub:=λb hb=>by simp at hb;simp[hb]
 frame:=λ_ _ _ st hk=>⟨st.1.at λo e=>hk I (by simp) o e,st.2.at λo e=>hk d (by simp) o e⟩
 item:=λi s Q E hi st hQ=>by
  have hx:es[i]?=some es[i]:=Array.getElem?_eq_getElem hi;refine C1a st.1 st.2 hx λh' hit' hs'=>?_;exact hQ _ h' s.toks (by rw[hx];rfl) ⟨hit',st.2.at λo e=>hs'.extBut d o hne e⟩ λb o hb e=>hs'.extBut b o (λh=>hb (by simp[h])) e
 done:=λs Q E st hQ=>C6o hh st.1 st.2 (by simp) λh' he'=>hQ h' s.toks λb o hb e=>he' b o (λh=>hb (by simp[h])) e
 self:=λ_ _ _ _ st hQ=>wpAny_pyIter_keyiter st.1 hQ
theorem B5i (lo:(d==sysModules)=false):KdlSrc prog w "dict" d d es.size (λi v=>(es[i]?).map (·.key)=some v) (λh=>Z3 h d es ep) where
 type:=λ_ hm=>hm.ty
 there:=λ_ hm=>⟨hm.lt,hm.lt⟩
 keep:=λ_ _ hm hk=>hm.at λo e=>hk d (.inl rfl) o e
 notList:=by decide
 notTuple:=by decide
 hint:=λ_ _ _ _ hm hq=>kdl_hint_dict hm.ty hq
 iter:=λ_ _ hh hm=>⟨_,_,(λ_ _ hq=>C47 lo hm hq),B6r hh _ (ze hm.lt),⟨⟨_,ql _ rfl,rfl,rfl⟩,hm.at λo e=>qa _ e⟩⟩
theorem B0e {T:String} {r:Addr} {P:Nat->Value->Prop} {Q:List Value->Shared->Prop} (K:KdlSrc prog w T r d n P OK) (hh:A.handled=none) (hok:OK s.heap) (hn:n<=sizeLine)
  (h:∀ h' tk (vs:List Value),(∀ b o,s.heap.get? b=some o->h'.get? b=some o)->s.heap.objs.size<=h'.objs.size->ItemsOf P vs.toArray n->Q vs {s with heap:=h',toks:=tk }):wpAny (model prog w) A (collect (.ref r)) Q E s:=by
 have hlt:=K.there _ hok;have hS0:(s.heap.push (seqObj "list" #[] 0)).get? s.heap.objs.size=some { cls:=.type "list",data:=.seq #[] 0 }:=ql _ rfl;have key:∀ R:Result->Shared->Prop,(∀ h' tk acc' c',(∀ b o,b≠s.heap.objs.size->(s.heap.push (seqObj "list" #[] 0)).get? b=some o->h'.get? b=some o)->h'.get? s.heap.objs.size=some { cls:=.type "list",dict:=none,data:=.seq acc' c',slots:=#[] }->ItemsOf P acc' n->R (.ok (.ret (.ref s.heap.objs.size))) { s with heap:=h',toks:=tk }) ->
   codeAny (model prog w) A (.builtin "list.__iadd__" ⟨[.ref s.heap.objs.size,.ref r],[]⟩) R { s with heap:=s.heap.push (seqObj "list" #[] 0) }:=λR hR =>
  codeAny_builtin entry_list_iadd' (kdl_extend (s:={ s with heap:=s.heap.push (seqObj "list" #[] 0) }) K hh (K.keep _ _ hok λb _ o e=>qa _ e) s.heap.objs.size (Nat.ne_of_gt hlt.1) (Nat.ne_of_gt hlt.2) _ 0 hS0 hR hn)
 unfold collect;refine qb (wpAny_runValue (codeAny_builtin entry_proto_collect' ?_));show wpAny _ _ (do again (.builtin "list.__iadd__" ⟨[<-newList [],.ref r],[]⟩)) _ _ s;refine qb (wpAny_newList (qc ⟨Code.quiet_builtin _ (by decide +kernel),key _ λh' tk acc' c' hk hS hacc=>?_⟩));show wpAny (model prog w) A (do
   let o <- load s.heap.objs.size
   match o.data with
   | .seq xs _=>pure xs.toList
   | _=>unsupported "internal:collect") Q E { s with heap:=h',toks:=tk }
 refine qb (wpAny_load hS ?_);show wpAny _ _ (pure acc'.toList) Q E _;exact qc (h h' tk acc'.toList (λb o e=>hk b o (ze (qi e)) (qa _ e)) (zi (qi hS)) (by simpa using hacc))
end
section
variable {vs:List Value}
theorem Z4 {a b:Addr} {o:Obj} (hb:b≠a) (q:h.get? b=some o):(sortedHeap h a vs out).get? b=some o:=by
 unfold sortedHeap;rw[Heap.get?_update_ne _ _ _ _ hb];refine qa _ (qa _ ?_);rw[Heap.get?_update_ne _ _ _ _ hb];exact q
theorem A16 {a:Addr} (q:h.get? a=some (seqObj "list" vs.toArray n)):∃ e,(sortedHeap h a vs out).get? a=some (seqObj "list" out e):=by
 unfold sortedHeap;obtain ⟨e1,q1⟩:∃ e,(h.update a (Obj.mapSeq λ_=>(#[]:Array Value))).get? a=some (seqObj "list" #[] e):=⟨_,get?_update_seq q λ_=>#[]⟩;have q2:=qa (seqObj "list" #[] 0) (qa (seqObj "tuple" vs.toArray 0) q1);exact ⟨_,get?_update_seq q2 λ_=>out⟩
theorem A06 {es:Array DictEntry} {ws:List Value} (h:ItemsOf (λi v=>(es[i]?).map (·.key)=some v) ws.toArray es.size):ws=es.toList.map (·.key):=by
 obtain ⟨h1,h2⟩:=h;rw[size_toArray] at h1;apply List.ext_getElem?;intro i;rw[qk];have q:es.toList[i]?=es[i]?:=zm;rw[q];cases e:ws[i]? with
 | some v =>
  have:=h2 i v (by simpa using e);exact this.symm
 | none =>
  have:ws.length<=i:=by simpa using e
  have e2:es[i]?=none:=Array.getElem?_eq_none (by lia);rw[e2];rfl
end
section
variable {X:Cx} {pins:List (Addr × Obj)} {U:List (Option V)} {H:Hp} {s:Shared} {a:Addr}
theorem C48 (I:B6 X pins U H s) {kvs:List (List C1 × V)} (e:H a=some (.dT kvs)):(a==sysModules)=false/\∃ es ep bs,Z3 s.heap a es ep/\es.size=kvs.length/\es.toList.map (·.key)=bs.map Value.ref/\Paired (λb (p:List C1 × V)=>H b=some (.tup (p.1.map kV))) bs kvs:=by
 obtain ⟨_,y,xs,r,o,es,ep,h1,h2,h3,h4,_⟩:=(show E5 X.prog X.w H s.heap a (.dT kvs) from I.hok a _ e);refine ⟨y,es,ep,xs.map (·.2.1),⟨o,h1,h2,h3⟩,?_,?_,?_⟩
 ·have:es.toList.length=xs.length:=by rw[h4,qf]
  rw[qj] at this;rw[this];exact (Paired.length r).symm
 ·rw[h4,map_map,map_map];rfl
 ·have go:∀ {l:List (List C1 × V)} {m:List (List C1 × Addr × Value)},Paired (λ(p:List C1 × V) (q:List C1 × Addr × Value)=>p.1=q.1/\H q.2.1=some (.tup (p.1.map kV))/\D0 p.2 q.2.2) l m->Paired (λb (p:List C1 × V)=>H b=some (.tup (p.1.map kV))) (m.map (·.2.1)) l:=by
   intro l m r
   induction r with
   | nil=>exact .nil
   | cons h _ ih=>exact .cons h.2.1 ih
  exact go r
theorem B3r (I:B6 X pins U H s) {kvs:List (C1 × V)} (e:Rd H a (.dK kvs)):(a==sysModules)=false/\∃ es ep,Z3 s.heap a es ep/\es.size=kvs.length/\C6 (kvs.map λp=>kV p.1) (es.toList.map (·.key)):=by
 obtain ⟨_,y,vs,r,o,es,ep,h1,h2,h3,_,h5,_⟩:=(show E5 X.prog X.w H s.heap a (.dK kvs) from C3n I.hok e);have hp:∀ {l:List DictEntry} {m:List (C1 × Value)} {n:List (C1 × V)},Pairs (J4 X.prog X.w) l m->KV n m->C6 (n.map λp=>kV p.1) (l.map (·.key)):=by
  intro l m n p
  induction p generalizing n with
  | nil=>intro k;cases k;exact .nil
  | cons g1 g2 _ ih =>
   intro k;cases k with
   | cons q1 q2 =>
    refine .cons ?_ (ih q2);show D0 (kV _) _;rw[q1.1];rcases E9 g1 with ⟨i,t,e1,e2⟩|⟨x,t,e1,e2⟩
    ·rw[e1];exact ⟨t,e2⟩
    ·rw[e1];exact ⟨t,e2⟩
 have v:=hp h5 r;refine ⟨y,es,ep,⟨o,h1,h2,h3⟩,?_,v⟩;have:=v.length;rw[qf,qf,qj] at this;exact this.symm
def D1j:List V->Hp->VK->Prop:=λxs H Q=>∃ a,xs=[.ref a]/\((∃ kvs,Rd H a (.dK kvs)/\∀ l,H l=none->Q (.ref l) (upd H l (.lst (kvs.map λp=>kV p.1)))) \/
 ∃ kvs,H a=some (.dT kvs)/\∀ bs,Paired (λb (p:List C1 × V)=>H b=some (.tup (p.1.map kV))) bs kvs->∀ l,H l=none->Q (.ref l) (upd H l (.lst (bs.map V.ref))))
theorem A2d:∀ bs:List Addr,C6 (bs.map V.ref) (bs.map Value.ref)
 | []=>.nil
 | _::r=>.cons rfl (A2d r)
theorem B4m {X:Cx} (hc:X.calm=true):J2 X (.type "list") D1j:=by
 intro pins s U H xs us Q I r h;obtain ⟨a,rfl,h⟩:=h;obtain ⟨u,rfl,rx⟩:=U0 r;cases rx;have go:∀ (es:Array DictEntry) (ep:Nat) (vs:List V),(a==sysModules)=false->Z3 s.heap a es ep->vs.length<=sizeLine->es.size=vs.length->C6 vs (es.toList.map (·.key))->(∀ l,H l=none->Q (.ref l) (upd H l (.lst vs)))->wpAny (model X.prog X.w) X.A (call (.type "list") [.ref a]) (EP X pins U Q) X.xe s:=by
  intro es ep vs lo hr hz hl hv q;refine kdl_call (B5i (prog:=X.prog) (w:=X.w) (es:=es) (ep:=ep) lo) (I.ok.hd hc) hr (by lia) λh' tk acc' c' k hL hi=>?_;have e:acc'.toList=es.toList.map (·.key):=A06 (by simpa using hi);have hfr:H s.heap.objs.size=none:=I.hok.fresh (qp _);exact ⟨.ref s.heap.objs.size,_,I.laid (t':=tk) k (qp _) (show E5 X.prog X.w _ _ _ (.lst vs) from ⟨hz,acc'.toList,c',by rw[e];exact hv,by simpa using hL⟩),rfl,q _ hfr⟩
 rcases h with ⟨kvs,e,q⟩|⟨kvs,e,q⟩
 ·obtain ⟨lo,es,ep,h1,h2,h3⟩:=B3r I e;have hz:=(A5a I.hok e).1;exact go es ep _ lo h1 (by rw[qf];exact hz) (by rw[h2,qf]) h3 q
 ·obtain ⟨lo,es,ep,bs,h1,h2,h3,h4⟩:=C48 I e;have hz:=(B9a I.hok e).1;have hb:=Paired.length h4;exact go es ep _ lo h1 (by rw[qf,hb];exact hz) (by rw[h2,qf,hb]) (by rw[h3];exact A2d bs) (q bs h4)
end
end L2
namespace DL
open L2
section
variable {K:W.Frag}
theorem B6l (k:C1):flat (E3 k)=true:=by cases k<;>rfl
theorem C9r (k:C1):Dn K H (kV k) (E3 k):=by
 cases k with
 | inl i=>exact .int i
 | inr x=>exact .str x
def A73 (es:List (C1 × D)):List D:=es.map λp=>E3 p.1
theorem B1f (es:List (C1 × D)):flats (A73 es)=true:=M4.mpr λd hd=>by
 obtain ⟨p,_,rfl⟩:=zg.mp hd;exact B6l _
end
end DL
namespace L2
open PySem.W PySem.Calls
section
variable {prog:Program} {w:World} {A:Around} {E:Value->Shared->Prop} {s:Shared} {d:Addr} {es:Array DictEntry} {ep:Nat}
theorem A64 (hd:(d==sysModules)=false):MeetsIn prog w (Builtin.«dict.__len__» ⟨[.ref d],[]⟩) (λ_ R s=>Z3 s.heap d es ep/\R (.ok (.ret (.int es.size s.toks))) { s with toks:=s.toks+1 }) :=
 .of_wp λA R s ⟨hm,h⟩=>by
  obtain ⟨o,ho,hc,hdat⟩:=hm;show wpAny _ _ (dictSize d >>= _) _ _ s;unfold dictSize;refine qb (qb (wpAny_dictEntries ho hdat (qc ?_)));show wpAny _ _ (Builtin.Dict.pendingCount d >>= _) _ _ s;refine qb (wpAny_pendingCount_other hd ?_);refine wpAny_ret_mkInt ?_;rw[Nat.add_zero];exact h
theorem B4t {Q:Value->Shared->Prop} (hd:(d==sysModules)=false) (hm:Z3 s.heap d es ep) (hfit:(es.size:Int) < 2 ^ 63)
  (h:Q (.int es.size (s.toks+1)) { s with toks:=s.toks+1+1 }):wpAny (model prog w) A (call (.builtin "len") [.ref d]) Q E s:=by
 refine Calls.call_function_entry kind_len plain_len entry_len (args_len1 _) ?_;unfold Builtin.«len»;refine qb (m:=oneArg "len" _) (qc ?_);refine qb (m:=callSpecial? (.ref d) (Str.ofString "__len__")) (wpAny_callSpecial?_slot (name:=Str.ofString "__len__") hm.ty F.slot_dict_len
  (call_meetsIn F.slot_dict_len hm.ty F.entry_dict_len (F.args_dict_len_1 _) (A64 (es:=es) (ep:=ep) hd) ⟨hm,?_⟩))
 show wpAny _ _ _ _ _ { s with toks:=s.toks+1 };refine qb (wpAny_holding (qc ?_));refine qb (wpAny_letGo ?_);show wpAny _ _ (if ((es.size:Nat):Int) < 0 then _ else _) _ _ _;rw[qo (by lia)];show wpAny _ _ (if ((es.size:Nat):Int) ≥ 2 ^ 63 then _ else _) _ _ _;rw[qo (by lia)];exact qb (wpAny_mkInt (qc ⟨_,rfl,h⟩))
end
def D25:List V->Hp->VK->Prop:=λxs H Q=>∃ a,xs=[.ref a]/\((∃ kvs,H a=some (.dK kvs)/\Q (.int kvs.length) H)\/∃ kvs,H a=some (.dT kvs)/\Q (.int kvs.length) H)
theorem B3l {X:Cx}:J2 X (.builtin "len") D25:=by
 intro pins s U H xs us Q I r h;obtain ⟨a,rfl,h⟩:=h;obtain ⟨u,rfl,rx⟩:=U0 r;cases rx;rcases h with ⟨kvs,e,q⟩|⟨kvs,e,q⟩
 ·obtain ⟨lo,es,ep,h1,h2,_⟩:=B3r I (.inl e);have hz:=(C1g I.hok e).1;refine B4t lo h1 (by rw[h2];rw[sizeLine_eq] at hz;lia) ?_;exact ⟨.int kvs.length,H,I.tok _,⟨_,by rw[h2]⟩,q⟩
 ·obtain ⟨lo,es,ep,bs,h1,h2,_⟩:=C48 I e;have hz:=(B9a I.hok e).1;refine B4t lo h1 (by rw[h2];rw[sizeLine_eq] at hz;lia) ?_;exact ⟨.int kvs.length,H,I.tok _,⟨_,by rw[h2]⟩,q⟩
end L2
namespace DL
open L2
variable {d:D}
section
variable {X:Cx} {K:W.Frag} {E:XK}
def C9p:FA:=λds _ Q=>(∃ es,ds=[dTD es]/\Q (.int es.length) .old)\/∃ es,ds=[K8 es]/\Q (.int es.length) .old
theorem A0i:DCl X K (.builtin "len") C9p:=⟨_,B3l,λZ ν Hs H xs ds k Qf Q hl hn hs h g q=>by
 rcases g with ⟨es,rfl,g⟩|⟨es,rfl,g⟩
 ·obtain ⟨v,rfl,h1⟩:=Y9 h.dens;obtain ⟨a,kvs,rfl,e,p⟩:=B4y h1;exact ⟨a,rfl,.inr ⟨kvs,e,by rw[p.length];exact q _ _ _ _ g (A9.refl H) (.int _)⟩⟩
 ·obtain ⟨v,rfl,h1⟩:=Y9 h.dens;obtain ⟨a,kvs,rfl,e,p⟩:=Z9 h1;exact ⟨a,rfl,.inl ⟨kvs,e,by rw[p.length];exact q _ _ _ _ g (A9.refl H) (.int _)⟩⟩⟩
variable {O:C4} {Q:QD} {Xd:XD} {k:Kd} {te td:TD} {tk:TKy} {es:List (List C1 × D)} {eK:List (C1 × D)} {i:Nat} {Dd:N5}
theorem C5c (h:Q (.int eK.length) .old):C9p [K8 eK] k Q:=.inr ⟨eK,rfl,h⟩
theorem D3o (h:Q (K8 []) (.own [])):C9g false O Q Xd:=h
def D6a (Q:A33->Prop):QD:=λd _=>∃ k,d=E3 k/\Q (.inl k)
theorem D66 {Q:A33->Prop} (h:te O (D6a Q) Xd):kyS te O Q Xd:=h
theorem D46 {Q:A33->Prop} {x:Str} (h:Q (.inl (.inr x))):D6a Q (.str x) k:=⟨.inr x,rfl,h⟩
def D68 (f:Bool->Bool) (td:TD) (O:C4) (Q:QD) (Xd:XD):A33->Prop:=λk=>td O (λd _=>C3i d k λb=>Q (.bool (f b)) .old) Xd
theorem D7x {f:Bool->Bool} (h:tk O (D68 f td O Q Xd) Xd):C69 f tk td O Q Xd:=h
theorem D0n {f:Bool->Bool} {kr:A33} (h:td O (λd _=>C3i d kr λb=>Q (.bool (f b)) .old) Xd):D68 f td O Q Xd kr:=h
theorem D35 {kk:C1} {C:Bool->Prop} (h:C (look eK kk).isSome):C3i (K8 eK) (.inl kk) C:=.inl ⟨eK,kk,rfl,rfl,h⟩
def D0i (i:Nat) (tk:TKy) (Dd:N5) (O:C4) (Xd:XD):QD:=λd _=>(Y8 d).isSome=true/\∃ x,O[i]?=some (some (true,x))/\tk O (λk=>B63 x k d λy=>Dd.nx (O.set i (some (true,y)))) Xd
theorem D1n (h:te O (D0i i tk Dd O Xd) Xd):C9a i tk te Dd O Xd:=h
theorem C8f {x:D} {k:Kd} (h1:(Y8 d).isSome=true) (h2:O[i]?=some (some (true,x))) (h:tk O (λk=>B63 x k d λy=>Dd.nx (O.set i (some (true,y)))) Xd):D0i i tk Dd O Xd d k:=⟨h1,x,h2,h⟩
theorem C5w {kk:C1} {C:D->Prop} (h:eK.length < 1000000/\C (K8 (A0z eK kk d))):B63 (K8 eK) (.inl kk) d C:=.inl ⟨eK,kk,rfl,rfl,h⟩
section
variable {pos:Pos} {i o:Expr}
theorem B67 (hu:X.A.units+1 < cLine) (hi:DKy X K E i tk) (ho:DE X K E o td) (hm:behindInMarks .In o=false):DT X K E (.Compare i [.In] [o] pos) (dB (C69 id tk td)) :=
 ⟨X9 (B52 hu hi.q ho.q hm) λU H Q h=>C3u (i:=i) id C4e (λ_ _ _ _ _ h=>h) U H _ (C0l h)⟩
theorem A4o (hu:X.A.units+1 < cLine) (hi:DKy X K E i tk) (ho:DE X K E o td) (hm:behindInMarks .NotIn o=false):DT X K E (.Compare i [.NotIn] [o] pos) (dB (C69 not tk td)) :=
 ⟨X9 (A4p hu hi.q ho.q hm) λU H Q h=>C3u (i:=i) not A4b (λ_ _ _ _ _ h=>h) U H _ (C0l h)⟩
end
end
section
variable {O:C4} {i:Nat} {s:List Nat} {eK:List (C1 × D)}
theorem C5l:flat (K8 eK)=false:=rfl
theorem B7b:setK O i (K8 eK) (.own s)=(E6 O s).set i (some (true,K8 eK)):=rfl
theorem B70:setK O i (K8 eK) .old=O.set i (some (false,K8 eK)):=rfl
theorem B8v:setK O i (K8 eK) .mix=(frz O).set i (some (false,K8 eK)):=rfl
end
structure A9h (mg:Str->Option Value) (x:Str) (i:Int):Prop where
 ex:∃ t,mg x=some (.int i t)
structure A9y (K:W.Frag) (mg:Str->Option Value) (x:Str) (ds:List D):Prop where
 ex:∃ a,mg x=some (.ref a)/\∀ H,Dn K H (.ref a) (.tuple ds)
def scD:Value->Option D
 | .none=>some .none
 | .bool b=>some (.bool b)
 | .int i _=>some (.int i)
 | .str x _=>some (.str x)
 | _=>Option.none
def B8n:List Value->Option (List D)
 | []=>some []
 | v::r=>match scD v,B8n r with
  | some d,some ds=>some (d::ds)
  | _,_=>Option.none
section
variable {X:Cx} {K:W.Frag} {E:XK} {pos:Pos} {x:Str}
theorem D1b {v:Value} (h:scD v=some d):∃ u,D0 u v/\Dn K H u d:=by
 cases v<;>simp[scD] at h<;>subst h
 ·exact ⟨.non,rfl,.non⟩
 ·exact ⟨.bl _,rfl,.bl _⟩
 ·exact ⟨.int _,⟨_,rfl⟩,.int _⟩
 ·exact ⟨.str _,⟨_,rfl⟩,.str _⟩
theorem B1x:∀ {vs:List Value} {ds:List D},B8n vs=some ds->∃ us,C6 us vs/\Dns K H us ds
 | [],_,h=>by cases h;exact ⟨[],.nil,.nil⟩
 | v::r,ds,h=>by
  unfold B8n at h;cases e1:scD v with
  | none=>rw[e1] at h;cases h
  | some d =>
   cases e2:B8n r with
   | none=>rw[e1,e2] at h;cases h
   | some l =>
    rw[e1,e2] at h;cases h;obtain ⟨u,h1,h2⟩:=D1b (K:=K) (H:=H) e1;obtain ⟨us,h3,h4⟩:=B1x e2;exact ⟨u::us,.cons h1 h3,.cons h2 h4⟩
variable {ds:List D}
theorem C84 {mg:Str->Option Value} {a:Addr} {o:Obj} {its:Array Value} {n:Nat} (hm:mg x=some (.ref a)) (h1:K.lookup a=some o) (h2:o.cls=.type "tuple") (h3:o.data=.seq its n) (h4:its.size<=1000) (h5:B8n its.toList=some ds):A9y K mg x ds :=
 ⟨a,hm,λH=>by
  obtain ⟨us,r,d⟩:=B1x (K:=K) (H:=H) h5;exact .tup (.inr ⟨o,its,n,h1,h2,h3,zn h4 (by decide),r⟩) d⟩
theorem A27 {i:Int} (G:A9h X.mg x i) (hg:Gl X x) (hd:noD x:=by decide):DE X K E (.Name x pos) (dC (.int i)):=by
 obtain ⟨t,hm⟩:=G.ex;exact B09 (⟨A8l hg hm (v:=.int i) ⟨t,rfl⟩ hd⟩:QE X (.Name x pos) (tC (.int i))) λ_=>.int _
theorem V6 (G:A9y K X.mg x ds) (hg:Gl X x) (hd:noD x:=by decide):DE X K E (.Name x pos) (dC (.tuple ds)):=by
 obtain ⟨a,hm,h⟩:=G.ex;refine ⟨C9 (⟨A8l hg hm (v:=.ref a) rfl hd⟩:QE X (.Name x pos) (tC (.ref a))) λU H Q h'=>?_⟩;obtain ⟨H0,ν,O,Qd,Xd,S,h1,q,_⟩:=h';exact q _ _ (.ref a) H h1 (A9.refl H) (h _)
end
end DL
namespace L2
end L2
namespace DL
open L2
section
theorem B3b {ds es:List D} {k l:Kd} (h:(flats ds&&flats es)=true):A01 ds k es l=.own []:=by unfold A01;rw[qm h]
end
section
variable {O:C4} {d:D} {q:Nat}
def lk (q:Nat) (d:D) (O:C4):C4:=(frz O).set q (some (false,d))
end
end DL
namespace L2
section
variable {P:Program} {w:World} {A:Around} {R:Result->Shared->Prop} {it bx:Addr} {fp wr:List Addr} {n:Nat} {V0:Nat->Value->Prop} {St:Nat->Heap->Prop} {bt:Nat->Nat->Bool} {dv:Value}
abbrev C3f (it bx:Addr) (dv:Value):Args:=⟨[.ref it,.none,.ref bx],[("default",dv)]⟩
abbrev C9b (us:Array Value) (c:Nat):Obj:={ cls:=.type "list",dict:=none,data:=.seq us c,slots:=#[] }
theorem B5w:(toString "max"++toString ".loop":String)="max.loop":=by decide
theorem C02 (W:Walks P w A.in1 it fp wr n V0 St) (hc:CmpOf P w A.in1 .Gt V0 bt) (hb:bx∉fp) :
  ∀ (r j:Nat) (s:Shared) (u:Value) (c:Nat),n=j+1+r->St (j+1) s.heap->V0 (argBest bt j) u->s.heap.get? bx=some (C9b #[u,u] c) ->
  (∀ v h' tk,V0 (argBest bt (n - 1)) v->(∀ b o,b∉wr->b≠bx->s.heap.get? b=some o->h'.get? b=some o)->R (.ok (.ret v)) { s with heap:=h',toks:=tk }) ->
  codeAny (model P w) A (.builtin "max.loop" (C3f it bx dv)) R s
 | 0,j,s,u,c,hn,st,hu,hx,hR=>by
  have hw:bx∉wr:=λh=>hb (W.sub _ h);refine codeAny_builtin PySem.F.entry_max_loop ?_;rw[Around.under_plainId PySem.F.plain_max_loop _];show wpAny _ A.in1 (seqItems? (.ref bx) >>= _) _ _ s;refine qb (wpAny_seqItems hx rfl ?_);show wpAny _ A.in1 (tryCatch (pyNext (.ref it)) _ >>= _) _ _ s;refine qb (wpAny_tryCatch (W.done s _ _ (by rw[hn];exact st) λh' tk kk=>?_));show wpAny _ A.in1 (updateSeq bx (λ_=>#[]) >>= _) _ _ _;refine qb (wpAny_updateSeq (kk bx _ hw hx) rfl (qb (wpAny_letGo (qc ?_))));exact hR u _ tk (by rw[hn];exact hu) λb o h1 h2 e=>(zt _ _ (Ne.symm h2)).trans (kk b o h1 e)
 | r+1,j,s,u,c,hn,st,hu,hx,hR=>by
  have hw:bx∉wr:=λh=>hb (W.sub _ h);refine codeAny_builtin PySem.F.entry_max_loop ?_;rw[Around.under_plainId PySem.F.plain_max_loop _];show wpAny _ A.in1 (seqItems? (.ref bx) >>= _) _ _ s;refine qb (wpAny_seqItems hx rfl ?_);show wpAny _ A.in1 (tryCatch (pyNext (.ref it)) _ >>= _) _ _ s;refine qb (wpAny_tryCatch (W.item (j+1) s _ _ (by lia) st λv h' tk hv st' kk=>?_));have hx':=kk bx _ hw hx;show wpAny _ A.in1 (tryCatch (holding [v,v] (richCompare .Gt v u >>= _)) _ >>= _) _ _ _;refine qb (wpAny_tryCatch (wpAny_holding (qb (hc (j+1) (argBest bt j) v u _ _ _ hv hu ?_))));refine qb (wpAny_holding (wpAny_truthy_bool (qb (wpAny_letGo (qc ?_)))));cases hq:bt (j+1) (argBest bt j) with
  | true =>
   simp only[if_true];refine qb (wpAny_updateSeq hx' rfl (qb (wpAny_letGo ?_)));rw[B5w];refine qc ⟨plainId_quiet PySem.F.plain_max_loop _,C02 W hc hb r (j+1) _ v _ (by lia) (W.frame _ _ _ st' λb hbf o e=>?_) (by simp only[argBest,hq,if_true];exact hv) (Heap.get?_update_self _ hx' rfl) λv2 h2 tk2 a1 a2=>?_⟩
   ·exact (zt _ _ (λh:bx=b=>hb (by rw[h];exact hbf))).trans e
   ·exact hR v2 h2 tk2 a1 λb o e1 e2 e=>a2 b o e1 e2 ((zt _ _ (Ne.symm e2)).trans (kk b o e1 e))
  | false =>
   simp only[zo,if_false];refine qb (wpAny_letGo ?_);rw[B5w];refine qc ⟨plainId_quiet PySem.F.plain_max_loop _,C02 W hc hb r (j+1) _ u c (by lia) st' (by simp only[argBest,hq,zo,if_false];exact hu) hx' λv2 h2 tk2 a1 a2=>?_⟩;exact hR v2 h2 tk2 a1 λb o e1 e2 e=>a2 b o e1 e2 (kk b o e1 e)
theorem D4u (W:Walks P w A.in1 it fp wr n V0 St) (hc:CmpOf P w A.in1 .Gt V0 bt) (hb:bx∉fp) {s:Shared} {c:Nat} (st:St 0 s.heap) (hx:s.heap.get? bx=some (C9b #[] c))
  (hR:∀ v h' tk,(n=0/\v=dv\/0 < n/\V0 (argBest bt (n - 1)) v)->(∀ b o,b∉wr->b≠bx->s.heap.get? b=some o->h'.get? b=some o)->R (.ok (.ret v)) { s with heap:=h',toks:=tk }) :
  codeAny (model P w) A (.builtin "max.loop" (C3f it bx dv)) R s:=by
 have hw:bx∉wr:=λh=>hb (W.sub _ h);refine codeAny_builtin PySem.F.entry_max_loop ?_;rw[Around.under_plainId PySem.F.plain_max_loop _];show wpAny _ A.in1 (seqItems? (.ref bx) >>= _) _ _ s;refine qb (wpAny_seqItems hx rfl ?_);show wpAny _ A.in1 (tryCatch (pyNext (.ref it)) _ >>= _) _ _ s;by_cases hn:n=0
 ·refine qb (wpAny_tryCatch (W.done s _ _ (by rw[hn];exact st) λh' tk kk=>?_));refine qb (wpAny_rule (qc ?_));exact hR dv h' tk (.inl ⟨hn,rfl⟩) λb o h1 _ e=>kk b o h1 e
 ·refine qb (wpAny_tryCatch (W.item 0 s _ _ (by lia) st λv h' tk hv st' kk=>?_));have hx':=kk bx _ hw hx;show wpAny _ A.in1 (updateSeq bx (λ_=>#[v,v]) >>= _) _ _ _;refine qb (wpAny_updateSeq hx' rfl ?_);rw[B5w];refine qc ⟨plainId_quiet PySem.F.plain_max_loop _,C02 W hc hb (n - 1) 0 _ v _ (by lia) (W.frame _ _ _ st' λb hbf o e=>?_) hv (Heap.get?_update_self _ hx' rfl) λv2 h2 tk2 a1 a2=>?_⟩
  ·exact (zt _ _ (λh:bx=b=>hb (by rw[h];exact hbf))).trans e
  ·exact hR v2 h2 tk2 (.inr ⟨by lia,a1⟩) λb o e1 e2 e=>a2 b o e1 e2 ((zt _ _ (Ne.symm e2)).trans (kk b o e1 e))
end
theorem B7p (a v:Value):argsOk "max" ⟨[a],[(Str.ofString "default",v)]⟩:=by unfold argsOk;kernel_rfl
variable {Q:Value->Shared->Prop}
theorem C3v {w:World} {A:Around} {s:Shared} {l:Addr} {xs:Array (Int × Tok)} {dv:Value} (hh:A.handled=none) (hl:s.heap.IsList l (intItems xs))
  (h:∀ v h' tk,(xs.size=0/\v=dv\/0 < xs.size/\(intItems xs)[argBest (λi j=>decide (numAt xs i > numAt xs j)) (xs.size - 1)]?=some v)->(∀ b o,s.heap.get? b=some o->h'.get? b=some o)->Q v {s with heap:=h',toks:=tk }) :
  wpAny (model P w) A (call (.builtin "max") [.ref l] [(Str.ofString "default",dv)]) Q E s:=by
 refine kmk_tree PySem.F.kind_max PySem.F.plain_max PySem.F.entry_max (B7p _ _) ?_;show wpAny _ A.in1 (Builtin.Builtins.bindParams "max" ["key","default"] 0 ⟨[],[(Str.ofString "default",dv)]⟩ >>= _) _ _ s;refine qb (wpAny_of_eq (show Builtin.Builtins.bindParams "max" ["key","default"] 0 ⟨[],[(Str.ofString "default",dv)]⟩=pure [none,some dv] from rfl) ?_);refine qb (qc (qb (iter_intList hl λs2 e st hfp hlI=>?_)));subst e;refine qb (wpAny_newObj_type ?_);have W:=Walks.list (prog:=P) (w:=w) (A:=A.in1) hh s.heap.objs.size l hlI (intItems xs);have sz:(intItems xs).size=xs.size:=by simp[intItems]
 rw[B5w];refine qc ⟨plainId_quiet PySem.F.plain_max_loop _,D4u W (CmpOf.ints_gt (numAt xs) λ_ _=>intItems_at) (λhm=>Nat.lt_irrefl _ (hfp _ hm)) (W.frame _ _ _ st λb _ o e=>qa _ e) (ql _ rfl) λv h' tk hv kk=>?_⟩;rw[sz] at hv;exact h v h' tk hv (old_kept λb o hb e=>kk b o hb (ze (qi e)) (qa _ e))
section
variable {X:Cx}
def C9t (K:W.Frag) (d:Int) (t:TA):TE:=λU H Q=>t U H λxs H1=>∃ (a:Addr) (ns:List Int),xs=[.ref a]/\O5 K H1 a (ns.map V.int)/\∀ M,(ns=[]->M=d)->(ns≠[]->M∈ns/\∀ x∈ns,x<=M)->Q (.int M) H1
theorem C4v (K:W.Frag) (hK:X.K=K) (hc:X.calm=true) {e:Expr} {t:TA} {d:Int} {p pos kp:Pos} {j} (hg:Gl X "max") (hm:X.mg "max"=none) (ha:PA X [e] t)
  (he:backTo pos (starEach [e] X.env)=(false,eval e X.env)::backTo pos (starEach [] X.env):=by rfl) (hplain:(backTo pos (starEach [e] X.env)).any (·.1)=false:=by rfl):PE X (.Call (.Name "max" p) [e] [⟨some "default",.Constant (.int d) j cp,kp⟩] pos) (C9t K d t):=by
 subst hK;intro pins s U H Q I h;refine wpAny_Call_Name_kw (A5z I hg hm boot_max ?_ (by decide) (by decide));refine callWith_kw (E1 (ha pos pins s U H _ I h) λus s1 ⟨vs,H1,I1,r,q⟩=>kws_cons (wpAny_Constant_int (kws_nil ?_))) he hplain;obtain ⟨a,ns,rfl,hq,q⟩:=q;obtain ⟨u,rfl,r1⟩:=U0 r;cases r1;have I2:=I1.tok (s1.toks+1);obtain ⟨its,rv,pl,hz⟩:=I2.list hq;have hi:=A19 rv;obtain ⟨zs,ez⟩:=hi.allInts.items;have hl:=pl.isList;rw[ez] at hl;have e3:ns=zs.toList.map (λx=>x.1):=by
  have e2:=hi.numsOf;have e3:=nums_intItems (xs:=zs);rw[<-ez] at e3;exact e2.symm.trans e3
 have hlen:ns.length=zs.size:=by rw[e3,qf,qj]
 refine C3v (I2.ok.hd hc) hl λv h' tk hv hk=>?_;rcases hv with ⟨h0,rfl⟩|⟨h0,hv⟩
 ·exact ⟨.int _,H1,I2.kept hk,⟨_,rfl⟩,q _ (λ_=>rfl) λz=>absurd (List.eq_nil_of_length_eq_zero (by lia)) z⟩
 ·obtain ⟨t,rfl⟩:=intItems_at hv;obtain ⟨h1,h2⟩:=argBest_gt (numAt zs) (zs.size - 1);refine ⟨.int _,H1,I2.kept hk,⟨_,rfl⟩,q _ (λz=>by rw[z] at hlen;simp at hlen;lia) λ_=>⟨?_,λx hx=>?_⟩⟩
  ·rw[e3,numAt_eq];exact getD_mem (by rw[qf,qj];lia)
  ·rw[e3] at hx;obtain ⟨j,hj,rfl⟩:=mem_getD hx;rw[qf,qj] at hj;rw[<-numAt_eq];exact h2 j (by lia)
end
open HT
section
variable {prog:Program} {w:World} {A:Around} {E:Value->Shared->Prop} {s:Shared}
theorem A2i {t sl:Addr} {lo hi:Option Int} (ht:IsTup s.heap t items) (hs:s.heap.IsSliceOf sl vl vu .none) (pl:IsPart vl lo) (pu:IsPart vu hi)
  (hw:sIx items.size 0 lo=0/\sIx items.size items.size hi=items.size) (h:Q (.ref t) s):wpAny (model prog w) A (getItem (.ref t) (.ref sl)) Q E s:=by
 obtain ⟨os,hos,hcs,hds⟩:=id hs;have hTs:s.TypeIs (.ref sl) "slice":=⟨os,hos,hcs⟩;unfold getItem
 try with_reducible refine wpAny_holding ?_
 first|refine qb (qc ?_)|skip
 refine qb (wpAny_sequenceKey ht.typeIs (by decide) ?_);refine qb (wpAny_callSpecial?_slot (name:=Str.ofString "__getitem__") ht.typeIs PyProof.Rows.slot_tuple_getitem
  (wpAny_call_entry PyProof.Rows.slot_tuple_getitem ht.typeIs entry_tuple_getitem ?_ (args_tuple_getitem _ _)))
 show wpAny _ _ (Builtin.Tuple.tupleItemsOf (.ref t) >>= _) _ _ s;refine qb (tupleItemsOf_ ht ?_);refine qb (wpAny_typeOf hTs ?_);rw[qm (by decide)];refine qb (W5 hs pl pu ?_);have hyes:(((sIx items.size 0 lo:Nat):Int)==0&&(1:Int)==1&&(sIx items.size items.size hi - sIx items.size 0 lo)==items.size)=true:=by
  rw[hw.1,hw.2];simp
 show wpAny _ _ (if (((sIx items.size 0 lo:Nat):Int)==0&&(1:Int)==1&&(sIx items.size items.size hi - sIx items.size 0 lo)==items.size)=true then _ else _) _ _ s;rw[qm hyes];refine qb (qb (wpAny_typeOf ht.typeIs (qc ?_)));rw[qm (by decide)];exact qb (wpAny_rule (qc ⟨_,rfl,qc h⟩))
end
section
variable {X:Cx}
def E1z (K:W.Frag):V->Option Int->Option Int->Hp->VK->Prop:=λx lo hi H Q=>∃ a xs,x=.ref a/\V2 K H a xs/\(HT.sIx xs.length 0 lo=0/\HT.sIx xs.length xs.length hi=xs.length)/\Q (.ref a) H
theorem D3z:SlR X (E1z X.K):=by
 intro pins s U H x v vl vu lo hi sl Q I rx hs pl pu h;obtain ⟨a,xs,rfl,hx,hw,q⟩:=h;cases rx;obtain ⟨its,r,ht,hz⟩:=I.tuple hx;have hlen:its.toArray.size=xs.length:=by rw[size_toArray];exact r.length.symm
 exact ⟨"tuple",_,PyProof.Rows.slot_tuple_getitem.lookup,ht.typeIs,A2i ht hs pl pu (by rw[hlen];exact hw) ⟨.ref a,H,I,rfl,q⟩⟩
end
end L2
namespace DL
open L2
variable {e:Expr} {d:Int} {Q:QD}
section
variable {X:Cx} {K:W.Frag} {E:XK} {pos:Pos}
def D7n:F3:=λd _ lo hi Q=>match d with
 | .tuple ds=>flats ds=true/\Q (.tuple (A0x ds lo hi)) .old
 | _=>False
theorem R8 {lo hi:Option Expr} {te:TD} {tl th:TDO} {p2:Pos} (hK:X.K=K) (he:DE X K E e te) (hl:DO X K E lo tl) (hu:DO X K E hi th):DE X K E (.Subscript e (.Slice lo hi none p2) pos) (dSl D7n te tl th):=⟨by
 subst hK;refine C9 (A2s (D3z.or D2l) he.q hl.q hu.q) λU H Q h=>?_;obtain ⟨H0,ν,O,Qd,Xd,S,h1,q,x⟩:=h;refine ⟨H0,ν,O,_,Xd,S,h1,λd k v H1 g1 e1 r1=>?_,x⟩;refine ⟨H0,ν,O,_,Xd,S.same e1,g1,λl H2 g2 e2=>?_,x⟩;refine ⟨H0,ν,O,_,Xd,S.same (e1.trans e2),g2,λu H3 g3 e3=>?_,x⟩;have e03:=(e1.trans e2).trans e3;have hl3:=(S.same e03).hl;have r3:=((r1.den).same e2).same e3;cases d with
 | tuple ds =>
  obtain ⟨hf,g3⟩:=g3;cases r3 with
  | @tup a us _ ht hd =>
   by_cases hw:HT.sIx us.length 0 l=0/\HT.sIx us.length us.length u=us.length
   ·refine .inl ⟨a,us,rfl,ht,hw,q _ _ _ _ g3 e03 ?_⟩;have e:A0x ds l u=ds:=by
     unfold A0x;rw[<-hd.length,hw.1,hw.2,drop_zero,Nat.sub_zero,List.take_of_length_le (by rw[hd.length];exact qp _)]
    rw[e];exact A0n hl3 (.tup ht hd) hf
   ·refine .inr ⟨a,us,rfl,ht,hw,λp hp=>q _ _ _ _ g3 (e03.trans (A9.new hp)) ?_⟩;have hd':Dns X.K (upd H3 p (.tup (A67 us l u))) (A67 us l u) (A0x ds l u):=by
     unfold A67 A0x;rw[hd.length];exact (((hd.same (A9.new hp))).drop _).take _
    have hf':flats (A0x ds l u)=true:=M4.mpr λd hd=>M4.mp hf d (mem_of_mem_drop (mem_of_mem_take hd));exact A0n (S.same (e03.trans (A9.new hp))).hl (.tup (.inl (.inl B2)) hd') hf'
 | _=>exact g3.elim⟩
theorem D9q {x:List D} {k:Kd} {lo hi:Option Int} (h:flats x=true/\Q (.tuple (A0x x lo hi)) .old):D7n (.tuple x) k lo hi Q:=h
theorem A5v:∀ bs:List Str,flats (bs.map PyData.str)=true
 | []=>rfl
 | _::r=>by rw[map_cons];exact A5v r
theorem B8d {bs:List Str} {k:Kd}:A1i (bs.map PyData.str) k=.own []:=by unfold A1i;rw[A5v];rfl
def C44 (d:Int):FA:=λds _ Q=>match ds with
 | [.list xs]=>∃ ns,A17 xs=some ns/\∀ M,(ns=[]->M=d)->(ns≠[]->M∈ns/\∀ x∈ns,x<=M)->Q (.int M) .old
 | _=>False
theorem C3d {ta:TDA} {p kp:Pos} {j} (hK:X.K=K) (hc:X.calm=true) (hg:Gl X "max") (hm:X.mg "max"=none) (ha:DA X K E [e] ta) (he:backTo pos (starEach [e] X.env)=(false,eval e X.env)::backTo pos (starEach [] X.env):=by rfl) (hplain:(backTo pos (starEach [e] X.env)).any (·.1)=false:=by rfl) :
  DE X K E (.Call (.Name "max" p) [e] [⟨some "default",.Constant (.int d) j cp,kp⟩] pos) (dCB (C44 d) ta):=⟨C9 (⟨C4v K hK hc hg hm ha.q.h he hplain⟩:QE X _ (C9t K d (LA K E ta))) λU H Q h=>by
 obtain ⟨H0,ν,O,Qd,Xd,S,h1,q,x⟩:=h;refine ⟨H0,ν,O,_,Xd,S,h1,λds k vs H1 g1 e1 r1=>?_,x⟩;unfold C44 at g1;split at g1
 ·obtain ⟨v,rfl,h1⟩:=Y9 r1.dens;obtain ⟨a,us,rfl,g2,g3⟩:=E8 h1;obtain ⟨ns,e,g1⟩:=g1;exact ⟨a,ns,rfl,O5.of (by rw[g2,A4i g3 e]),λM m1 m2=>q _ _ _ _ (g1 M m1 m2) e1 (.int _)⟩
 ·exact g1.elim⟩
theorem D2e {x:List D} {k:Kd} (h:∃ ns,A17 x=some ns/\∀ M,(ns=[]->M=d)->(ns≠[]->M∈ns/\∀ x∈ns,x<=M)->Q (.int M) .old):C44 d [.list x] k Q:=h
end
end DL
namespace L2
section
variable {X:Cx}
def rSw:V->List V->Hp->VK->Prop:=λx vs H Q=>∃ z y,x=.str z/\vs=[.str y]/\Q (.bl (Txt.startswith z y)) H
theorem D7f:MtR X "str.startswith" rSw:=by
 intro pins s U H x vs v us Q I rx rv h;obtain ⟨z,y,rfl,rfl,q⟩:=h;obtain ⟨t,rfl⟩:=rx;obtain ⟨u,rfl,t',rfl⟩:=rv.one;exact SC.startswith ⟨.bl _,H,I,rfl,q⟩
end
end L2
namespace DL
open L2
section
variable {X:Cx} {K:W.Frag} {E:XK} {apos cpos:Pos} {x:Str} {o e:Expr} {to te:TD}
def E2q:FA:=λds _ Q=>match ds with
 | [.str z]=>z.length<=640/\∃ n,PySem.intText? z=some n/\Q (.int n) .old
 | _=>False
def onX (d:D) (Q:Str->Prop):Prop:=match d with
 | .str z=>Q z
 | _=>False
theorem D86 {z:Str} {Q:Str->Prop} (h:Q z):onX (.str z) Q:=h
theorem D2d {d:D} {Q:Str->Prop} (h:onX d Q):∃ z,d=.str z/\Q z:=by
 cases d with
 | str z=>exact ⟨z,rfl,h⟩
 | _=>exact h.elim
structure DMm (X:Cx) (K:W.Frag) (id:String) (g:Str->D->QD->Prop):Prop where
 ex:∃ r,MtR X id r/\∀ (ν:Nat->List Addr) (Hs H:Hp) (z:Str) (v:V) (d:D) (Qf:QD) (Q:VK),(∀ a,Hd Z0 ν a->Mu H a)->A9 Hs H->Dn K H v d->g z d Qf->(∀ d k v H',Qf d k->A9 H H'->T0 K Z0 ν Hs H' k v d->Q v H')->r (.str z) [v] H Q
def dMm (g:Str->D->QD->Prop) (to te:TD):TD:=λO Q Xd=>to O (λd _=>onX d λz=>te O (λe _=>g z e Q) Xd) Xd
theorem D1f {id:String} {g:Str->D->QD->Prop} (hK:X.K=K) (slot:Slot "str" name id) (hty:typeOf (.builtin id)=pure (.type "method_descriptor")) (hm:DMm X K id g) (ho:DE X K E o to) (he:DE X K E e te)
  (hb:attributeBase o name X.env (eval o X.env)=eval o X.env:=by rfl) (hfew:((backTo cpos (starEach [e] X.env)).all (λx=>!x.1)&&(backToKw cpos (keywordEach [] X.env)).all (λx=>x.1.isSome)&&decide (([e]:List Expr).length+([]:List Keyword).length+(if ([]:List Keyword).isEmpty then 0 else 1) < 30))=true:=by rfl) (hline:(apos.endLine==cpos.line)=true:=by rfl) (hs:starEach [e] X.env=(false,eval e X.env)::starEach [] X.env:=by rfl) (hplain:(backTo cpos (starEach [] X.env)).any (·.1)=false:=by rfl) :
  DE X K E (.Call (.Attribute o name apos) [e] [] cpos) (dMm g to te):=by
 obtain ⟨r,hr,p⟩:=hm.ex;refine ⟨C9 (⟨D03 PySem.F.plainAttrs_str slot hty hr ho.q.h (K0 he.q T8 hs).h hb hfew hline hs hplain⟩:QE X _ _) λU H Q h=>?_⟩;obtain ⟨H0,ν,O,Qd,Xd,S,h1,q,x⟩:=h;refine ⟨H0,ν,O,_,Xd,S,h1,λd k u H1 g1 e1 r1=>?_,x⟩;obtain ⟨z,rfl,g1⟩:=D2d g1;have hu:=r1.den;cases hu;refine ⟨rfl,H0,ν,O,_,Xd,S.same e1,g1,λd2 k2 v H2 g2 e2 r2=>?_,x⟩;exact p ν H H2 z v d2 Qd Q (S.same (e1.trans e2)).hl (e1.trans e2) r2.den g2 λd3 k3 v3 H3 a1 a2 a3=>q d3 k3 v3 H3 a1 ((e1.trans e2).trans a2) a3
def gSw:Str->D->QD->Prop:=λz d Q=>match d with
 | .str y=>Q (.bool (Txt.startswith z y)) .old
 | _=>False
theorem D1k:DMm X K "str.startswith" gSw:=⟨_,D7f,λν Hs H z v d Qf Q hl e h g q=>by
 unfold gSw at g;split at g
 ·cases h;exact ⟨z,_,rfl,rfl,q _ _ _ _ g (A9.refl H) (.bl _)⟩
 ·exact g.elim⟩
variable {O:C4} {Q:QD} {Xd:XD} {k:Kd} {z y:Str} {ds:List D} {n:Nat}
theorem E25 {g:Str->D->QD->Prop} (h:to O (λd _=>onX d λz=>te O (λe _=>g z e Q) Xd) Xd):dMm g to te O Q Xd:=h
theorem E0n (h:Q (.bool (Txt.startswith z y)) .old):gSw z (.str y) Q:=h
end
end DL
namespace L2
open HT
end L2
namespace DL
open L2
end DL
namespace L2
end L2
namespace DL
open L2
end DL
namespace L2
open PySem.W PySem.Calls
section
variable {X:Cx} {pins:List (Addr × Obj)} {U:St} {H:Hp} {s:Shared} {a:Addr} {v:V} {u r:Value} {A:Around} {E:Value->Shared->Prop}
theorem A6o {kvs:List (C1 × V)} {k:C1} {Q:Unit->Shared->Prop} (I:B6 X pins U H s) (e:H a=some (.dK kvs)) (l:kvs.length < sizeLine) (ry:D0 (kV k) u) (rv:D0 v r) (h:∀ s',B6 X pins U (upd H a (.dK (S4 kvs k v))) s'->Q () s') :
  wpAny (model X.prog X.w) A (dictSet a u r) Q E s:=by
 obtain ⟨z,hd,vs,rel,dd⟩:=C1g I.hok e;have hz:vs.length<=sizeLine:=by rw[<-rel.length];exact z
 have hl:(S4 kvs k v).length<=sizeLine:=by have:=A00 kvs k v;lia
 refine wpAny_dictSet_pairs (hsz:=hz) (A77 ry) dd λh' dd' hs=>h _ ?_;have he:∃ q,h'.get? a=some q:=let ⟨q,_,_,hq,_⟩:=dd';⟨q,hq⟩
 exact A7u I (by rw[e];exact True.intro) hs he (C0y hl hd (rel.put k rv) dd')
end
section
variable {acc:Addr}
def B3f (acc:Addr) (tk tv:TE):TS:=λD U H=>tk U H λk H1=>tv U H1 λv H2=>∃ kvs k',k=kV k'/\H2 acc=some (.dK kvs)/\kvs.length < sizeLine/\D.nx U (upd H2 acc (.dK (S4 kvs k' v)))
end
end L2
namespace DL
open L2
def Q2 (es:List (C1 × D)):List C1->List (C1 × D)
 | []=>es
 | k::r=>Q2 (A0z es k (.bool true)) r
theorem A6w:∀ (ks:List C1) (es:List (C1 × D)),(Q2 es ks).length<=es.length+ks.length
 | [],es=>qp _
 | a::r,es=>by
  have:=A6w r (A0z es a (.bool true));have:=C10 es a (.bool true);rw[Q2,length_cons];lia
end DL
namespace L2
open PySem.W PySem.Calls
variable {scope:Scope} {pos:Pos} {it:Value} {env:Env} {tg:Expr} {X:Cx}
section
variable {prog:Program} {w:World} {A:Around} {R:Result->Shared->Prop} {s:Shared}
theorem B1a {acc:Addr} (I:Nat->Shared->Prop)
  (turn:∀ n s,I n s->wpAny (model prog w) A (pyNext it) (λr s₁=>match r with
   | none=>R (.ok .next) s₁
   | some v=>wpAny (model prog w) A (letOwnedTupleGo target it v) (λ_ s₁'=>wpAny (model prog w) A (assign target env v) (λ_ s₂ =>
     wpAny (model prog w) A (forIn ifs true λc r=>if r=true then do let ok <- isTrue c env (eval c env);pure (ForInStep.yield ok) else pure (ForInStep.yield r)) (λok s₃=>if ok=true then
      wpAny (model prog w) A (eval ke env) (λkv s₃=>wpAny (model prog w) A (eval ve env) (λvv s₄=>wpAny (model prog w) A (dictSet acc kv vv) (λ_ s₅=>∃ m,m < n/\I m s₅) (λ_ _=>False) s₄) (λ_ _=>False) s₃) (λ_ _=>False) s₃
      else ∃ m,m < n/\I m s₃) (λ_ _=>False) s₂) (λ_ _=>False) s₁') (λ_ _=>False) s₁) (λ_ _=>False) s)
  (n:Nat) (h:I n s) :
  codeAny (model prog w) A (.compLoop (.DictComp ke ve [⟨target,iter,ifs,0⟩] scope pos) 0 it (.ref acc) env) R s:=by
 refine codeAny_loop rfl I (λn s hI=>?_) n h;show wpAny _ A ((compTurn (.DictComp ke ve [⟨target,iter,ifs,0⟩] scope pos) 0 it (.ref acc) env).onRaise (λx=>do noteFrame x env;theTreesLotGoes x)) _ _ s;refine wpAny_noted (wpAny_noRaise ?_);unfold compTurn;dsimp only[List.getElem?_cons_zero];refine qb (wpAny_standAt (qb (E1 (turn n s hI) (λr s₁ h₁=>?_))));cases r with
 | none=>exact qc h₁
 | some v =>
  refine qb (E1 h₁ λ_ s₁' h₁=>qb (E1 h₁ λ_ s₂ h₂=>qb (E1 h₂ λok s₂' h₂=>?_)));cases ok with
  | false=>exact qc ⟨rfl,h₂⟩
  | true =>
  rw[qm rfl] at h₂ ⊢;dsimp only[List.getElem?_cons_succ,List.getElem?_nil];refine qb ?_;refine qb (E1 h₂ λkv s₃ h₃=>?_);refine qb (wpAny_holding (E1 h₃ λvv s₄ h₄=>?_));refine qb (wpAny_standAt ?_);exact wpAny_holding (E1 h₄ λ_ s₅ h₅=>qc ⟨rfl,h₅⟩)
theorem A1x {acc:Value} 
  (h0:codeAny (model prog w) A (.compLoop (.DictComp ke ve [⟨target,iter,ifs,0⟩] scope pos) 0 it acc env) R s)
  (h:wpAny (model prog w) A (pyIter it) (λit' s'=>codeAny (model prog w) A (.compLoop (.DictComp ke ve [⟨target,iter,ifs,0⟩] scope pos) 0 it' acc env) R s') (λ_ _=>False) s) :
  codeAny (model prog w) A (.compStart (.DictComp ke ve [⟨target,iter,ifs,0⟩] scope pos) 0 it acc env) R s:=by
 refine codeAny_of_tree ?_;show wpAny _ _ ((compStart (.DictComp ke ve [⟨target,iter,ifs,0⟩] scope pos) 0 it acc env).onRaise (λx=>do noteFrame x env;standAt theWindowsPlace)) _ _ s;refine wpAny_notedAt (wpAny_noRaise ?_);unfold compStart;have hc:clausesOf (.DictComp ke ve [⟨target,iter,ifs,0⟩] scope pos)=[⟨target,iter,ifs,0⟩]:=rfl;rw[hc];show wpAny _ _ (ask >>= _) _ _ s;refine qb (wpAny_askSetting (wpAny_ite ?_));split
 ·first
   | exact qb (qc (qc (And.intro rfl h0)))
   | exact qc (And.intro rfl h0)
 ·first
   | exact qb (wpAny_rule (qb (wpAny_standAt (qb (jc h (λit' s' h'=>qc (And.intro rfl h')) λ_ _ x=>x)))))
   | (refine qb (wpAny_rule ?_);show wpAny _ _ (standAt iter.pos >>= _) _ _ s;exact qb (wpAny_standAt (qb (jc h (λit' s' h'=>qc (And.intro rfl h')) λ_ _ x=>x))))
end
section
variable {Y:Cx} {acc:Addr} {scope:Scope} {pos:Pos} {ke ve:Expr}
theorem A9z {tk:TE} {s:Shared} {U:St} {D:V7} {it:Addr} 
  (hx:Y.xe=λ_ _=>False) (hc:Y.calm=true) (hg:PG Y tg g) (ht:PTs Y ifs ti) (hk:PE Y ke tk) (hve:PE Y ve tv)
  (I:B6 Y pins U H s) (T:B1l Y.prog Y.w Y.K tg J fp it tn) (st:tn 0 s.heap) (f2:∀ b∈fp,V5 Y pins H b) (h:A4z J g (A4n ti (B3f acc tk tv)) D U H) :
  codeAny (model Y.prog Y.w) Y.A (.compLoop (.DictComp ke ve [⟨tg,iter,ifs,0⟩] scope pos) 0 (.ref it) (.ref acc) Y.env) (λr s'=>r=.ok .next/\∃ U' H',B6 Y pins U' H' s'/\D.nx U' H') s:=by
 obtain ⟨W,⟨m0,w0⟩,turn⟩:=h;have stat:∀ {H':Hp},(∀ b∈fp,H' b=none)->∀ b∈fp,V5 Y pins H' b:=λhn b hb=>⟨hn b hb,(f2 b hb).2⟩;refine B1a (λn s'=>∃ i U' H',B6 Y pins U' H' s'/\tn i s'.heap/\(∀ b∈fp,H' b=none)/\W i n U' H') ?_ m0 ⟨0,U,H,I,st,λb hb=>(f2 b hb).1,w0⟩;rintro n s3 ⟨i,σ3,H3,I3,st3,fr3,w3⟩;rcases turn i n σ3 H3 w3 with ⟨stop,qn⟩|⟨go,N,hN,step⟩
 ·refine E1 (T.done Y rfl rfl rfl hc i pins s3 σ3 H3 _ I3 (stat fr3) st3 stop) λr s4 ⟨hr,I4⟩=>?_;subst hr;exact ⟨rfl,σ3,H3,I4,qn⟩
 ·refine E1 (T.item Y rfl rfl rfl hc i pins s3 σ3 H3 _ I3 (stat fr3) st3 go) λr s4 ⟨u,hr,h4⟩=>?_;subst hr;refine E1 h4 λ_ s5 ⟨x,H5,I5,r5,y5,st5,fr5⟩=>?_;have I5':=I5.pinned (stat fr5) (T.obj _ _ st5);have a1:=hg _ s5 σ3 H5 x u _ I5' r5 (step x H5 y5);rw[hx] at a1;refine E1 a1 λ_ s6 ⟨σ6,H6,I6,q6⟩=>?_;have a0:=ht _ s6 σ6 H6 _ I6 q6;rw[hx] at a0;refine E1 a0 λok s6 ⟨H6,I6,q6⟩=>?_;cases ok with
  | false =>
   rw[qo qt] at q6 ⊢;obtain ⟨m',hm,w7⟩:=hN _ _ q6;refine ⟨m',hm,i+1,_,_,I6.unpinned,T.keep _ _ _ st5 λb hb o e=>(I6.pin (b,o) (qw _ (qw _ (L8 hb e)))).1,λb hb=>?_,w7⟩;obtain ⟨o,e,d⟩:=T.obj _ _ st5 b hb;exact (I6.pin (b,o) (qw _ (qw _ (L8 hb e)))).2.1
  | true =>
  rw[qm rfl] at q6 ⊢;have a2:=hk _ s6 σ6 H6 _ I6 q6;rw[hx] at a2;refine E1 a2 λkv s7 ⟨k,H7,I7,r7,q7⟩=>?_;have a3:=hve _ s7 σ6 H7 _ I7 q7;rw[hx] at a3;refine E1 a3 λvv s8 ⟨v,H8,I8,r8,kvs,k',ek,e8,l8,q8⟩=>?_;subst ek;refine A6o I8 e8 l8 r7 r8 λs9 I9=>?_;obtain ⟨m',hm,w7⟩:=hN _ _ q8;refine ⟨m',hm,i+1,_,_,I9.unpinned,T.keep _ _ _ st5 λb hb o e=>(I9.pin (b,o) (qw _ (qw _ (L8 hb e)))).1,λb hb=>?_,w7⟩;obtain ⟨o,e,d⟩:=T.obj _ _ st5 b hb;exact (I9.pin (b,o) (qw _ (qw _ (L8 hb e)))).2.1
end
def C3j (wi:TI) (g:TG) (ti:TT) (tk tv:TE) (own:List Str) (cap:List (Str × Nat)):TE:=λU H Q=>wi U H λJ H1=>∀ acc,H1 acc=none ->
 A4z J g (A4n ti (B3f acc tk tv)) { nx:=λ_ H'=>Q (.ref acc) H',rt:=λ_ _=>False } (A68 own cap U) (upd H1 acc (.dK []))
theorem D21 {tk:TE} (own:List Str) (cap:List (Str × Nat)) (hc:X.calm=true) (L:C2 X scope own cap) (hi:PI X tg iter wi)
  (hin:∀ (s₃:Shared) (H₃:Hp) (fp:List Addr),PG (X.inn scope (D2 own cap) s₃ H₃ fp) tg g/\PTs (X.inn scope (D2 own cap) s₃ H₃ fp) ifs ti/\PE (X.inn scope (D2 own cap) s₃ H₃ fp) ke tk/\PE (X.inn scope (D2 own cap) s₃ H₃ fp) ve tv)
  (hs:∀ x,foldedSetIterable iter X.env x=pure x:=by intro _;rfl):PE X (.DictComp ke ve [⟨tg,iter,ifs,0⟩] scope pos) (C3j wi g ti tk tv own cap):=by
 intro pins s U H Q I h;have ev:eval (.DictComp ke ve [⟨tg,iter,ifs,0⟩] scope pos) X.env=comprehension (.DictComp ke ve [⟨tg,iter,ifs,0⟩] scope pos) scope X.env (firstIterPos [⟨tg,iter,ifs,0⟩] pos) newDict (firstAsync [⟨tg,iter,ifs,0⟩]) (firstIter [⟨tg,iter,ifs,0⟩] X.env):=by rw[eval]
 rw[ev];have hcl:∀ x∈scope.names,x.2=.free->∃ c,X.env.cells.lookup x.1=some c:=λx hx hk=>I.ok.has x.1 (L.fre x hx hk);refine wpAny_comprehension_free (use:=none) rfl hs (P7 hcl) L.kind L.loc (E1 (hi pins s U H _ I h) λx s1 h1=>E1 h1 λitv s2 ⟨it,fp,tn,J,H2,e,I2,T,st2,f2,q2⟩=>?_);subst e;refine wpAny_newObj_type ?_;have I3:=I2.laid (a:=s2.heap.objs.size) (o:=.dK []) (t':=s2.toks) (λ_ _ q=>qa _ q) (qp _) (A2c s2.heap I2.big);have fr2:H2 s2.heap.objs.size=none:=I2.fresh;have f3:∀ b∈fp,V5 X pins (upd H2 s2.heap.objs.size (.dK [])) b:=λb hb=>by
  obtain ⟨o,eo,_⟩:=T.obj 0 _ st2 b hb;obtain ⟨g1,g2⟩:=f2 b hb;exact ⟨by rw[B5 (ze (qi eo))];exact g1,g2⟩
 have k3:∀ b o,s2.heap.get? b=some o->(s2.heap.push { cls:=.type "dict",data:=.dict #[] }).get? b=some o:=λb o e=>qa _ e;have st3:tn 0 (s2.heap.push { cls:=.type "dict",data:=.dict #[] }):=T.keep 0 _ _ st2 λb _ o e=>k3 b o e;refine A0u ?_;have I4:=A8q L I3 f3 λb hb=>by obtain ⟨o,eo,_⟩:=T.obj 0 _ st3 b hb;exact ⟨o,eo⟩
 obtain ⟨hg,ht,hk,hv⟩:=hin { s2 with heap:=s2.heap.push { cls:=.type "dict",data:=.dict #[] },toks:=s2.toks } (upd H2 s2.heap.objs.size (.dK [])) fp;have st4:=T.keep 0 _ (pushCells ((s2.heap.push { cls:=.type "dict",data:=.dict #[] }).push { cls:=.type "dict",data:=.dict #[] }) scope.names) st3 λb _ o e=>pushCells_keeps _ _ b o (qa _ e);have f4:∀ b∈fp,V5 (X.inn scope (D2 own cap) { s2 with heap:=s2.heap.push { cls:=.type "dict",data:=.dict #[] },toks:=s2.toks } (upd H2 s2.heap.objs.size (.dK [])) fp) [] (upd H2 s2.heap.objs.size (.dK [])) b:=λb hb =>
  ⟨(f3 b hb).1,(I4.ok.exf b hb).1,I4.ok.exfs b hb,.inl hb,(I4.ok.exf b hb).2,λp hp=>absurd (show p∈([]:List (Addr × Obj)) from hp) (by simp)⟩
 have lp:=A9z (Y:=X.inn scope (D2 own cap) { s2 with heap:=s2.heap.push { cls:=.type "dict",data:=.dict #[] },toks:=s2.toks } (upd H2 s2.heap.objs.size (.dK [])) fp) (acc:=s2.heap.objs.size) (scope:=scope) (pos:=pos) (iter:=iter) rfl hc hg ht hk hv I4 T st4 f4 (q2 _ fr2);have lp':=codeAny_mono lp (R':=compPost (model X.prog X.w) X.A X.xe none (EP X pins U Q) (.ref s2.heap.objs.size) (s2.heap.push { cls:=.type "dict",data:=.dict #[] }).objs.size) λr s' ⟨hr,U',H',I',q'⟩=>by
  subst hr;obtain ⟨m',hn',_⟩:=id I'.loc;refine ⟨m',hn',λh' hsb=>?_⟩;refine ⟨.ref s2.heap.objs.size,H',?_,rfl,q'⟩;have neC:∀ b o,(s2.heap.push { cls:=.type "dict",data:=.dict #[] }).get? b=some o->b≠(s2.heap.push { cls:=.type "dict",data:=.dict #[] }).objs.size:=λb o e=>ze (qi e);have B:=I'.base;refine I3.call' (ch:=fp) I'.os ⟨λb o e n hb hx=>(hsb.2 b (neC b o e)).trans (B.keep b o e n hb hx),λb o e n hb hx=>?_,B.free,λb o e hx=>?_,B.tups,B.frzs,B.tbls⟩ (λb u e=>?_) I'.bare λb hb=>⟨(f3 b hb).2.2.2.1,(f3 b hb).2.1,(f3 b hb).2.2.2.2.1,(f3 b hb).2.2.2.2.2⟩
  ·obtain ⟨sl,e1⟩:=B.slot b o e n hb hx;exact ⟨sl,(hsb.2 b (neC b o e)).trans e1⟩
  ·obtain ⟨o',e1⟩:=B.there b o e hx;exact ⟨o',(hsb.2 b (neC b o e)).trans e1⟩
  ·have hC:H' (s2.heap.push { cls:=.type "dict",data:=.dict #[] }).objs.size=none:=I'.free;refine (I'.hok b u e).stay (λc v hc' q=>(hsb.2 c ?_).trans q) (λ_ q=>q) λ_ _ q=>q;rintro rfl;rcases hc' with hc'|hc'
   ·rw[<-hc',hC] at e;cases e
   ·rw[hC] at hc';cases hc'
 exact A1x lp' (T.self _ _ _ _ _ st4 lp')
theorem C5y {tk:TE} (own:List Str) (cap:List (Str × Nat)) (hc:X.calm=true) (L:C2 X scope own cap) (hi:QI X tg iter wi)
  (hin:∀ (s₃:Shared) (H₃:Hp) (fp:List Addr),QG (X.inn scope (D2 own cap) s₃ H₃ fp) tg g/\QTs (X.inn scope (D2 own cap) s₃ H₃ fp) ifs ti/\QE (X.inn scope (D2 own cap) s₃ H₃ fp) ke tk/\QE (X.inn scope (D2 own cap) s₃ H₃ fp) ve tv)
  (hs:∀ x,foldedSetIterable iter X.env x=pure x:=by intro _;rfl):QE X (.DictComp ke ve [⟨tg,iter,ifs,0⟩] scope pos) (C3j wi g ti tk tv own cap):=⟨D21 own cap hc L hi.h (λs H fp=>⟨(hin s H fp).1.h,(hin s H fp).2.1.h,(hin s H fp).2.2.1.h,(hin s H fp).2.2.2.h⟩) hs⟩
section
variable {κ:Nat->Int} {p:Array Nat}
def kk (κ:Nat->Int) (p:Array Nat) (i:Nat):Int:=κ (p.getD i 0)
def Dn (κ:Nat->Int) (p:Array Nat) (n:Nat):Prop:=∀ i j,i<=j->j < n->kk κ p j<=kk κ p i
end
end L2
namespace DL
open L2
section
theorem A03 {kvs:List (C1 × V)} {es:List (C1 × D)} (v:VPs kvs es):kvs.map (·.1)=es.map (·.1):=by
 induction v with
 | nil=>rfl
 | cons _ _ ih=>rw[map_cons,map_cons,ih]
end
end DL
namespace L2
open PySem.W PySem.Calls
end L2
namespace DL
open L2
section
variable {K:W.Frag} {H0 H H':Hp} {ν:Nat->List Addr} {O:C4} {U:L2.St}
theorem B8.forget (S:B8 K Z0 H0 ν O U H) (i:Nat) (k:∀ a o,H a=some o->a∉ν i->H' a=some o):B8 K Z0 H0 (λj=>if j=i then [] else ν j) (O.set i none) U H' where
 sm:=λa o ha=>k a o (S.sm a o ha) λz=>by rw[(S.fr i a z).1] at ha;cases ha
 len:=by rw[length_set];exact S.len
 sl:=λj b c hj=>by
  have ne:j≠i:=λz=>by
   subst z;by_cases hl:j < O.length
   ·rw[List.getElem?_set_self hl] at hj;cases hj
   ·rw[List.getElem?_eq_none (by rw[length_set];lia)] at hj;cases hj
  rw[List.getElem?_set_ne (Ne.symm ne)] at hj;obtain ⟨v,h1,h2⟩:=S.sl j b c hj;refine ⟨v,h1,?_⟩;cases b with
  | true =>
   have h2:Ow K H v c (ν j):=h2;show Ow K H' v c (if j=i then [] else ν j);rw[qo ne];refine h2.kept ⟨λa ha=>?_,λa o ho hm=>k a o ho λz=>?_⟩
   ·obtain ⟨_,_,o,ho⟩:=S.fr j a ha;rw[ho];exact k a _ ho λz=>ne (S.dj j i a ha z)
   ·obtain ⟨_,_,m⟩:=S.fr i a z;exact m.no ho hm
  | false =>
   have h2:Dn K (N0 (Hd Z0 ν) H) v c:=h2;refine Dn.same (λa o ho=>?_) h2;obtain ⟨q1,q2⟩:=G7 ho;refine E2 (k a o q1 λz=>q2 (.inr ⟨i,z⟩)) λz=>?_;rcases z with z|⟨l,z⟩
   ·exact z
   ·have z:a∈(if l=i then [] else ν l):=z;by_cases e:l=i
    ·rw[qm e] at z;cases z
    ·rw[qo e] at z;exact q2 (.inr ⟨l,z⟩)
 nd:=λj=>by
  show (if j=i then [] else ν j).Nodup;split
  ·exact nodup_nil
  ·exact S.nd j
 dj:=λj l a h1 h2=>by
  have h1:a∈(if j=i then [] else ν j):=h1;have h2:a∈(if l=i then [] else ν l):=h2;split at h1
  ·cases h1
  ·split at h2
   ·cases h2
   ·exact S.dj j l a h1 h2
 fr:=λj a h=>by
  have h:a∈(if j=i then [] else ν j):=h;split at h
  ·cases h
  ·rename_i ne;obtain ⟨f1,f2,o,f3⟩:=S.fr j a h;exact ⟨f1,f2,o,k a _ f3 λz=>ne (S.dj j i a h z)⟩
 zf:=λa z=>z.elim
end
end DL
namespace L2
open PySem PyProof.Rows
def A2h:Bool->Keyed->Array Keyed->Nat->Nat->Nat->StateT SortSt Sem (Option Nat):=sortPriv% PySem.Builtin.gallop
def D4y:Array Keyed->Array Keyed->StateT SortSt Sem (Array Keyed):=sortPriv% PySem.Builtin.mergeLo
def D3x:Array Keyed->Array Keyed->StateT SortSt Sem (Array Keyed):=sortPriv% PySem.Builtin.mergeHi
def B1e:Nat->StateT SortSt Sem Unit:=sortPriv% PySem.Builtin.setMinGallop
def bey (lf:Bool) (ky:Keyed) (ar:Array Keyed) (bs i:Nat):StateT SortSt Sem (Option Bool):=do
 let x <- elem' ar (bs+i)
 if lf then lt' x ky else return (<- lt' ky x).map (!·)
theorem C8n (lf:Bool) (ky:Keyed) (ar:Array Keyed) (bs n ht:Nat):A2h lf ky ar bs n ht=(do
 let mut la:=0
 let mut o:=1
 let mut l:=0
 let mut h:=0
 let some rt <- bey lf ky ar bs ht|return none
 if rt then
  let mx:=n - ht
  for _ in [0:n] do
   if o ≥ mx then break
   let some mo <- bey lf ky ar bs (ht+o)|return none
   if !mo then break
   la:=o
   o:=2*o+1
  l:=ht+la+1
  h:=ht+min o mx
 else
  let mx:=ht+1
  for _ in [0:n] do
   if o ≥ mx then break
   let some fd <- bey lf ky ar bs (ht - o)|return none
   if fd then break
   la:=o
   o:=2*o+1
  l:=ht+1 - min o mx
  h:=ht - la
 for _ in [0:n] do
  if l ≥ h then break
  let m:=l+(h - l) / 2
  let some mo <- bey lf ky ar bs m|return none
  if mo then l:=m+1 else h:=m
 return some h):=rfl
theorem C7t (g:Nat):B1e g=modify λs=>SortSt.mk' (kindOf s) (arrOf s) (pendingOf s) g (failedOf s):=rfl
theorem C8t (a b:Array Keyed):D4y a b=(do
 rule "list.sort.merge-lo"
 let tt:=a.size+b.size
 let dn (u:Array Keyed) (i j:Nat):=u++a.extract i a.size++b.extract j b.size
 let lA (u:Array Keyed) (i j:Nat):=u++b.extract j b.size++a.extract i a.size
 let mut u:Array Keyed:=#[<-elem' b 0]
 let mut i:=0
 let mut j:=1
 if j==b.size then return dn u i j
 if i+1==a.size then return lA u i j
 let mut mg:=gallopOf (<- get)
 for _ in [0:tt] do
  let mut ac:=0
  let mut bc:=0
  for _ in [0:tt] do
   let some bw <- lt' (<- elem' b j) (<- elem' a i)|return dn u i j
   if bw then
    u:=u.push (<- elem' b j);j:=j+1;bc:=bc+1;ac:=0
    if j==b.size then return dn u i j
    if bc ≥ mg then break
   else
    u:=u.push (<- elem' a i);i:=i+1;ac:=ac+1;bc:=0
    if i+1==a.size then return lA u i j
    if ac ≥ mg then break
  rule "list.sort.gallop"
  mg:=mg+1
  for _ in [0:tt] do
   if mg > 1 then mg:=mg - 1
   B1e mg
   let some k <- A2h false (<- elem' b j) a i (a.size - i) 0|return dn u i j
   ac:=k
   if k > 0 then
    u:=u++a.extract i (i+k);i:=i+k
    if i+1==a.size then return lA u i j
    if i==a.size then return dn u i j
   u:=u.push (<- elem' b j);j:=j+1
   if j==b.size then return dn u i j
   let some k <- A2h true (<- elem' a i) b j (b.size - j) 0|return dn u i j
   bc:=k
   if k > 0 then
    u:=u++b.extract j (j+k);j:=j+k
    if j==b.size then return dn u i j
   u:=u.push (<- elem' a i);i:=i+1
   if i+1==a.size then return lA u i j
   if ac < 7&&bc < 7 then break
  mg:=mg+1
  B1e mg
 unsupported "internal:list.sort.merge-bound"):=rfl
variable {Q:Option Bool->SortSt->Prop} {n d lo:Nat} {S:Keyed->Prop} {X:Cx}
section
variable {prog:Program} {w:World} {A:Around} {E:Value->Shared->Prop} {s:Shared}
structure A3j (prog:Program) (w:World) (A:Around) (s:Shared) (κ:SortKind) (rk:Keyed->Int) (S:Keyed->Prop):Prop where
 lt:∀ x y,S x->S y->∀ (Q:Bool->Shared->Prop) (E:Value->Shared->Prop),Q (decide (rk x < rk y)) s->wpAny (model prog w) A (keyLt' κ x.1 y.1) Q E s
variable {κ:SortKind} {rk:Keyed->Int} {S:Keyed->Prop}
theorem B21 (P:A3j prog w A s κ rk S) {st:SortSt} {x y:Keyed} (hk:kindOf st=κ) (hx:S x) (hy:S y) (h:Q (some (decide (rk x < rk y))) st):wpS (model prog w) A E s (lt' x y) Q st:=by
 rw[lt'_eq];refine qd (wpS_get ?_);rw[hk];exact qd (wpS_lift (wpAny_attempt (P.lt x y hx hy _ _ ⟨rfl,qe h⟩)))
theorem M2 {st:SortSt} {i:Nat} {x:Keyed} {Q:Keyed->SortSt->Prop} (h:ar[i]?=some x) (q:Q x st):wpS (model prog w) A E s (elem' ar i) Q st:=by
 rw[elem'_eq,h];exact qe q
def Be (rk:Keyed->Int) (lf:Bool) (ky x:Keyed):Bool:=if lf=true then decide (rk x < rk ky) else !(decide (rk ky < rk x))
theorem D4w (P:A3j prog w A s κ rk S) {st:SortSt} {x:Keyed} {bs i:Nat} (hk:kindOf st=κ) (hx:ar[bs+i]?=some x) (sx:S x) (sk:S ky) (h:Q (some (Be rk lf ky x)) st):wpS (model prog w) A E s (bey lf ky ar bs i) Q st:=by
 unfold bey;refine qd (M2 hx ?_);cases lf with
 | true=>exact B21 P hk sx sk h
 | false=>exact qd (B21 P hk sk sx (qe h))
structure Gal (rk:Keyed->Int) (S:Keyed->Prop) (lf:Bool) (ky:Keyed) (ar:Array Keyed) (bs n:Nat) (g:Nat->Bool):Prop where
 at_:∀ i,i < n->∃ x,ar[bs+i]?=some x/\S x/\Be rk lf ky x=g i
 mono:∀ i j,i<=j->j < n->g j=true->g i=true
theorem A2o (P:A3j prog w A s κ rk S) {st:SortSt} {bs ht:Nat} {g:Nat->Bool} {Q:Option Nat->SortSt->Prop} (hk:kindOf st=κ) (sk:S ky) (G:Gal rk S lf ky ar bs n g) (hn:ht < n)
  (h:∀ k,k<=n->(∀ i,i < k->g i=true)->(∀ i,k<=i->i < n->g i=false)->Q (some k) st):wpS (model prog w) A E s (A2h lf ky ar bs n ht) Q st:=by
 have ask:∀ {i:Nat} {Q:Option Bool->SortSt->Prop},i < n->Q (some (g i)) st->wpS (model prog w) A E s (bey lf ky ar bs i) Q st:=λ{i Q} hi q=>by
  obtain ⟨x,h1,h2,h3⟩:=G.at_ i hi;exact D4w P hk h1 h2 sk (h3 ▸ q)
 have off:∀ {i j:Nat},g i=false->i<=j->j < n->g j=false:=λ{i j} e hij hj=>by
  cases e2:g j with
  | false=>rfl
  | true=>rw[G.mono i j hij hj e2] at e;cases e
 rw[C8n];dsimp only;refine qd (ask hn ?_);dsimp only;have fin : ∀ l0 h0, l0 <= h0 -> h0 <= n -> (∀ i, i < l0 -> g i = true) -> (∀ i, h0 <= i -> i < n -> g i = false) -> wpS (model prog w) A E s (forIn [0:n] ((none, l0, h0) : Option (Option Nat) × Nat × Nat) λ_ c =>
       if c.2.1 ≥ c.2.2 then pure (ForInStep.done (none,c.2.1,c.2.2)) else do
     let x <- bey lf ky ar bs (c.2.1+(c.2.2 - c.2.1) / 2)
     match x with
      | some mo=>if mo=true then pure (ForInStep.yield (none,c.2.1+(c.2.2 - c.2.1) / 2+1,c.2.2)) else pure (ForInStep.yield (none,c.2.1,c.2.1+(c.2.2 - c.2.1) / 2))
      | _=>pure (ForInStep.done (some none,c.2.1,c.2.2))) (λc st'=>st'=st/\c.1=none/\c.2.2<=n/\(∀ i,i < c.2.2->g i=true)/\∀ i,c.2.2<=i->i < n->g i=false) st:=by
  intro l0 h0 hl hh h1 h2;refine wpS_forRange (I:=λx c st'=>st'=st/\c.1=none/\c.2.1<=c.2.2/\c.2.2<=n/\c.2.2 - c.2.1<=n - x/\(∀ i,i < c.2.1->g i=true)/\∀ i,c.2.2<=i->i < n->g i=false) ?_ ?_ ⟨rfl,rfl,hl,hh,by dsimp only;lia,h1,h2⟩
  ·rintro x ⟨c1,l,hi⟩ st' _ hx ⟨rfl,c2,c3,c4,c5,c6,c7⟩;dsimp only at c2 c3 c4 c5 c6 c7 ⊢;by_cases e:l ≥ hi
   ·rw[qm e];have:l=hi:=by lia
    subst this;exact qe ⟨rfl,rfl,c4,c6,c7⟩
   ·rw[qo e];refine qd (ask (by lia) ?_);dsimp only;cases e2:g (l+(hi - l) / 2) with
    | true =>
     refine qe ⟨rfl,rfl,by dsimp only;lia,c4,by dsimp only;lia,λi hi'=>?_,c7⟩;exact G.mono i _ (by dsimp only at hi';lia) (by lia) e2
    | false =>
     refine qe ⟨rfl,rfl,by dsimp only;lia,by dsimp only;lia,by dsimp only;lia,c6,λi hi' hin=>?_⟩;exact off e2 hi' hin
  ·rintro ⟨c1,l,hi⟩ st' ⟨rfl,c2,c3,c4,c5,c6,c7⟩;dsimp only at c2 c3 c4 c5 c6 c7 ⊢;have:l=hi:=by lia
   subst this;exact ⟨rfl,c2,c4,c6,c7⟩
 cases e0:g ht with
 | true =>
  rw[qm rfl];refine qd (wpS_mono (wpS_forRange (I:=λx c st'=>st'=st/\c.1=none/\c.2.1 < c.2.2/\x+1<=c.2.2/\ht+c.2.1 < n/\g (ht+c.2.1)=true) (Q:=λc st'=>st'=st/\c.1=none/\c.2.1 < c.2.2/\ht+c.2.1 < n/\g (ht+c.2.1)=true/\(c.2.2 ≥ n - ht\/g (ht+c.2.2)=false)) ?_ ?_ ⟨rfl,rfl,by decide,by decide,by simpa using hn,by simpa using e0⟩) ?_)
  ·rintro x ⟨c1,la,o⟩ st' _ hx ⟨rfl,c2,c3,c4,c5,c6⟩;dsimp only at c2 c3 c4 c5 c6 ⊢;by_cases e:o ≥ n - ht
   ·rw[qm e];exact qe ⟨rfl,rfl,c3,c5,c6,.inl e⟩
   ·rw[qo e];refine qd (ask (by lia) ?_);dsimp only;cases e2:g (ht+o) with
    | true=>exact qe ⟨rfl,rfl,by dsimp only;lia,by dsimp only;lia,by dsimp only;lia,e2⟩
    | false=>exact qe ⟨rfl,rfl,c3,c5,c6,.inr e2⟩
  ·rintro ⟨c1,la,o⟩ st' ⟨rfl,c2,c3,c4,c5,c6⟩;dsimp only at c2 c3 c4 c5 c6 ⊢;exact ⟨rfl,c2,c3,c5,c6,.inl (by lia)⟩
  ·rintro ⟨c1,la,o⟩ st' ⟨rfl,c2,c3,c5,c6,c7⟩;dsimp only at c2 c3 c5 c6 c7 ⊢;subst c2;dsimp only;refine qd (wpS_mono (fin _ _ (by lia) (by lia) (λi hi=>G.mono i _ (by lia) c5 c6) λi hi hin=>?_) ?_)
   ·rcases c7 with c7|c7
    ·lia
    ·by_cases hm:o<=n - ht
     ·exact off c7 (by lia) hin
     ·lia
   ·rintro ⟨c1,l,hi⟩ st' ⟨rfl,d2,d3,d4,d5⟩;dsimp only at d2 d3 d4 d5 ⊢;subst d2;exact qe (h _ d3 d4 d5)
 | false =>
  rw[qo (by simp)];refine qd (wpS_mono (wpS_forRange (I:=λx c st'=>st'=st/\c.1=none/\c.2.1 < c.2.2/\x+1<=c.2.2/\c.2.1<=ht/\g (ht - c.2.1)=false) (Q:=λc st'=>st'=st/\c.1=none/\c.2.1 < c.2.2/\c.2.1<=ht/\g (ht - c.2.1)=false/\(c.2.2 ≥ ht+1\/g (ht - c.2.2)=true)) ?_ ?_ ⟨rfl,rfl,by decide,by decide,zz _,by simpa using e0⟩) ?_)
  ·rintro x ⟨c1,la,o⟩ st' _ hx ⟨rfl,c2,c3,c4,c5,c6⟩;dsimp only at c2 c3 c4 c5 c6 ⊢;by_cases e:o ≥ ht+1
   ·rw[qm e];exact qe ⟨rfl,rfl,c3,c5,c6,.inl e⟩
   ·rw[qo e];refine qd (ask (by lia) ?_);dsimp only;cases e2:g (ht - o) with
    | false=>exact qe ⟨rfl,rfl,by dsimp only;lia,by dsimp only;lia,by dsimp only;lia,e2⟩
    | true=>exact qe ⟨rfl,rfl,c3,c5,c6,.inr e2⟩
  ·rintro ⟨c1,la,o⟩ st' ⟨rfl,c2,c3,c4,c5,c6⟩;dsimp only at c2 c3 c4 c5 c6 ⊢;exact ⟨rfl,c2,c3,c5,c6,.inl (by lia)⟩
  ·rintro ⟨c1,la,o⟩ st' ⟨rfl,c2,c3,c5,c6,c7⟩;dsimp only at c2 c3 c5 c6 c7 ⊢;subst c2;dsimp only;refine qd (wpS_mono (fin _ _ (by lia) (by lia) (λi hi=>?_) λi hi hin=>off c6 (by lia) hin) ?_)
   ·rcases c7 with c7|c7
    ·lia
    ·by_cases hm:o<=ht+1
     ·exact G.mono i _ (by lia) (by lia) c7
     ·lia
   ·rintro ⟨c1,l,hi⟩ st' ⟨rfl,d2,d3,d4,d5⟩;dsimp only at d2 d3 d4 d5 ⊢;subst d2;exact qe (h _ d3 d4 d5)
end
def Sr (rk:Keyed->Int) (l:List Keyed):Prop:=l.Pairwise λx y=>rk x<=rk y
def Lq (rk:Keyed->Int) (u v:List Keyed):Prop:=∀ x∈u,∀ y∈v,rk x<=rk y
section
variable {rk:Keyed->Int} {u x y t:List Keyed} {k:Nat}
theorem Sr.app (h1:Sr rk u) (h2:Sr rk x) (h:Lq rk u x):Sr rk (u++x):=List.pairwise_append.mpr ⟨h1,h2,h⟩
theorem Lq.app (h1:Lq rk u y) (h2:Lq rk x y):Lq rk (u++x) y:=λa ha b hb=>by
 rcases zj.mp ha with ha|ha
 ·exact h1 a ha b hb
 ·exact h2 a ha b hb
theorem Lq.appr (h1:Lq rk u y) (h2:Lq rk u x):Lq rk u (y++x):=λa ha b hb=>by
 rcases zj.mp hb with hb|hb
 ·exact h1 a ha b hb
 ·exact h2 a ha b hb
theorem Sr.cut (h:Sr rk x) (k:Nat):Sr rk (x.take k)/\Sr rk (x.drop k)/\Lq rk (x.take k) (x.drop k):=by
 unfold Sr at h;rw[<-take_append_drop k x] at h;exact List.pairwise_append.mp h
structure Mg (rk:Keyed->Int) (u x y t:List Keyed):Prop where
 pm:(u++(x++y)).Perm t
 so:Sr rk u
 ux:Lq rk u x
 uy:Lq rk u y
 sx:Sr rk x
 sy:Sr rk y
theorem Mg.symm (m:Mg rk u x y t):Mg rk u y x t:=⟨(List.Perm.append_left u List.perm_append_comm).trans m.pm,m.so,m.uy,m.ux,m.sy,m.sx⟩
theorem Mg.fst (m:Mg rk u x y t) (h:Lq rk (x.take k) y):Mg rk (u++x.take k) (x.drop k) y t:=by
 obtain ⟨c1,c2,c3⟩:=m.sx.cut k;refine ⟨?_,m.so.app c1 λa ha b hb=>m.ux a ha b (mem_of_mem_take hb),Lq.app (λa ha b hb=>m.ux a ha b (mem_of_mem_drop hb)) c3,Lq.app m.uy h,c2,m.sy⟩;have e:(u++x.take k)++(x.drop k++y)=u++(x++y):=by
  rw[append_assoc,<-append_assoc (x.take k),take_append_drop]
 rw[e];exact m.pm
theorem Mg.done (m:Mg rk u x y t) (h:Lq rk x y):(u++x++y).Perm t/\Sr rk (u++x++y):=by
 rw[append_assoc];exact ⟨m.pm,m.so.app (m.sx.app m.sy h) (m.ux.appr m.uy)⟩
end
structure ML (rk:Keyed->Int) (a b u:Array Keyed) (i j:Nat):Prop where
 ia:i+1 < a.size
 jb:j < b.size
 mg:Mg rk u.toList (a.toList.drop i) (b.toList.drop j) (a.toList++b.toList)
def Rs (rk:Keyed->Int) (a b r:Array Keyed):Prop:=r.toList.Perm (a.toList++b.toList)/\Sr rk r.toList
section
variable {rk:Keyed->Int} {a b u:Array Keyed} {i j k:Nat}
theorem B5q (a:Array Keyed) (i:Nat):(a.extract i a.size).toList=a.toList.drop i:=by
 rw[Array.toList_extract,List.extract_eq_drop_take];exact List.take_of_length_le (by rw[length_drop,qj];exact qp _)
theorem A7v (a:Array Keyed) (i k:Nat):(a.extract i (i+k)).toList=(a.toList.drop i).take k:=by
 rw[Array.toList_extract,List.extract_eq_drop_take,Nat.add_sub_cancel_left]
theorem A41:(u++a.extract i a.size++b.extract j b.size).toList=u.toList++a.toList.drop i++b.toList.drop j:=by
 rw[Array.toList_append,Array.toList_append,B5q,B5q]
variable {l:List Keyed}
theorem drop_one {x:Keyed} (h:l[i]?=some x):(l.drop i).take 1=[x]:=by
 have:l.drop i=x::l.drop (i+1):=by
  obtain ⟨h1,h2⟩:=qh.mp h;rw[List.drop_eq_getElem_cons h1,h2]
 rw[this];rfl
def D09 (rk:Keyed->Int) (a b:Array Keyed):Prop:=Lq rk b.toList (a.toList.drop (a.size - 1))
theorem ML.stepA (m:ML rk a b u i j) (hl:D09 rk a b) (hu:u'.toList=u.toList++(a.toList.drop i).take k) (hk:i+k < a.size) (h:Lq rk ((a.toList.drop i).take k) (b.toList.drop j)) :
  (i+k+1=a.size->Rs rk a b (u'++b.extract j b.size++a.extract (i+k) a.size))/\(i+k+1 < a.size->ML rk a b u' (i+k) j):=by
 have g:=m.mg.fst (k:=k) h;rw[<-hu,List.drop_drop] at g;refine ⟨λe=>?_,λe=>⟨e,m.jb,g⟩⟩;unfold Rs;rw[A41];refine g.symm.done λx hx y hy=>hl x (mem_of_mem_drop hx) y ?_;rw[show a.size - 1=i+k by lia];exact hy
theorem ML.stepB (m:ML rk a b u i j) (hu:u'.toList=u.toList++(b.toList.drop j).take k) (hk:j+k<=b.size) (h:Lq rk ((b.toList.drop j).take k) (a.toList.drop i)) :
  (j+k=b.size->Rs rk a b (u'++a.extract i a.size++b.extract (j+k) b.size))/\(j+k < b.size->ML rk a b u' i (j+k)):=by
 have g:=m.mg.symm.fst (k:=k) h;rw[<-hu,List.drop_drop] at g;refine ⟨λe=>?_,λe=>⟨m.ia,e,g.symm⟩⟩;unfold Rs;rw[A41];refine g.symm.done λx hx y hy=>?_;rw[List.drop_eq_nil_of_le (by rw[qj];lia)] at hy;cases hy
theorem J7 (h:i < a.size):∃ x,a[i]?=some x/\a.toList[i]?=some x/\x∈a.toList:=⟨a[i],Array.getElem?_eq_getElem h,by rw[zm];exact Array.getElem?_eq_getElem h,by simp⟩
theorem Sr.head {x:Keyed} (h:Sr rk l) (hx:l[i]?=some x):Lq rk [x] (l.drop i):=by
 obtain ⟨h1,h2⟩:=qh.mp hx;intro y hy z hz;rw[zc.mp hy];rw[List.drop_eq_getElem_cons h1,h2] at hz;rcases zk.mp hz with rfl|hz
 ·exact Int.le_refl _
 ·have:=List.pairwise_append.mp (by rw[take_append_drop];exact h:(l.take (i+1)++l.drop (i+1)).Pairwise λx y=>rk x<=rk y);refine this.2.2 x ?_ z hz;rw[List.take_succ,hx];simp
end
section
variable {rk:Keyed->Int} {S:Keyed->Prop} {a:Array Keyed} {i k:Nat}
theorem U6 {x:Keyed} (h:x∈a.toList.drop i):∃ t,i+t < a.size/\a[i+t]?=some x:=by
 obtain ⟨t,ht⟩:=List.getElem?_of_mem h;rw[List.getElem?_drop,zm] at ht;exact ⟨t,(zl.mp ht).1,ht⟩
theorem B35 {x:Keyed} (h:x∈(a.toList.drop i).take k):∃ t,t < k/\i+t < a.size/\a[i+t]?=some x:=by
 obtain ⟨t,ht⟩:=List.getElem?_of_mem h;have hk:t < k:=by
  have:=(qh.mp ht).1;rw[ja] at this;lia
 rw[List.getElem?_take,qm hk,List.getElem?_drop,zm] at ht;exact ⟨t,hk,(zl.mp ht).1,ht⟩
def gF (rk:Keyed->Int) (lf:Bool) (ky:Keyed) (a:Array Keyed) (i t:Nat):Bool:=match a[i+t]? with
 | some x=>Be rk lf ky x
 | none=>false
theorem L7 {x:Keyed} {t:Nat} (h:a[i+t]?=some x):gF rk lf ky a i t=Be rk lf ky x:=by unfold gF;rw[h]
theorem U4 (h:Sr rk a.toList) {p q:Nat} {x y:Keyed} (hpq:p<=q) (hx:a[p]?=some x) (hy:a[q]?=some y):rk x<=rk y:=by
 rw[<-zm] at hx hy;refine h.head hx x (by simp) y ?_;rw[mem_iff_getElem?];exact ⟨q - p,by rw[List.getElem?_drop,show p+(q - p)=q by lia];exact hy⟩
theorem A90 (h:Sr rk a.toList) (hS:∀ x∈a.toList,S x) (hn:i+n<=a.size):Gal rk S lf ky a i n (gF rk lf ky a i):=by
 refine ⟨λt ht=>?_,λp q hpq hq e=>?_⟩
 ·obtain ⟨x,h1,h2,h3⟩:=J7 (a:=a) (i:=i+t) (by lia);exact ⟨x,h1,hS x h3,(L7 h1).symm⟩
 ·obtain ⟨x,h1,_,_⟩:=J7 (a:=a) (i:=i+p) (by lia);obtain ⟨y,h2,_,_⟩:=J7 (a:=a) (i:=i+q) (by lia);have:=U4 h (by lia) h1 h2;rw[L7 h2] at e;rw[L7 h1];unfold Be at e ⊢;cases lf with
  | true=>simp at e ⊢;lia
  | false=>simp at e ⊢;lia
end
section
variable {prog:Program} {w:World} {A:Around} {E:Value->Shared->Prop} {s:Shared} {κ:SortKind} {rk:Keyed->Int} {S:Keyed->Prop}
def SaM (st st':SortSt):Prop:=kindOf st'=kindOf st/\arrOf st'=arrOf st/\pendingOf st'=pendingOf st/\failedOf st'=failedOf st
theorem SaM.rfl {st:SortSt}:SaM st st:=⟨Eq.refl _,Eq.refl _,Eq.refl _,Eq.refl _⟩
theorem A81 {st st0:SortSt} {g:Nat} {Q:Unit->SortSt->Prop} (h0:SaM st0 st) (h:∀ st',SaM st0 st'->Q () st'):wpS (model prog w) A E s (B1e g) Q st:=by
 rw[C7t];exact wpS_modify (h _ h0)
theorem D0z (P:A3j prog w A s κ rk S) {st:SortSt} {a b:Array Keyed} {Q:Array Keyed->SortSt->Prop} (hk:kindOf st=κ) (ha:Sr rk a.toList) (hb:Sr rk b.toList) (sa:∀ x∈a.toList,S x) (sb:∀ x∈b.toList,S x) (na:1<=a.size) (nb:1<=b.size)
  (hf:∀ x y,b[0]?=some x->a[0]?=some y->rk x<=rk y) (hl:∀ x∈b.toList,∀ y,a[a.size - 1]?=some y->rk x < rk y)
  (h:∀ r st',SaM st st'->Rs rk a b r->Q r st'):wpS (model prog w) A E s (D4y a b) Q st:=by
 have hla:D09 rk a b:=λx hx y hy=>by
  obtain ⟨t,t1,t2⟩:=U6 hy;have:t=0:=by lia
  subst this;exact Int.le_of_lt (hl x hx y t2)
 rw[C8t];refine qd (wpS_lift (wpAny_rule ⟨rfl,?_⟩));dsimp only;obtain ⟨b0,e1,e2,e3⟩:=J7 (a:=b) (i:=0) (by lia);refine qd (M2 e1 ?_);have h0:Mg rk [] (a.toList.drop 0) (b.toList.drop 0) (a.toList++b.toList):=⟨by simp,.nil,(λ_ z=>by cases z),(λ_ z=>by cases z),ha,hb⟩;have q0:Lq rk ((b.toList.drop 0).take 1) (a.toList.drop 0):=by
  rw[drop_one e2];intro x hx y hy;rw[zc.mp hx];obtain ⟨t,t1,t2⟩:=U6 hy;obtain ⟨a0,f1,f2,f3⟩:=J7 (a:=a) (i:=0) (by lia);have:=hf b0 a0 e1 f1;have:=U4 ha (zz _) f1 t2;lia
 have g0:=h0.symm.fst (k:=1) q0;rw[drop_one e2,List.drop_drop] at g0;have g0:Mg rk (#[b0]:Array Keyed).toList (b.toList.drop 1) (a.toList.drop 0) (a.toList++b.toList):=by simpa using g0
 by_cases c1:(1==b.size)=true
 ·rw[qm c1];refine qe (h _ _ .rfl ?_);unfold Rs;rw[A41];refine g0.symm.done λx hx y hy=>?_;rw[List.drop_eq_nil_of_le (by rw[qj];simp at c1;lia)] at hy;cases hy
 rw[qo c1];by_cases c2:(0+1==a.size)=true
 ·rw[qm c2];refine qe (h _ _ .rfl ?_);unfold Rs;rw[A41];refine g0.done λx hx y hy=>hla x (mem_of_mem_drop hx) y ?_;rw[show a.size - 1=0 by simp at c2;lia];exact hy
 rw[qo c2];have m0:ML rk a b #[b0] 0 1:=⟨by simp at c2;lia,by simp at c1;lia,g0.symm⟩;refine qd (wpS_get ?_);have push1:∀ {u:Array Keyed} {l:List Keyed} {i:Nat} {x:Keyed},l[i]?=some x->(u.push x).toList=u.toList++(l.drop i).take 1:=λ{u l i x} e=>by rw[drop_one e];simp
 refine qd (wpS_mono (wpS_forRange (I:=λx c st'=>SaM st st'/\c.1=none/\ML rk a b c.2.1 c.2.2.1 c.2.2.2.1/\x+1<=c.2.2.1+c.2.2.2.1) (Q:=λc st'=>SaM st st'/\∃ r,c.1=some r/\Rs rk a b r) ?_ ?_ ⟨.rfl,rfl,m0,by dsimp only;lia⟩) ?_)
 rotate_left
 ·rintro ⟨c1,u,i,j,mg⟩ st' ⟨q1,q2,q3,q4⟩;dsimp only at q2 q3 q4;have:=q3.ia;have:=q3.jb;lia
 ·rintro ⟨c1,u,i,j,mg⟩ st' ⟨q1,r,q2,q3⟩;dsimp only at q2 ⊢;subst q2;exact qe (h _ _ q1 q3)
 rintro x ⟨c1,u,i,j,mg⟩ st1 _ hx ⟨q1,q2,q3,q4⟩;dsimp only at q2 q3 q4 ⊢;have hk1:kindOf st1=κ:=q1.1.trans hk;refine qd (wpS_mono (wpS_forRange (I:=λx c st'=>st'=st1/\c.1=none/\ML rk a b c.2.1 c.2.2.1 c.2.2.2.1/\i+j+x<=c.2.2.1+c.2.2.2.1) (Q:=λc st'=>st'=st1/\((∃ r,c.1=some r/\Rs rk a b r)\/(c.1=none/\ML rk a b c.2.1 c.2.2.1 c.2.2.2.1/\i+j+1<=c.2.2.1+c.2.2.2.1))) ?_ ?_ ⟨rfl,rfl,q3,by dsimp only;lia⟩) ?_)
 ·rintro y ⟨c1,u,i',j',ac,bc⟩ st' _ hy ⟨rfl,q2,q3,q4⟩;dsimp only at q2 q3 q4 ⊢;obtain ⟨bj,e1,e2,e3⟩:=J7 (a:=b) (i:=j') q3.jb;obtain ⟨ai,f1,f2,f3⟩:=J7 (a:=a) (i:=i') (by have:=q3.ia;lia);refine qd (M2 e1 (qd (M2 f1 (qd (B21 P hk1 (sb _ e3) (sa _ f3) ?_)))));dsimp only;by_cases c:rk bj < rk ai
  ·simp only[c,decide_true,if_true];refine qd (M2 e1 ?_);have st:=q3.stepB (k:=1) (push1 (u:=u) e2) (by have:=q3.jb;lia) (by
    rw[drop_one e2];intro x hx z hz;rw[zc.mp hx];obtain ⟨t,t1,t2⟩:=U6 hz;have:=U4 ha (Nat.le_add_right i' t) f1 t2;lia)
   by_cases c2:(j'+1==b.size)=true
   ·rw[qm c2];exact qe ⟨rfl,.inl ⟨_,rfl,st.1 (by simpa using c2)⟩⟩
   rw[qo c2];have st:=st.2 (by have:=q3.jb;simp at c2;lia);split
   ·exact qe ⟨rfl,.inr ⟨rfl,st,by dsimp only;lia⟩⟩
   ·exact qe ⟨rfl,rfl,st,by dsimp only;lia⟩
  ·simp only[c,decide_false,zo,if_false];refine qd (M2 f1 ?_);have st:=q3.stepA hla (k:=1) (push1 (u:=u) f2) (by have:=q3.ia;lia) (by
    rw[drop_one f2];intro x hx z hz;rw[zc.mp hx];obtain ⟨t,t1,t2⟩:=U6 hz;have:=U4 hb (Nat.le_add_right j' t) e1 t2;lia)
   by_cases c2:(i'+1+1==a.size)=true
   ·rw[qm c2];exact qe ⟨rfl,.inl ⟨_,rfl,st.1 (by simpa using c2)⟩⟩
   rw[qo c2];have st:=st.2 (by have:=q3.ia;simp at c2;lia);split
   ·exact qe ⟨rfl,.inr ⟨rfl,st,by dsimp only;lia⟩⟩
   ·exact qe ⟨rfl,rfl,st,by dsimp only;lia⟩
 ·rintro ⟨c1,u,i',j',ac,bc⟩ st' ⟨rfl,q2,q3,q4⟩;dsimp only at q2 q3 q4;rw[Nat.zero_max] at q4;exact ⟨rfl,.inr ⟨q2,q3,by dsimp only;lia⟩⟩
 rintro ⟨c1,u,i1,j1,ac,bc⟩ st' ⟨rfl,q⟩;dsimp only at q ⊢;rcases q with ⟨r,rfl,q⟩|⟨rfl,q3,q4'⟩
 ·exact qe ⟨q1,r,rfl,q⟩
 dsimp only;refine qd (wpS_lift (wpAny_rule ⟨rfl,?_⟩));refine qd (wpS_mono (wpS_forRange (I:=λx c st'=>SaM st st'/\c.1=none/\ML rk a b c.2.1 c.2.2.1 c.2.2.2.1/\i1+j1<=c.2.2.1+c.2.2.2.1) (Q:=λc st'=>SaM st st'/\((∃ r,c.1=some r/\Rs rk a b r)\/(c.1=none/\ML rk a b c.2.1 c.2.2.1 c.2.2.2.1/\i1+j1<=c.2.2.1+c.2.2.2.1))) ?_ ?_ ⟨q1,rfl,q3,qp _⟩) ?_)
 rotate_left
 ·rintro ⟨c1,u,i',j',mg,ac,bc⟩ st' ⟨p1,p2,p3,p4⟩;exact ⟨p1,.inr ⟨p2,p3,p4⟩⟩
 ·rintro ⟨c1,u,i',j',mg,ac,bc⟩ st' ⟨p1,p⟩;dsimp only at p ⊢;rcases p with ⟨r,rfl,p⟩|⟨rfl,p3,p4⟩
  ·exact qe ⟨p1,r,rfl,p⟩
  ·refine qd (A81 p1 λst2 p1=>qe ⟨p1,rfl,p3,by dsimp only;lia⟩)
 rintro y ⟨c1,u,i',j',mg',ac',bc'⟩ st2 _ hy ⟨p1,p2,p3,p4⟩;dsimp only at p2 p3 p4 ⊢;have body:∀ mgx:Nat,wpS (model prog w) A E s (do
   B1e mgx
   let x <- elem' b j'
   let y <- A2h false x a i' (a.size - i') 0
   match y with
   | some k =>
    let jp:=λ(u:Array Keyed) (i:Nat)=>(do
     let x <- elem' b j'
     let u:=u.push x
     let j:=j'+1
     if (j==b.size)=true then pure (ForInStep.done (some (u++a.extract i a.size++b.extract j b.size),u,i,j,mgx,k,bc'))
     else do
      let x <- elem' a i
      let y <- A2h true x b j (b.size - j) 0
      match y with
      | some k2 =>
       let jq:=λ(u:Array Keyed) (j:Nat)=>(do
        let x <- elem' a i
        let u:=u.push x
        let i:=i+1
        if (i+1==a.size)=true then pure (ForInStep.done (some (u++b.extract j b.size++a.extract i a.size),u,i,j,mgx,k,k2))
        else if (decide (k < 7)&&decide (k2 < 7))=true then pure (ForInStep.done (none,u,i,j,mgx,k,k2))
        else pure (ForInStep.yield (none,u,i,j,mgx,k,k2)):StateT SortSt Sem (ForInStep (Option (Array Keyed) × Array Keyed × Nat × Nat × Nat × Nat × Nat)))
       if k2 > 0 then
        let u:=u++b.extract j (j+k2)
        let j:=j+k2
        if (j==b.size)=true then pure (ForInStep.done (some (u++a.extract i a.size++b.extract j b.size),u,i,j,mgx,k,k2)) else jq u j
       else jq u j
      | _=>pure (ForInStep.done (some (u++a.extract i a.size++b.extract j b.size),u,i,j,mgx,k,bc')):StateT SortSt Sem (ForInStep (Option (Array Keyed) × Array Keyed × Nat × Nat × Nat × Nat × Nat)))
    if k > 0 then
     let u:=u++a.extract i' (i'+k)
     let i:=i'+k
     if (i+1==a.size)=true then pure (ForInStep.done (some (u++b.extract j' b.size++a.extract i a.size),u,i,j',mgx,k,bc'))
     else if (i==a.size)=true then pure (ForInStep.done (some (u++a.extract i a.size++b.extract j' b.size),u,i,j',mgx,k,bc'))
     else jp u i
    else jp u i'
   | _=>pure (ForInStep.done (some (u++a.extract i' a.size++b.extract j' b.size),u,i',j',mgx,ac',bc'))) (λr st'=>match r with
    | .done c=>SaM st st'/\((∃ r,c.1=some r/\Rs rk a b r)\/(c.1=none/\ML rk a b c.2.1 c.2.2.1 c.2.2.2.1/\i1+j1<=c.2.2.1+c.2.2.2.1))
    | .yield c=>SaM st st'/\c.1=none/\ML rk a b c.2.1 c.2.2.1 c.2.2.2.1/\i1+j1<=c.2.2.1+c.2.2.2.1) st2:=by
  intro mgx;refine qd (A81 p1 λst3 p1=>?_);have hk3:kindOf st3=κ:=p1.1.trans hk;obtain ⟨bj,e1,e2,e3⟩:=J7 (a:=b) (i:=j') p3.jb;refine qd (M2 e1 ?_);have hia:=p3.ia;have hjb:=p3.jb;refine qd (A2o P hk3 (sb _ e3) (A90 ha sa (n:=a.size - i') (by lia)) (by lia) λk hk2 g1 g2=>?_);dsimp only;have kl:i'+k < a.size:=by
   rcases Nat.lt_or_ge (i'+k) a.size with z|z
   ·exact z
   ·exfalso;obtain ⟨al,f1,f2,f3⟩:=J7 (a:=a) (i:=a.size - 1) (by lia);have:=g1 (a.size - 1 - i') (by lia);rw[L7 (x:=al) (by rw[show i'+(a.size - 1 - i')=a.size - 1 by lia];exact f1)] at this;unfold Be at this;simp at this;have:=hl bj e3 al f1;lia
  have le1:Lq rk ((a.toList.drop i').take k) (b.toList.drop j'):=λx hx z hz=>by
   obtain ⟨t,t1,t2,t3⟩:=B35 hx;obtain ⟨t',t4,t5⟩:=U6 hz;have:=g1 t t1;rw[L7 t3] at this;unfold Be at this;simp at this;have:=U4 hb (Nat.le_add_right j' t') e1 t5;lia
  have jp : ∀ (u : Array Keyed) (i : Nat), ML rk a b u i j' -> i' <= i -> (∀ t, i + t < a.size -> ∀ x, a[i + t]? = some x -> rk bj < rk x) -> wpS (model prog w) A E s (do
        let x <- elem' b j'
        if (j'+1==b.size)=true then pure (ForInStep.done (some (u.push x++a.extract i a.size++b.extract (j'+1) b.size),u.push x,i,j'+1,mgx,k,bc'))
        else do
      let z <- elem' a i
      let y <- A2h true z b (j'+1) (b.size - (j'+1)) 0
      match y with
      | some k2 =>
       if k2 > 0 then
        if (j'+1+k2==b.size)=true then pure (ForInStep.done (some (u.push x++b.extract (j'+1) (j'+1+k2)++a.extract i a.size++b.extract (j'+1+k2) b.size),u.push x++b.extract (j'+1) (j'+1+k2),i,j'+1+k2,mgx,k,k2)) else do
         let z <- elem' a i
         if (i+1+1==a.size)=true then pure (ForInStep.done (some ((u.push x++b.extract (j'+1) (j'+1+k2)).push z++b.extract (j'+1+k2) b.size++a.extract (i+1) a.size),(u.push x++b.extract (j'+1) (j'+1+k2)).push z,i+1,j'+1+k2,mgx,k,k2))
         else if (decide (k < 7)&&decide (k2 < 7))=true then pure (ForInStep.done (none,(u.push x++b.extract (j'+1) (j'+1+k2)).push z,i+1,j'+1+k2,mgx,k,k2))
         else pure (ForInStep.yield (none,(u.push x++b.extract (j'+1) (j'+1+k2)).push z,i+1,j'+1+k2,mgx,k,k2))
       else do
        let z <- elem' a i
        if (i+1+1==a.size)=true then pure (ForInStep.done (some ((u.push x).push z++b.extract (j'+1) b.size++a.extract (i+1) a.size),(u.push x).push z,i+1,j'+1,mgx,k,k2))
        else if (decide (k < 7)&&decide (k2 < 7))=true then pure (ForInStep.done (none,(u.push x).push z,i+1,j'+1,mgx,k,k2))
        else pure (ForInStep.yield (none,(u.push x).push z,i+1,j'+1,mgx,k,k2))
      | _=>pure (ForInStep.done (some (u.push x++a.extract i a.size++b.extract (j'+1) b.size),u.push x,i,j'+1,mgx,k,bc')):StateT SortSt Sem (ForInStep (Option (Array Keyed) × Array Keyed × Nat × Nat × Nat × Nat × Nat))) (λr st'=>match r with
    | .done c=>SaM st st'/\((∃ r,c.1=some r/\Rs rk a b r)\/(c.1=none/\ML rk a b c.2.1 c.2.2.1 c.2.2.2.1/\i1+j1<=c.2.2.1+c.2.2.2.1))
    | .yield c=>SaM st st'/\c.1=none/\ML rk a b c.2.1 c.2.2.1 c.2.2.2.1/\i1+j1<=c.2.2.1+c.2.2.2.1) st3:=by
   intro u i m hi above;have mia:=m.ia;refine qd (M2 e1 ?_);have sB:=m.stepB (k:=1) (push1 (u:=u) e2) (by lia) (by
    rw[drop_one e2];intro x hx z hz;rw[zc.mp hx];obtain ⟨t,t1,t2⟩:=U6 hz;exact Int.le_of_lt (above t t1 z t2))
   by_cases c2:(j'+1==b.size)=true
   ·rw[qm c2];exact qe ⟨p1,.inl ⟨_,rfl,sB.1 (by simpa using c2)⟩⟩
   rw[qo c2];have m2:=sB.2 (by simp at c2;lia);have mjb:=m2.jb;obtain ⟨ai,f1,f2,f3⟩:=J7 (a:=a) (i:=i) (by lia);refine qd (M2 f1 ?_);refine qd (A2o P hk3 (sa _ f3) (A90 hb sb (n:=b.size - (j'+1)) (by lia)) (by lia) λk2 hk2 g3 g4=>?_);dsimp only;have last : ∀ (u : Array Keyed) (j : Nat), ML rk a b u i j -> (∀ t, j + t < b.size -> ∀ x, b[j + t]? = some x -> rk ai <= rk x) -> j' < j -> wpS (model prog w) A E s (do
             let z <- elem' a i
             if (i+1+1==a.size)=true then pure (ForInStep.done (some (u.push z++b.extract j b.size++a.extract (i+1) a.size),u.push z,i+1,j,mgx,k,k2))
             else if (decide (k < 7)&&decide (k2 < 7))=true then pure (ForInStep.done (none,u.push z,i+1,j,mgx,k,k2))
             else pure (ForInStep.yield (none,u.push z,i+1,j,mgx,k,k2)):StateT SortSt Sem (ForInStep (Option (Array Keyed) × Array Keyed × Nat × Nat × Nat × Nat × Nat))) (λr st'=>match r with
    | .done c=>SaM st st'/\((∃ r,c.1=some r/\Rs rk a b r)\/(c.1=none/\ML rk a b c.2.1 c.2.2.1 c.2.2.2.1/\i1+j1<=c.2.2.1+c.2.2.2.1))
    | .yield c=>SaM st st'/\c.1=none/\ML rk a b c.2.1 c.2.2.1 c.2.2.2.1/\i1+j1<=c.2.2.1+c.2.2.2.1) st3:=by
    intro u j m below hj;refine qd (M2 f1 ?_);have sA:=m.stepA hla (k:=1) (push1 (u:=u) f2) (by lia) (by
     rw[drop_one f2];intro x hx z hz;rw[zc.mp hx];obtain ⟨t,t1,t2⟩:=U6 hz;exact below t t1 z t2)
    by_cases c3:(i+1+1==a.size)=true
    ·rw[qm c3];exact qe ⟨p1,.inl ⟨_,rfl,sA.1 (by simpa using c3)⟩⟩
    rw[qo c3];have m3:=sA.2 (by simp at c3;lia);split
    ·exact qe ⟨p1,.inr ⟨rfl,m3,by dsimp only;lia⟩⟩
    ·exact qe ⟨p1,rfl,m3,by dsimp only;lia⟩
   have abv:∀ t,k2<=t->j'+1+t < b.size->∀ x,b[j'+1+t]?=some x->rk ai<=rk x:=λt ht hts x hx=>by
    have:=g4 t ht (by lia);rw[L7 hx] at this;unfold Be at this;simp at this;lia
   by_cases ck:k2 > 0
   ·rw[qm ck];have sB2:=m2.stepB (k:=k2) (u':=u.push bj++b.extract (j'+1) (j'+1+k2)) (by rw[Array.toList_append,A7v]) (by lia) (λx hx z hz=>by
     obtain ⟨t,t1,t2,t3⟩:=B35 hx;obtain ⟨t',t4,t5⟩:=U6 hz;have:=g3 t t1;rw[L7 t3] at this;unfold Be at this;simp at this;have:=U4 ha (Nat.le_add_right i t') f1 t5;lia)
    by_cases c3:(j'+1+k2==b.size)=true
    ·rw[qm c3];exact qe ⟨p1,.inl ⟨_,rfl,sB2.1 (by simpa using c3)⟩⟩
    rw[qo c3];refine last _ _ (sB2.2 (by simp at c3;lia)) (λt ht x hx=>abv (k2+t) (by lia) (by lia) x (by rw[show j'+1+(k2+t)=j'+1+k2+t by lia];exact hx)) (by lia)
   ·rw[qo ck];exact last _ _ m2 (λt ht x hx=>abv t (by lia) ht x hx) (by lia)
  have above:∀ t,k<=t->i'+t < a.size->∀ x,a[i'+t]?=some x->rk bj < rk x:=λt ht hts x hx=>by
   have:=g2 t ht (by lia);rw[L7 hx] at this;unfold Be at this;simp at this;exact this
  by_cases ck:k > 0
  ·rw[qm ck];have sA:=p3.stepA hla (k:=k) (u':=u++a.extract i' (i'+k)) (by rw[Array.toList_append,A7v]) kl le1;by_cases c2:(i'+k+1==a.size)=true
   ·rw[qm c2];exact qe ⟨p1,.inl ⟨_,rfl,sA.1 (by simpa using c2)⟩⟩
   rw[qo c2,qo (by simp;lia)];exact jp _ _ (sA.2 (by simp at c2;lia)) (by lia) λt ht x hx=>above (k+t) (by lia) (by lia) x (by rw[<-Nat.add_assoc];exact hx)
  ·rw[qo ck];exact jp _ _ p3 (qp _) λt ht x hx=>above t (by lia) ht x hx
 by_cases cg:mg' > 1
 ·rw[qm cg];refine wpS_mono (body (mg' - 1)) λr st' hr=>?_;cases r with
  | done c=>exact hr
  | yield c=>exact hr
 ·rw[qo cg];refine wpS_mono (body mg') λr st' hr=>?_;cases r with
  | done c=>exact hr
  | yield c=>exact hr
end
theorem C7w (a b:Array Keyed):D3x a b=(do
 rule "list.sort.merge-hi"
 let tt:=a.size+b.size
 let dn (u:Array Keyed) (i j:Nat):=a.extract 0 i++b.extract 0 j++u.reverse
 let fB (u:Array Keyed) (i j:Nat):=b.extract 0 j++a.extract 0 i++u.reverse
 let mut i:=a.size - 1
 let mut j:=b.size
 let mut u:Array Keyed:=#[<-elem' a i]
 if i==0 then return dn u i j
 if j==1 then return fB u i j
 let mut mg:=gallopOf (<- get)
 for _ in [0:tt] do
  let mut ac:=0
  let mut bc:=0
  for _ in [0:tt] do
   let some aw <- lt' (<- elem' b (j - 1)) (<- elem' a (i - 1))|return dn u i j
   if aw then
    i:=i - 1;u:=u.push (<- elem' a i);ac:=ac+1;bc:=0
    if i==0 then return dn u i j
    if ac ≥ mg then break
   else
    j:=j - 1;u:=u.push (<- elem' b j);bc:=bc+1;ac:=0
    if j==1 then return fB u i j
    if bc ≥ mg then break
  rule "list.sort.gallop"
  mg:=mg+1
  for _ in [0:tt] do
   if mg > 1 then mg:=mg - 1
   B1e mg
   let some q <- A2h false (<- elem' b (j - 1)) a 0 i (i - 1)|return dn u i j
   let k:=i - q
   ac:=k
   if k > 0 then
    u:=u++(a.extract q i).reverse;i:=q
    if i==0 then return dn u i j
   j:=j - 1;u:=u.push (<- elem' b j)
   if j==1 then return fB u i j
   let some q <- A2h true (<- elem' a (i - 1)) b 0 j (j - 1)|return dn u i j
   let k:=j - q
   bc:=k
   if k > 0 then
    u:=u++(b.extract q j).reverse;j:=q
    if j==1 then return fB u i j
    if j==0 then return dn u i j
   i:=i - 1;u:=u.push (<- elem' a i)
   if i==0 then return dn u i j
   if ac < 7&&bc < 7 then break
  mg:=mg+1
  B1e mg
 unsupported "internal:list.sort.merge-bound"):=rfl
structure Mh (rk:Keyed->Int) (x y v t:List Keyed):Prop where
 pm:((x++y)++v).Perm t
 so:Sr rk v
 xv:Lq rk x v
 yv:Lq rk y v
 sx:Sr rk x
 sy:Sr rk y
section
variable {rk:Keyed->Int} {x y v t:List Keyed} {k:Nat}
theorem Mh.symm (m:Mh rk x y v t):Mh rk y x v t:=⟨(List.Perm.append_right v List.perm_append_comm).trans m.pm,m.so,m.yv,m.xv,m.sy,m.sx⟩
theorem Mh.snd (m:Mh rk x y v t) (h:Lq rk x (y.drop k)):Mh rk x (y.take k) (y.drop k++v) t:=by
 obtain ⟨c1,c2,c3⟩:=m.sy.cut k;refine ⟨?_,c2.app m.so λa ha b hb=>m.yv a (mem_of_mem_drop ha) b hb,h.appr m.xv,c3.appr λa ha b hb=>m.yv a (mem_of_mem_take ha) b hb,m.sx,c1⟩;have e:(x++y.take k)++(y.drop k++v)=(x++y)++v:=by
  rw[<-append_assoc,append_assoc x,take_append_drop]
 rw[e];exact m.pm
theorem Mh.done (m:Mh rk x y v t) (h:Lq rk x y):(x++y++v).Perm t/\Sr rk (x++y++v):=⟨m.pm,(m.sx.app m.sy h).app m.so (m.xv.app m.yv)⟩
end
structure MH (rk:Keyed->Int) (a b u:Array Keyed) (i j:Nat):Prop where
 ia:1<=i/\i<=a.size
 jb:2<=j/\j<=b.size
 mg:Mh rk (a.toList.take i) (b.toList.take j) u.toList.reverse (a.toList++b.toList)
section
variable {rk:Keyed->Int} {a b u:Array Keyed} {i j k:Nat}
theorem D0f (a:Array Keyed) (i:Nat):(a.extract 0 i).toList=a.toList.take i:=by
 rw[Array.toList_extract,List.extract_eq_drop_take,drop_zero,Nat.sub_zero]
theorem D0g (a:Array Keyed) (q i:Nat):(a.extract q i).toList=(a.toList.take i).drop q:=by
 rw[Array.toList_extract,List.extract_eq_drop_take,List.drop_take]
theorem A3v:(a.extract 0 i++b.extract 0 j++u.reverse).toList=a.toList.take i++b.toList.take j++u.toList.reverse:=by
 rw[Array.toList_append,Array.toList_append,D0f,D0f,Array.toList_reverse]
theorem MH.stepA (m:MH rk a b u i j) (hu:u'.toList.reverse=(a.toList.take i).drop k++u.toList.reverse) (hk:k<=i) (h:Lq rk (b.toList.take j) ((a.toList.take i).drop k)) :
  (k=0->Rs rk a b (a.extract 0 k++b.extract 0 j++u'.reverse))/\(1<=k->MH rk a b u' k j):=by
 have g:=m.mg.symm.snd (k:=k) h;rw[<-hu,List.take_take,Nat.min_eq_left hk] at g;refine ⟨λe=>?_,λe=>⟨⟨e,by have:=m.ia.2;lia⟩,m.jb,g.symm⟩⟩;unfold Rs;rw[A3v];refine g.symm.done λx hx y hy=>?_;rw[e,List.take_zero] at hx;cases hx
theorem MH.stepB (m:MH rk a b u i j) (hf:Lq rk (b.toList.take 1) a.toList) (hu:u'.toList.reverse=(b.toList.take j).drop k++u.toList.reverse) (hk:k<=j) (h:Lq rk (a.toList.take i) ((b.toList.take j).drop k)) :
  (k=1->Rs rk a b (b.extract 0 k++a.extract 0 i++u'.reverse))/\(2<=k->MH rk a b u' i k):=by
 have g:=m.mg.snd (k:=k) h;rw[<-hu,List.take_take,Nat.min_eq_left hk] at g;refine ⟨λe=>?_,λe=>⟨m.ia,⟨e,by have:=m.jb.2;lia⟩,g⟩⟩;unfold Rs;rw[A3v];refine g.symm.done λx hx y hy=>hf x (by rw[e] at hx;exact hx) y (mem_of_mem_take hy)
theorem X3 {x:Keyed} (h:x∈a.toList.take i):∃ t,t < i/\t < a.size/\a[t]?=some x:=by
 obtain ⟨t,ht⟩:=List.getElem?_of_mem h;have hk:t < i:=by
  have:=(qh.mp ht).1;rw[ja] at this;lia
 rw[List.getElem?_take,qm hk,zm] at ht;exact ⟨t,hk,(zl.mp ht).1,ht⟩
theorem B3m {x:Keyed} (h:x∈(a.toList.take i).drop k):∃ t,k<=t/\t < i/\t < a.size/\a[t]?=some x:=by
 obtain ⟨t,ht⟩:=List.getElem?_of_mem h;rw[List.getElem?_drop] at ht;have hk:k+t < i:=by
  have:=(qh.mp ht).1;rw[ja] at this;lia
 rw[List.getElem?_take,qm hk,zm] at ht;exact ⟨k+t,by lia,hk,(zl.mp ht).1,ht⟩
theorem S8 {x:Keyed} (h0:1<=i) (h:a[i - 1]?=some x):(a.toList.take i).drop (i - 1)=[x]:=by
 rw[<-zm] at h;obtain ⟨h1,h2⟩:=qh.mp h;have e:i=(i - 1)+1:=by lia
 rw[show a.toList.take i=a.toList.take (i - 1)++[x] from by rw[e,List.take_succ,Nat.add_sub_cancel,h];rfl];rw[List.drop_append_of_le_length (by rw[ja];lia),List.drop_eq_nil_of_le (by rw[ja];lia)];rfl
end
section
variable {prog:Program} {w:World} {A:Around} {E:Value->Shared->Prop} {s:Shared} {κ:SortKind} {rk:Keyed->Int} {S:Keyed->Prop}
theorem D0x (P:A3j prog w A s κ rk S) {st:SortSt} {a b:Array Keyed} {Q:Array Keyed->SortSt->Prop} (hk:kindOf st=κ) (ha:Sr rk a.toList) (hb:Sr rk b.toList) (sa:∀ x∈a.toList,S x) (sb:∀ x∈b.toList,S x) (na:1<=a.size) (nb:1<=b.size)
  (hf:∀ x y,b[0]?=some x->y∈a.toList->rk x < rk y) (hl:∀ x∈b.toList,∀ y,a[a.size - 1]?=some y->rk x<=rk y)
  (h:∀ r st',SaM st st'->Rs rk a b r->Q r st'):wpS (model prog w) A E s (D3x a b) Q st:=by
 have hfa:Lq rk (b.toList.take 1) a.toList:=λx hx y hy=>by
  obtain ⟨t,t1,t2,t3⟩:=X3 hx;have:t=0:=by lia
  subst this;exact Int.le_of_lt (hf x y t3 hy)
 rw[C7w];refine qd (wpS_lift (wpAny_rule ⟨rfl,?_⟩));dsimp only;obtain ⟨al,e1,e2,e3⟩:=J7 (a:=a) (i:=a.size - 1) (by lia);refine qd (M2 e1 ?_);have h0:Mh rk (a.toList.take a.size) (b.toList.take b.size) [] (a.toList++b.toList):=by
  rw[<-qj,<-qj,take_length,take_length];exact ⟨by simp,.nil,(λ_ _ _ z=>by cases z),(λ_ _ _ z=>by cases z),ha,hb⟩
 have g0:=h0.symm.snd (k:=a.size - 1) (by
  rw[S8 na e1];intro x hx y hy;rw[zc.mp hy];exact hl x (mem_of_mem_take hx) al e1)
 rw[S8 na e1,List.take_take,Nat.min_eq_left (by lia)] at g0;have g0:Mh rk (b.toList.take b.size) (a.toList.take (a.size - 1)) (#[al]:Array Keyed).toList.reverse (a.toList++b.toList):=by simpa using g0
 by_cases c1:(a.size - 1==0)=true
 ·rw[qm c1];refine qe (h _ _ .rfl ?_);unfold Rs;rw[A3v];refine g0.symm.done λx hx y hy=>?_;rw[show a.size - 1=0 by simpa using c1,List.take_zero] at hx;cases hx
 rw[qo c1];by_cases c2:(b.size==1)=true
 ·rw[qm c2];refine qe (h _ _ .rfl ?_);unfold Rs;rw[A3v];refine g0.done λx hx y hy=>hfa x ?_ y (mem_of_mem_take hy);rw[show b.size=1 by simpa using c2] at hx;exact hx
 rw[qo c2];have m0:MH rk a b #[al] (a.size - 1) b.size:=⟨⟨by simp at c1;lia,by lia⟩,⟨by simp at c2;lia,qp _⟩,g0.symm⟩;refine qd (wpS_get ?_);have push1:∀ {u d:Array Keyed} {i:Nat} {x:Keyed},1<=i->d[i - 1]?=some x->(u.push x).toList.reverse=(d.toList.take i).drop (i - 1)++u.toList.reverse:=λ{u d i x} h0 e=>by rw[S8 h0 e];simp
 have chunk:∀ {u d:Array Keyed} {q i:Nat},(u++(d.extract q i).reverse).toList.reverse=(d.toList.take i).drop q++u.toList.reverse:=λ{u d q i}=>by
  rw[Array.toList_append,List.reverse_append,Array.toList_reverse,List.reverse_reverse,D0g]
 refine qd (wpS_mono (wpS_forRange (I:=λx c st'=>SaM st st'/\c.1=none/\MH rk a b c.2.2.2.1 c.2.1 c.2.2.1/\c.2.1+c.2.2.1+x+1<=a.size+b.size) (Q:=λc st'=>SaM st st'/\∃ r,c.1=some r/\Rs rk a b r) ?_ ?_ ⟨.rfl,rfl,m0,by dsimp only;lia⟩) ?_)
 rotate_left
 ·rintro ⟨c1,i,j,u,mg⟩ st' ⟨q1,q2,q3,q4⟩;dsimp only at q2 q3 q4;rw[Nat.zero_max] at q4;lia
 ·rintro ⟨c1,i,j,u,mg⟩ st' ⟨q1,r,q2,q3⟩;dsimp only at q2 ⊢;subst q2;exact qe (h _ _ q1 q3)
 rintro x ⟨c1,i,j,u,mg⟩ st1 _ hx ⟨q1,q2,q3,q4⟩;dsimp only at q2 q3 q4 ⊢;have hk1:kindOf st1=κ:=q1.1.trans hk;refine qd (wpS_mono (wpS_forRange (I:=λx c st'=>st'=st1/\c.1=none/\MH rk a b c.2.2.2.1 c.2.1 c.2.2.1/\c.2.1+c.2.2.1+x<=i+j) (Q:=λc st'=>st'=st1/\((∃ r,c.1=some r/\Rs rk a b r)\/(c.1=none/\MH rk a b c.2.2.2.1 c.2.1 c.2.2.1/\c.2.1+c.2.2.1+1<=i+j))) ?_ ?_ ⟨rfl,rfl,q3,by dsimp only;lia⟩) ?_)
 ·rintro y ⟨c1,i',j',u,ac,bc⟩ st' _ hy ⟨rfl,q2,q3,q4⟩;dsimp only at q2 q3 q4 ⊢;have hia:=q3.ia;have hjb:=q3.jb;obtain ⟨bj,e1,e2,e3⟩:=J7 (a:=b) (i:=j' - 1) (by lia);obtain ⟨ai,f1,f2,f3⟩:=J7 (a:=a) (i:=i' - 1) (by lia);refine qd (M2 e1 (qd (M2 f1 (qd (B21 P hk1 (sb _ e3) (sa _ f3) ?_)))));dsimp only;by_cases c:rk bj < rk ai
  ·simp only[c,decide_true,if_true];refine qd (M2 f1 ?_);have st:=q3.stepA (k:=i' - 1) (push1 (u:=u) hia.1 f1) (by lia) (by
    rw[S8 hia.1 f1];intro x hx z hz;rw[zc.mp hz];obtain ⟨t,t1,t2,t3⟩:=X3 hx;have:=U4 hb (show t<=j' - 1 by lia) t3 e1;lia)
   by_cases c2:(i' - 1==0)=true
   ·rw[qm c2];exact qe ⟨rfl,.inl ⟨_,rfl,st.1 (by simpa using c2)⟩⟩
   rw[qo c2];have st:=st.2 (by simp at c2;lia);split
   ·exact qe ⟨rfl,.inr ⟨rfl,st,by dsimp only;lia⟩⟩
   ·exact qe ⟨rfl,rfl,st,by dsimp only;lia⟩
  ·simp only[c,decide_false,zo,if_false];refine qd (M2 e1 ?_);have st:=q3.stepB hfa (k:=j' - 1) (push1 (u:=u) (by lia) e1) (by lia) (by
    rw[S8 (by lia) e1];intro x hx z hz;rw[zc.mp hz];obtain ⟨t,t1,t2,t3⟩:=X3 hx;have:=U4 ha (show t<=i' - 1 by lia) t3 f1;lia)
   by_cases c2:(j' - 1==1)=true
   ·rw[qm c2];exact qe ⟨rfl,.inl ⟨_,rfl,st.1 (by simpa using c2)⟩⟩
   rw[qo c2];have st:=st.2 (by simp at c2;lia);split
   ·exact qe ⟨rfl,.inr ⟨rfl,st,by dsimp only;lia⟩⟩
   ·exact qe ⟨rfl,rfl,st,by dsimp only;lia⟩
 ·rintro ⟨c1,i',j',u,ac,bc⟩ st' ⟨rfl,q2,q3,q4⟩;dsimp only at q2 q3 q4;rw[Nat.zero_max] at q4;exact ⟨rfl,.inr ⟨q2,q3,by dsimp only;lia⟩⟩
 rintro ⟨c1,i1,j1,u,ac,bc⟩ st' ⟨rfl,q⟩;dsimp only at q ⊢;rcases q with ⟨r,rfl,q⟩|⟨rfl,q3,q4'⟩
 ·exact qe ⟨q1,r,rfl,q⟩
 dsimp only;refine qd (wpS_lift (wpAny_rule ⟨rfl,?_⟩));refine qd (wpS_mono (wpS_forRange (I:=λx c st'=>SaM st st'/\c.1=none/\MH rk a b c.2.2.2.1 c.2.1 c.2.2.1/\c.2.1+c.2.2.1<=i1+j1) (Q:=λc st'=>SaM st st'/\((∃ r,c.1=some r/\Rs rk a b r)\/(c.1=none/\MH rk a b c.2.2.2.1 c.2.1 c.2.2.1/\c.2.1+c.2.2.1<=i1+j1))) ?_ ?_ ⟨q1,rfl,q3,qp _⟩) ?_)
 rotate_left
 ·rintro ⟨c1,i',j',u,mg,ac,bc⟩ st' ⟨p1,p2,p3,p4⟩;exact ⟨p1,.inr ⟨p2,p3,p4⟩⟩
 ·rintro ⟨c1,i',j',u,mg,ac,bc⟩ st' ⟨p1,p⟩;dsimp only at p ⊢;rcases p with ⟨r,rfl,p⟩|⟨rfl,p3,p4⟩
  ·exact qe ⟨p1,r,rfl,p⟩
  ·refine qd (A81 p1 λst2 p1=>qe ⟨p1,rfl,p3,by dsimp only;lia⟩)
 rintro y ⟨c1,i',j',u,mg',ac',bc'⟩ st2 _ hy ⟨p1,p2,p3,p4⟩;dsimp only at p2 p3 p4 ⊢;have body:∀ mgx:Nat,wpS (model prog w) A E s (do
   B1e mgx
   let x <- elem' b (j' - 1)
   let y <- A2h false x a 0 i' (i' - 1)
   match y with
   | some q =>
    let jp:=λ(i:Nat) (u:Array Keyed)=>(do
     let x <- elem' b (j' - 1)
     if (j' - 1==1)=true then pure (ForInStep.done (some (b.extract 0 (j' - 1)++a.extract 0 i++(u.push x).reverse),i,j' - 1,u.push x,mgx,i' - q,bc'))
     else do
      let z <- elem' a (i - 1)
      let y <- A2h true z b 0 (j' - 1) (j' - 1 - 1)
      match y with
      | some q2 =>
       let jq:=λ(j:Nat) (u:Array Keyed)=>(do
        let z <- elem' a (i - 1)
        if (i - 1==0)=true then pure (ForInStep.done (some (a.extract 0 (i - 1)++b.extract 0 j++(u.push z).reverse),i - 1,j,u.push z,mgx,i' - q,j' - 1 - q2))
        else if (decide (i' - q < 7)&&decide (j' - 1 - q2 < 7))=true then pure (ForInStep.done (none,i - 1,j,u.push z,mgx,i' - q,j' - 1 - q2))
        else pure (ForInStep.yield (none,i - 1,j,u.push z,mgx,i' - q,j' - 1 - q2)):StateT SortSt Sem (ForInStep (Option (Array Keyed) × Nat × Nat × Array Keyed × Nat × Nat × Nat)))
       if j' - 1 - q2 > 0 then
        if (q2==1)=true then pure (ForInStep.done (some (b.extract 0 q2++a.extract 0 i++(u.push x++(b.extract q2 (j' - 1)).reverse).reverse),i,q2,u.push x++(b.extract q2 (j' - 1)).reverse,mgx,i' - q,j' - 1 - q2))
        else if (q2==0)=true then pure (ForInStep.done (some (a.extract 0 i++b.extract 0 q2++(u.push x++(b.extract q2 (j' - 1)).reverse).reverse),i,q2,u.push x++(b.extract q2 (j' - 1)).reverse,mgx,i' - q,j' - 1 - q2))
        else jq q2 (u.push x++(b.extract q2 (j' - 1)).reverse)
       else jq (j' - 1) (u.push x)
      | _=>pure (ForInStep.done (some (a.extract 0 i++b.extract 0 (j' - 1)++(u.push x).reverse),i,j' - 1,u.push x,mgx,i' - q,bc')):StateT SortSt Sem (ForInStep (Option (Array Keyed) × Nat × Nat × Array Keyed × Nat × Nat × Nat)))
    if i' - q > 0 then
     if (q==0)=true then pure (ForInStep.done (some (a.extract 0 q++b.extract 0 j'++(u++(a.extract q i').reverse).reverse),q,j',u++(a.extract q i').reverse,mgx,i' - q,bc'))
     else jp q (u++(a.extract q i').reverse)
    else jp i' u
   | _=>pure (ForInStep.done (some (a.extract 0 i'++b.extract 0 j'++u.reverse),i',j',u,mgx,ac',bc'))) (λr st'=>match r with
    | .done c=>SaM st st'/\((∃ r,c.1=some r/\Rs rk a b r)\/(c.1=none/\MH rk a b c.2.2.2.1 c.2.1 c.2.2.1/\c.2.1+c.2.2.1<=i1+j1))
    | .yield c=>SaM st st'/\c.1=none/\MH rk a b c.2.2.2.1 c.2.1 c.2.2.1/\c.2.1+c.2.2.1<=i1+j1) st2:=by
  intro mgx;refine qd (A81 p1 λst3 p1=>?_);have hk3:kindOf st3=κ:=p1.1.trans hk;have hia:=p3.ia;have hjb:=p3.jb;obtain ⟨bj,e1,e2,e3⟩:=J7 (a:=b) (i:=j' - 1) (by lia);refine qd (M2 e1 ?_);refine qd (A2o P hk3 (sb _ e3) (A90 ha sa (i:=0) (n:=i') (by lia)) (by lia) λq hq g1 g2=>?_);dsimp only;have le1:Lq rk (b.toList.take j') ((a.toList.take i').drop q):=λx hx z hz=>by
   obtain ⟨t,t1,t2,t3⟩:=X3 hx;obtain ⟨t',t4,t5,t6,t7⟩:=B3m hz;have:=g2 t' t4 t5;rw[L7 (x:=z) (by rw[Nat.zero_add];exact t7)] at this;unfold Be at this;simp at this;have:=U4 hb (show t<=j' - 1 by lia) t3 e1;lia
  have jp : ∀ (i : Nat) (u : Array Keyed), MH rk a b u i j' -> i <= i' -> (∀ t, t < i -> ∀ x, a[t]? = some x -> rk x <= rk bj) -> wpS (model prog w) A E s (do
        let x <- elem' b (j' - 1)
        if (j' - 1==1)=true then pure (ForInStep.done (some (b.extract 0 (j' - 1)++a.extract 0 i++(u.push x).reverse),i,j' - 1,u.push x,mgx,i' - q,bc'))
        else do
      let z <- elem' a (i - 1)
      let y <- A2h true z b 0 (j' - 1) (j' - 1 - 1)
      match y with
      | some q2 =>
       if j' - 1 - q2 > 0 then
        if (q2==1)=true then pure (ForInStep.done (some (b.extract 0 q2++a.extract 0 i++(u.push x++(b.extract q2 (j' - 1)).reverse).reverse),i,q2,u.push x++(b.extract q2 (j' - 1)).reverse,mgx,i' - q,j' - 1 - q2))
        else if (q2==0)=true then pure (ForInStep.done (some (a.extract 0 i++b.extract 0 q2++(u.push x++(b.extract q2 (j' - 1)).reverse).reverse),i,q2,u.push x++(b.extract q2 (j' - 1)).reverse,mgx,i' - q,j' - 1 - q2))
        else do
         let z <- elem' a (i - 1)
         if (i - 1==0)=true then pure (ForInStep.done (some (a.extract 0 (i - 1)++b.extract 0 q2++((u.push x++(b.extract q2 (j' - 1)).reverse).push z).reverse),i - 1,q2,(u.push x++(b.extract q2 (j' - 1)).reverse).push z,mgx,i' - q,j' - 1 - q2))
         else if (decide (i' - q < 7)&&decide (j' - 1 - q2 < 7))=true then pure (ForInStep.done (none,i - 1,q2,(u.push x++(b.extract q2 (j' - 1)).reverse).push z,mgx,i' - q,j' - 1 - q2))
         else pure (ForInStep.yield (none,i - 1,q2,(u.push x++(b.extract q2 (j' - 1)).reverse).push z,mgx,i' - q,j' - 1 - q2))
       else do
        let z <- elem' a (i - 1)
        if (i - 1==0)=true then pure (ForInStep.done (some (a.extract 0 (i - 1)++b.extract 0 (j' - 1)++((u.push x).push z).reverse),i - 1,j' - 1,(u.push x).push z,mgx,i' - q,j' - 1 - q2))
        else if (decide (i' - q < 7)&&decide (j' - 1 - q2 < 7))=true then pure (ForInStep.done (none,i - 1,j' - 1,(u.push x).push z,mgx,i' - q,j' - 1 - q2))
        else pure (ForInStep.yield (none,i - 1,j' - 1,(u.push x).push z,mgx,i' - q,j' - 1 - q2))
      | _=>pure (ForInStep.done (some (a.extract 0 i++b.extract 0 (j' - 1)++(u.push x).reverse),i,j' - 1,u.push x,mgx,i' - q,bc')):StateT SortSt Sem (ForInStep (Option (Array Keyed) × Nat × Nat × Array Keyed × Nat × Nat × Nat))) (λr st'=>match r with
    | .done c=>SaM st st'/\((∃ r,c.1=some r/\Rs rk a b r)\/(c.1=none/\MH rk a b c.2.2.2.1 c.2.1 c.2.2.1/\c.2.1+c.2.2.1<=i1+j1))
    | .yield c=>SaM st st'/\c.1=none/\MH rk a b c.2.2.2.1 c.2.1 c.2.2.1/\c.2.1+c.2.2.1<=i1+j1) st3:=by
   intro i u m hi below;have mia:=m.ia;refine qd (M2 e1 ?_);have sB:=m.stepB hfa (k:=j' - 1) (push1 (u:=u) (by lia) e1) (by lia) (by
    rw[S8 (by lia) e1];intro x hx z hz;rw[zc.mp hz];obtain ⟨t,t1,t2,t3⟩:=X3 hx;exact below t t1 x t3)
   by_cases c2:(j' - 1==1)=true
   ·rw[qm c2];exact qe ⟨p1,.inl ⟨_,rfl,sB.1 (by simpa using c2)⟩⟩
   rw[qo c2];have m2:=sB.2 (by simp at c2;lia);have mjb:=m2.jb;obtain ⟨ai,f1,f2,f3⟩:=J7 (a:=a) (i:=i - 1) (by lia);refine qd (M2 f1 ?_);refine qd (A2o P hk3 (sa _ f3) (A90 hb sb (i:=0) (n:=j' - 1) (by lia)) (by lia) λq2 hq2 g3 g4=>?_);dsimp only;have q2pos:1<=q2:=by
    rcases Nat.lt_or_ge 0 q2 with z|z
    ·exact z
    ·exfalso;obtain ⟨b0,d1,d2,d3⟩:=J7 (a:=b) (i:=0) (by lia);have:=g4 0 z (by lia);rw[L7 (x:=b0) (by exact d1)] at this;unfold Be at this;simp at this;have:=hf b0 ai d1 f3;lia
   have last : ∀ (j : Nat) (u : Array Keyed), MH rk a b u i j -> (∀ t, t < j -> ∀ x, b[t]? = some x -> rk x <= rk ai) -> j < j' -> wpS (model prog w) A E s (do
             let z <- elem' a (i - 1)
             if (i - 1==0)=true then pure (ForInStep.done (some (a.extract 0 (i - 1)++b.extract 0 j++(u.push z).reverse),i - 1,j,u.push z,mgx,i' - q,j' - 1 - q2))
             else if (decide (i' - q < 7)&&decide (j' - 1 - q2 < 7))=true then pure (ForInStep.done (none,i - 1,j,u.push z,mgx,i' - q,j' - 1 - q2))
             else pure (ForInStep.yield (none,i - 1,j,u.push z,mgx,i' - q,j' - 1 - q2)):StateT SortSt Sem (ForInStep (Option (Array Keyed) × Nat × Nat × Array Keyed × Nat × Nat × Nat))) (λr st'=>match r with
    | .done c=>SaM st st'/\((∃ r,c.1=some r/\Rs rk a b r)\/(c.1=none/\MH rk a b c.2.2.2.1 c.2.1 c.2.2.1/\c.2.1+c.2.2.1<=i1+j1))
    | .yield c=>SaM st st'/\c.1=none/\MH rk a b c.2.2.2.1 c.2.1 c.2.2.1/\c.2.1+c.2.2.1<=i1+j1) st3:=by
    intro j u m above hj;refine qd (M2 f1 ?_);have sA:=m.stepA (k:=i - 1) (push1 (u:=u) mia.1 f1) (by lia) (by
     rw[S8 mia.1 f1];intro x hx z hz;rw[zc.mp hz];obtain ⟨t,t1,t2,t3⟩:=X3 hx;exact above t t1 x t3)
    by_cases c3:(i - 1==0)=true
    ·rw[qm c3];exact qe ⟨p1,.inl ⟨_,rfl,sA.1 (by simpa using c3)⟩⟩
    rw[qo c3];have m3:=sA.2 (by simp at c3;lia);split
    ·exact qe ⟨p1,.inr ⟨rfl,m3,by dsimp only;lia⟩⟩
    ·exact qe ⟨p1,rfl,m3,by dsimp only;lia⟩
   have blw:∀ t,t < q2->∀ x,b[t]?=some x->rk x<=rk ai:=λt ht x hx=>by
    have:=g3 t ht;rw[L7 (x:=x) (by rw[Nat.zero_add];exact hx)] at this;unfold Be at this;simp at this;lia
   by_cases ck:j' - 1 - q2 > 0
   ·rw[qm ck];have sB2:=m2.stepB hfa (k:=q2) (u':=u.push bj++(b.extract q2 (j' - 1)).reverse) chunk (by lia) (λx hx z hz=>by
     obtain ⟨t,t1,t2,t3⟩:=X3 hx;obtain ⟨t',t4,t5,t6,t7⟩:=B3m hz;have:=g4 t' t4 t5;rw[L7 (x:=z) (by rw[Nat.zero_add];exact t7)] at this;unfold Be at this;simp at this;have:=U4 ha (show t<=i - 1 by lia) t3 f1;lia)
    by_cases c3:(q2==1)=true
    ·rw[qm c3];exact qe ⟨p1,.inl ⟨_,rfl,sB2.1 (by simpa using c3)⟩⟩
    rw[qo c3,qo (by simp;lia)];exact last _ _ (sB2.2 (by simp at c3;lia)) blw (by lia)
   ·rw[qo ck];exact last _ _ m2 (λt ht x hx=>blw t (by lia) x hx) (by lia)
  have below:∀ t,t < q->∀ x,a[t]?=some x->rk x<=rk bj:=λt ht x hx=>by
   have:=g1 t ht;rw[L7 (x:=x) (by rw[Nat.zero_add];exact hx)] at this;unfold Be at this;simp at this;exact this
  by_cases ck:i' - q > 0
  ·rw[qm ck];have sA:=p3.stepA (k:=q) (u':=u++(a.extract q i').reverse) chunk hq le1;by_cases c2:(q==0)=true
   ·rw[qm c2];exact qe ⟨p1,.inl ⟨_,rfl,sA.1 (by simpa using c2)⟩⟩
   rw[qo c2];exact jp _ _ (sA.2 (by simp at c2;lia)) (by lia) below
  ·rw[qo ck];exact jp _ _ p3 (qp _) λt ht x hx=>below t (by lia) x hx
 by_cases cg:mg' > 1
 ·rw[qm cg];refine wpS_mono (body (mg' - 1)) λr st' hr=>?_;cases r with
  | done c=>exact hr
  | yield c=>exact hr
 ·rw[qo cg];refine wpS_mono (body mg') λr st' hr=>?_;cases r with
  | done c=>exact hr
  | yield c=>exact hr
end
def Kr (rk:Keyed->Int) (xs:Array Keyed) (i:Nat):Int:=match xs[i]? with
 | some p=>rk p
 | none=>0
structure Wk (xs ys:Array Keyed) (lo hi:Nat):Prop where
 perm:ys.Perm xs
 keep:∀ i,(i < lo\/hi<=i)->ys[i]?=xs[i]?
section
variable {rk:Keyed->Int} {xs ys zs:Array Keyed} {lo hi i j:Nat}
theorem Wk.refl (xs:Array Keyed) (lo hi:Nat):Wk xs xs lo hi:=⟨Array.Perm.refl _,λ_ _=>rfl⟩
theorem Wk.trans (h:Wk xs ys lo hi) (g:Wk ys zs lo hi):Wk xs zs lo hi:=⟨g.perm.trans h.perm,λi q=>(g.keep i q).trans (h.keep i q)⟩
theorem Wk.mir (hl:lo<=i) (hj:j<=hi) (hs:j<=xs.size):Wk xs (mirror xs i j ((j - i) / 2)) lo hi:=⟨mirror_perm _ _ _ _,λt q=>by
 rw[getElem?_mirror_all hs,qo (by lia)]⟩
theorem Wk.bub (hs:src < xs.size) (hd:d<=src) (hl:lo<=src - d) (hh:src < hi):Wk xs (bubble xs src d) lo hi:=⟨bubble_perm _ _ _,λt q=>by
 rw[getElem?_bubble hs d hd,qo (by lia),qo (by lia)]⟩
theorem A50 {x:Keyed} (h:xs[i]?=some x):Kr rk xs i=rk x:=by unfold Kr;rw[h]
theorem A4u (h:xs[i]?=ys[j]?):Kr rk xs i=Kr rk ys j:=by unfold Kr;rw[h]
theorem C3k (hj:j<=xs.size) (k:Nat):Kr rk (mirror xs i j ((j - i) / 2)) k=if i<=k/\k < j then Kr rk xs (i+j - 1 - k) else Kr rk xs k:=by
 have e:=getElem?_mirror_all (i:=i) hj k;split
 ·rw[qm ‹_›] at e;exact A4u e
 ·rw[qo ‹_›] at e;exact A4u e
theorem C1m (hs:src < xs.size) (hd:d<=src) (k:Nat):Kr rk (bubble xs src d) k=if k=src - d then Kr rk xs src else if src - d < k/\k<=src then Kr rk xs (k - 1) else Kr rk xs k:=by
 have e:=getElem?_bubble hs d hd k;split
 ·rw[qm ‹_›] at e;exact A4u e
 ·rw[qo ‹_›] at e;split
  ·rw[qm ‹_›] at e;exact A4u e
  ·rw[qo ‹_›] at e;exact A4u e
def SoI (rk:Keyed->Int) (xs:Array Keyed) (lo n:Nat):Prop:=∀ i j,lo<=i->i<=j->j < lo+n->Kr rk xs i<=Kr rk xs j
def DsI (rk:Keyed->Int) (xs:Array Keyed) (lo n:Nat):Prop:=∀ i j,lo<=i->i<=j->j < lo+n->Kr rk xs j<=Kr rk xs i
structure Its (rk:Keyed->Int) (S:Keyed->Prop) (xs:Array Keyed):Prop where
 ok:∀ x∈xs.toList,S x
 nd:(xs.toList.map rk).Nodup
theorem Its.perm (h:Its rk S xs) (p:ys.Perm xs):Its rk S ys:=by
 have p:=Array.perm_iff_toList_perm.mp p;exact ⟨λx hx=>h.ok x (p.mem_iff.mp hx),(p.map rk).nodup_iff.mpr h.nd⟩
theorem Its.ne (h:Its rk S xs) (hi:i < xs.size) (hj:j < xs.size) (e:i≠j):Kr rk xs i≠Kr rk xs j:=by
 obtain ⟨x,x1,x2,_⟩:=J7 hi;obtain ⟨y,y1,y2,_⟩:=J7 hj;rw[A50 x1,A50 y1];intro z;have g1:(xs.toList.map rk)[i]?=some (rk x):=by rw[qk,x2];rfl
 have g2:(xs.toList.map rk)[j]?=some (rk y):=by rw[qk,y2];rfl
 exact e ((List.getElem?_inj (by rw[qf,qj];exact hi) h.nd).mp (by rw[g1,g2,z]))
end
section
variable {prog:Program} {w:World} {A:Around} {E:Value->Shared->Prop} {s:Shared} {κ:SortKind} {rk:Keyed->Int} {S:Keyed->Prop}
theorem B1b (P:A3j prog w A s κ rk S) {st:SortSt} {i j:Nat} (hk:kindOf st=κ) (I:Its rk S (arrOf st)) (hi:i < (arrOf st).size) (hj:j < (arrOf st).size) (h:Q (some (decide (Kr rk (arrOf st) i < Kr rk (arrOf st) j))) st):wpS (model prog w) A E s (ltAt' i j) Q st:=by
 obtain ⟨x,x1,x2,x3⟩:=J7 hi;obtain ⟨y,y1,y2,y3⟩:=J7 hj;rw[ltAt'_eq];refine qd (wpS_get ?_);refine qd (M2 x1 (qd (M2 y1 (B21 P hk (I.ok x x3) (I.ok y y3) ?_))));rw[<-A50 (rk:=rk) x1,<-A50 (rk:=rk) y1];exact h
theorem C1s (P:A3j prog w A s κ rk S) {st:SortSt} {ok:Nat} {Q:Bool->SortSt->Prop} (hk:kindOf st=κ) (I:Its rk S (arrOf st)) (hn:lo+n<=(arrOf st).size) (hok:ok<=n) (hs:SoI rk (arrOf st) lo ok)
  (h:∀ ys,Wk (arrOf st) ys lo (lo+n)->SoI rk ys lo n->Q true (setArr st ys)):wpS (model prog w) A E s (binarySort' lo n ok) Q st:=by
 rw[binarySort'_eq];refine qd (wpS_mono (wpS_forRange (I:=λk c st'=>c=(none,())/\∃ ys,st'=setArr st ys/\Wk (arrOf st) ys lo (lo+n)/\SoI rk ys lo (min k n)) (Q:=λc st'=>c=(none,())/\∃ ys,st'=setArr st ys/\Wk (arrOf st) ys lo (lo+n)/\SoI rk ys lo n) ?st ?fi ⟨rfl,arrOf st,rfl,Wk.refl _ _ _,λi j h1 h2 h3=>?ini⟩) ?po)
 case po =>
  rintro c st' ⟨rfl,ys,rfl,w1,w2⟩;exact qe (h ys w1 w2)
 case fi =>
  rintro c st' ⟨hc,ys,e,w1,w2⟩;rw[show min (max (max ok 1) n) n=n by lia] at w2;exact ⟨hc,ys,e,w1,w2⟩
 case ini =>
  by_cases e:ok=0
  ·obtain rfl:i=j:=by lia
   exact Int.le_refl _
  ·exact hs i j h1 h2 (by lia)
 case st =>
  rintro k c st' hak hkn ⟨rfl,ys,rfl,w1,w2⟩;rw[show min k n=k by lia] at w2;have sz:ys.size=(arrOf st).size:=w1.perm.size_eq;have Iy:=I.perm w1.perm;refine qd (wpS_mono (wpS_forRange (I:=λx c st2=>st2=setArr st ys/\∃ l r,c=(none,l,r)/\l<=r/\r<=k/\r - l<=k - x/\(∀ i,i < l->Kr rk ys (lo+i)<=Kr rk ys (lo+k))/\∀ i,r<=i->i < k->Kr rk ys (lo+k) < Kr rk ys (lo+i))
   (Q:=λc st2=>st2=setArr st ys/\∃ l r,c=(none,l,r)/\l<=k/\(∀ i,i < l->Kr rk ys (lo+i)<=Kr rk ys (lo+k))/\∀ i,l<=i->i < k->Kr rk ys (lo+k) < Kr rk ys (lo+i)) ?s2 ?f2 ⟨rfl,0,k,rfl,by lia,by lia,by lia,(λi hi=>by lia),λi h1 h2=>by lia⟩) ?p2)
  case f2 =>
   rintro c st2 ⟨rfl,l,r,rfl,a1,a2,a3,a4,a5⟩;obtain rfl:l=r:=by lia
   exact ⟨rfl,l,l,rfl,a2,a4,a5⟩
  case s2 =>
   rintro x c st2 _ hx ⟨rfl,l,r,rfl,a1,a2,a3,a4,a5⟩;dsimp only;by_cases e:l ≥ r
   ·rw[qm e];obtain rfl:l=r:=by lia
    exact qe ⟨rfl,l,l,rfl,a2,a4,a5⟩
   rw[qo e];refine qd (B1b P hk Iy (show lo+k < ys.size by lia) (show lo+(l+r) / 2 < ys.size by lia) ?_);dsimp only;by_cases c:Kr rk ys (lo+k) < Kr rk ys (lo+(l+r) / 2)
   ·simp only[show Kr rk (arrOf (setArr st ys)) (lo+k) < Kr rk (arrOf (setArr st ys)) (lo+(l+r) / 2) from c,decide_true,if_true];refine qe ⟨rfl,l,(l+r) / 2,rfl,by lia,by lia,by lia,a4,λi h1 h2=>?_⟩;have:=w2 (lo+(l+r) / 2) (lo+i) (by lia) (by lia) (by lia);lia
   ·simp only[show ¬ Kr rk (arrOf (setArr st ys)) (lo+k) < Kr rk (arrOf (setArr st ys)) (lo+(l+r) / 2) from c,decide_false,zo,if_false];refine qe ⟨rfl,(l+r) / 2+1,r,rfl,by lia,by lia,by lia,λi h1=>?_,a5⟩;have:=w2 (lo+i) (lo+(l+r) / 2) (by lia) (by lia) (by lia);lia
  case p2 =>
   rintro c st2 ⟨rfl,l,r,rfl,a1,a4,a5⟩;show wpS _ _ _ _ (do moveDown' (lo+k) (lo+l);pure (ForInStep.yield (none,()))) _ _;rw[moveDown'_eq];have d1:lo+k - (lo+l)<=lo+k:=by lia
   refine qd (wpS_modify (qe ⟨rfl,bubble ys (lo+k) (lo+k - (lo+l)),rfl,w1.trans (Wk.bub (by lia) d1 (by lia) (by lia)),?_⟩));rw[show min (k+1) n=k+1 by lia];intro i j h1 h2 h3;rw[C1m (by lia) d1,C1m (by lia) d1,show lo+k - (lo+k - (lo+l))=lo+l by lia];have up:∀ t,lo+l<=t->t < lo+k->Kr rk ys (lo+k) < Kr rk ys t:=λt t1 t2=>by
    have:=a5 (t - lo) (by lia) (by lia);rw[show lo+(t - lo)=t by lia] at this;exact this
   have dn:∀ t,lo<=t->t < lo+l->Kr rk ys t<=Kr rk ys (lo+k):=λt t1 t2=>by
    have:=a4 (t - lo) (by lia);rw[show lo+(t - lo)=t by lia] at this;exact this
   repeat' split
   all_goals first
    | (exfalso;lia)
    | exact Int.le_refl _
    | exact dn _ (by lia) (by lia)
    | exact Int.le_of_lt (up _ (by lia) (by lia))
    | exact w2 _ _ (by lia) (by lia) (by lia)
theorem C08 (P:A3j prog w A s κ rk S) {st:SortSt} {a:Nat} {Q:Option (Option Nat) × Nat->SortSt->Prop} (hk:kindOf st=κ) (I:Its rk S (arrOf st)) (hn:lo+nrem<=(arrOf st).size) (ha:1<=a) (han:a<=nrem) (hs:SoI rk (arrOf st) lo a)
  (h:∀ n,a<=n->n<=nrem->SoI rk (arrOf st) lo n->(n=nrem\/Kr rk (arrOf st) (lo+n) < Kr rk (arrOf st) (lo+n - 1))->Q (none,n) st) :
  wpS (model prog w) A E s (forIn [a:nrem] ((none,a):Option (Option Nat) × Nat) λ_ c=>do
   let x <- ltAt' (lo+c.2) (lo+c.2 - 1)
   match x with
   | some sm=>if sm=true then pure (ForInStep.done (none,c.2)) else pure (ForInStep.yield (none,c.2+1))
   | _=>pure (ForInStep.done (some none,c.2))) Q st:=by
 refine wpS_forRange (I:=λx c st'=>st'=st/\c=(none,x)/\SoI rk (arrOf st) lo x) ?_ ?_ ⟨rfl,rfl,hs⟩
 ·rintro x c st' h1 h2 ⟨rfl,rfl,h3⟩;dsimp only;refine qd (B1b P hk I (by lia) (by lia) ?_);dsimp only;by_cases c:Kr rk (arrOf st') (lo+x) < Kr rk (arrOf st') (lo+x - 1)
  ·simp only[c,decide_true,if_true];exact qe (h x h1 (by lia) h3 (.inr c))
  ·simp only[c,decide_false,zo,if_false];refine qe ⟨rfl,rfl,λi j i1 i2 i3=>?_⟩;by_cases hj:j < lo+x
   ·exact h3 i j i1 i2 hj
   ·obtain rfl:j=lo+x:=by lia
    by_cases hi:i=lo+x
    ·rw[hi];exact Int.le_refl _
    ·have:=h3 i (lo+x - 1) i1 (by lia) (by lia);lia
 ·rintro c st' ⟨rfl,rfl,h3⟩;rw[show max a nrem=nrem by lia] at h3 ⊢;exact h nrem han (qp _) h3 (.inl rfl)
theorem C0z (P:A3j prog w A s κ rk S) {st:SortSt} {Q:Option Nat->SortSt->Prop} (hk:kindOf st=κ) (I:Its rk S (arrOf st)) (hn:lo+nrem<=(arrOf st).size) (h1:1<=nrem)
  (h:∀ n ys,1<=n->n<=nrem->Wk (arrOf st) ys lo (lo+nrem)->SoI rk ys lo n->Q (some n) (setArr st ys)):wpS (model prog w) A E s (countRun' lo nrem) Q st:=by
 rw[countRun'_eq];dsimp only;have one:SoI rk (arrOf st) lo 1:=λi j i1 i2 i3=>by
  obtain rfl:i=j:=by lia
  exact Int.le_refl _
 refine qd (C08 P hk I hn (qp _) h1 one λn n1 n2 n3 n4=>?_);dsimp only;by_cases c1:(n==nrem)=true
 ·rw[qm c1];exact qe (h n (arrOf st) n1 n2 (Wk.refl _ _ _) n3)
 rw[qo c1];have n4:Kr rk (arrOf st) (lo+n) < Kr rk (arrOf st) (lo+n - 1):=by
  rcases n4 with z|z
  ·simp[z] at c1
  ·exact z
 by_cases c2:n > 1
 ·rw[qm c2];refine qd (B1b P hk I (by lia) (by lia) ?_);dsimp only;have le:=n3 lo (lo+n - 1) (qp _) (by lia) (by lia);have ne:=I.ne (i:=lo) (j:=lo+n - 1) (by lia) (by lia) (by lia);rw[qm (by rw[zq];lia)];exact qe (h n (arrOf st) n1 n2 (Wk.refl _ _ _) n3)
 rw[qo c2];obtain rfl:n=1:=by lia
 have n5:1 < nrem:=by simp at c1;lia
 refine qd (wpS_lift (wpAny_rule ⟨rfl,?_⟩));have two:DsI rk (arrOf st) lo 2:=λi j i1 i2 i3=>by
  by_cases e:i=j
  ·rw[e];exact Int.le_refl _
  ·obtain rfl:i=lo:=by lia
   obtain rfl:j=i+1:=by lia
   rw[show i+1 - 1=i by lia] at n4;lia
 refine qd (wpS_mono (wpS_forRange (I:=λx c st'=>st'=st/\c=(none,x,0)/\DsI rk (arrOf st) lo x) (Q:=λc st'=>st'=st/\∃ m,c=(none,m,0)/\2<=m/\m<=nrem/\DsI rk (arrOf st) lo m) ?_ ?_ ⟨rfl,rfl,two⟩) ?_)
 ·rintro x c st' x1 x2 ⟨rfl,rfl,x3⟩;dsimp only;refine qd (B1b P hk I (by lia) (by lia) ?_);dsimp only;by_cases c:Kr rk (arrOf st') (lo+x) < Kr rk (arrOf st') (lo+x - 1)
  ·simp only[c,decide_true,if_true];rw[qo (by lia)];refine qe ⟨rfl,rfl,λi j i1 i2 i3=>?_⟩;by_cases hj:j < lo+x
   ·exact x3 i j i1 i2 hj
   ·obtain rfl:j=lo+x:=by lia
    by_cases hi:i=lo+x
    ·rw[hi];exact Int.le_refl _
    ·have:=x3 i (lo+x - 1) i1 (by lia) (by lia);lia
  ·simp only[c,decide_false,zo,if_false];refine qd (B1b P hk I (by lia) (by lia) ?_);dsimp only;have ne:=I.ne (i:=lo+x) (j:=lo+x - 1) (by lia) (by lia) (by lia);rw[qm (by rw[zq];lia)];exact qe ⟨rfl,x,rfl,x1,by lia,x3⟩
 ·rintro c st' ⟨rfl,rfl,x3⟩;rw[show max (1+1) nrem=nrem by lia] at x3 ⊢;exact ⟨rfl,nrem,rfl,by lia,qp _,x3⟩
 rintro c st' ⟨rfl,m,rfl,m1,m2,m3⟩;dsimp only;rw[qo (by lia),reverseSlice'_eq];refine qd (wpS_modify ?_);have wk:Wk (arrOf st') (mirror (arrOf st') lo (lo+m) ((lo+m - lo) / 2)) lo (lo+nrem):=Wk.mir (qp _) (by lia) (by lia);have up:SoI rk (mirror (arrOf st') lo (lo+m) ((lo+m - lo) / 2)) lo m:=λi j i1 i2 i3=>by
  rw[C3k (by lia),C3k (by lia),qm (by lia),qm (by lia)];exact m3 _ _ (by lia) (by lia) (by lia)
 refine qd (C08 P (st:=setArr st' (mirror (arrOf st') lo (lo+m) ((lo+m - lo) / 2))) hk (I.perm wk.perm) (by show lo+nrem<=(mirror _ _ _ _).size;rw[mirror_size];exact hn) (by lia) m2 up λn' a1 a2 a3 a4=>?_);exact qe (h n' _ (by lia) a2 wk a3)
end
theorem C77 (i:Nat):mergeAt' i=(do
 let t <- get
 let (some (sa,na,pw),some (sb,nb,_)):=((pendingOf t)[i]?,(pendingOf t)[i+1]?)|unsupported "internal:list.sort.pending"
 set (SortSt.mk' (kindOf t) (arrOf t) (((pendingOf t).setIfInBounds i (sa,na+nb,pw)).eraseIdxIfInBounds (i+1)) (gallopOf t) (failedOf t))
 let some k <- A2h false (<- elem' (arrOf t) sb) (arrOf t) sa na 0|return false
 let (sa,na):=(sa+k,na - k)
 if na==0 then return true
 let some nb <- A2h true (<- elem' (arrOf t) (sa+na - 1)) (arrOf t) sb nb (nb - 1)|return false
 if nb==0 then return true
 let x:=(arrOf t).extract sa sb
 let y:=(arrOf t).extract sb (sb+nb)
 let r <- if na<=nb then D4y x y else D3x x y
 modify λt=>setArr t (r.toList.zipIdx.foldl (λc (p,j)=>c.setIfInBounds (sa+j) p) (arrOf t))
 return (failedOf (<- get)).isNone):=rfl
theorem B5l (sa:Nat):∀ (l:List Keyed) (n:Nat) (c:Array Keyed),sa+n+l.length<=c.size->((l.zipIdx n).foldl (λc (q:Keyed × Nat)=>c.setIfInBounds (sa+q.2) q.1) c).toList=c.toList.take (sa+n)++l++c.toList.drop (sa+n+l.length)
 | [],n,c,_=>by simp
 | x::l,n,c,h=>by
  rw[length_cons] at h;rw[List.zipIdx_cons,List.foldl_cons,B5l sa l (n+1) _ (by rw[Array.size_setIfInBounds];lia)];have e:(c.setIfInBounds (sa+n) x).toList=c.toList.set (sa+n) x:=Array.toList_setIfInBounds ..;rw[e,length_cons];have h1:(c.toList.set (sa+n) x).take (sa+(n+1))=c.toList.take (sa+n)++[x]:=by
   rw[show sa+(n+1)=sa+n+1 by lia,List.take_succ,List.take_set_of_le (qp _),List.getElem?_set_self (by rw[qj];lia)];rfl
  rw[h1,List.drop_set_of_lt (by lia),show sa+(n+1)+l.length=sa+n+(l.length+1) by lia];simp
section
variable {prog:Program} {w:World} {A:Around} {E:Value->Shared->Prop} {s:Shared} {κ:SortKind} {rk:Keyed->Int} {S:Keyed->Prop}
theorem D5l {st st2:SortSt} {Q:PUnit->SortSt->Prop} (h:Q ⟨⟩ st2):wpS (model prog w) A E s (set st2:StateT SortSt Sem PUnit) Q st:=by
 unfold wpS;rw[StateT.run_set];exact qc ⟨rfl,h⟩
theorem B2n {xs:Array Keyed} (hn:lo+n<=xs.size):SoI rk xs lo n->Sr rk ((xs.toList.drop lo).take n):=λh=>by
 unfold Sr;rw[List.pairwise_iff_getElem];intro i j hi hj hij;rw[ja,length_drop,qj] at hj;have e:∀ t (ht:t < ((xs.toList.drop lo).take n).length),xs[lo+t]?=some ((xs.toList.drop lo).take n)[t]:=λt ht=>by
  have ht':=ht;rw[ja] at ht';have q:=zd ht;rw[List.getElem?_take,qm (by lia),List.getElem?_drop,zm] at q;exact q
 have:=h (lo+i) (lo+j) (by lia) (by lia) (by lia);rw[A50 (e i hi),A50 (e j (by rw[ja,length_drop,qj];exact hj))] at this;exact this
theorem D2x (P:A3j prog w A s κ rk S) {st:SortSt} {n1 n2 pw pw2:Nat} {Q:Bool->SortSt->Prop} (hk:kindOf st=κ) (hf0:failedOf st=none) (I:Its rk S (arrOf st)) (hp:pendingOf st=#[(0,n1,pw),(n1,n2,pw2)]) (hn:n1+n2=(arrOf st).size) (h1:1<=n1) (h2:1<=n2) (s1:SoI rk (arrOf st) 0 n1) (s2:SoI rk (arrOf st) n1 n2)
  (h:∀ st',kindOf st'=κ->failedOf st'=none->(pendingOf st').size<=1->(arrOf st').Perm (arrOf st)->Sr rk (arrOf st').toList->Q true st'):wpS (model prog w) A E s (mergeAt' 0) Q st:=by
 rw[C77];refine qd (wpS_get ?_);rw[hp];dsimp only;rw[show (#[(0,n1,pw),(n1,n2,pw2)]:Array (Nat × Nat × Nat))[0]?=some (0,n1,pw) from rfl,show (#[(0,n1,pw),(n1,n2,pw2)]:Array (Nat × Nat × Nat))[0+1]?=some (n1,n2,pw2) from rfl];dsimp only;rw[show ((#[(0,n1,pw),(n1,n2,pw2)]:Array (Nat × Nat × Nat)).setIfInBounds 0 (0,n1+n2,pw)).eraseIdxIfInBounds (0+1)=#[(0,n1+n2,pw)] from by
  rw[Array.eraseIdxIfInBounds_eq,dif_pos (by simp)];apply Array.toList_inj.mp;simp]
 refine qd (D5l ?_);generalize hst:SortSt.mk' (kindOf st) (arrOf st) #[(0,n1+n2,pw)] (gallopOf st) (failedOf st)=sta;have ka:kindOf sta=κ:=by rw[<-hst];exact hk
 have fa:failedOf sta=none:=by rw[<-hst];exact hf0
 have aa:arrOf sta=arrOf st:=by rw[<-hst]
 have pa:(pendingOf sta).size<=1:=by rw[<-hst];exact qp 1
 clear hst;revert hn s1 s2 I h aa;generalize arrOf st=c;intro I hn s1 s2 h aa;obtain ⟨b0,b1,b2,b3⟩:=J7 (a:=c) (i:=n1) (by lia);refine qd (M2 b1 ?_);have S1:Sr rk (c.toList.take n1):=by have:=B2n (lo:=0) (n:=n1) (by lia) s1;rwa [drop_zero] at this
 have S2:Sr rk (c.toList.drop n1):=by
  have:=B2n (lo:=n1) (n:=n2) (by lia) s2
  rwa [List.take_of_length_le (by rw[length_drop,qj];lia)] at this
 have kr:∀ {i:Nat} {x:Keyed},c[i]?=some x->Kr rk c i=rk x:=λe=>A50 e;have G1:Gal rk S false b0 c 0 n1 (gF rk false b0 c 0):=by
  refine ⟨λt ht=>?_,λp q hpq hq e=>?_⟩
  ·obtain ⟨x,x1,x2,x3⟩:=J7 (a:=c) (i:=0+t) (by lia);exact ⟨x,x1,I.ok x x3,(L7 x1).symm⟩
  ·obtain ⟨x,x1,_,_⟩:=J7 (a:=c) (i:=0+p) (by lia);obtain ⟨y,y1,_,_⟩:=J7 (a:=c) (i:=0+q) (by lia);have:=s1 (0+p) (0+q) (by lia) (by lia) (by lia);rw[kr x1,kr y1] at this;rw[L7 y1] at e;rw[L7 x1];unfold Be at e ⊢;simp at e ⊢;lia
 refine qd (A2o P ka (I.ok _ b3) G1 (by lia) λk hk1 g1 g2=>?_);dsimp only;rw[Nat.zero_add];have lo1:∀ t x,t < k->c[t]?=some x->rk x<=rk b0:=λt x ht hx=>by
  have:=g1 t ht;rw[L7 (x:=x) (by rw[Nat.zero_add];exact hx)] at this;unfold Be at this;simp at this;exact this
 have hi1:∀ t x,k<=t->t < n1->c[t]?=some x->rk b0 < rk x:=λt x ht htn hx=>by
  have:=g2 t ht htn;rw[L7 (x:=x) (by rw[Nat.zero_add];exact hx)] at this;unfold Be at this;simp at this;exact this
 have bs:∀ t x,n1<=t->t < c.size->c[t]?=some x->rk b0<=rk x:=λt x ht htn hx=>by
  have:=s2 n1 t (qp _) ht (by lia);rw[kr b1,kr hx] at this;exact this
 by_cases c1:(n1 - k==0)=true
 ·rw[qm c1];refine qe (h _ ka fa pa (by rw[aa]) ?_);rw[aa,<-take_append_drop n1 c.toList];refine S1.app S2 λx hx y hy=>?_;obtain ⟨t,t1,t2,t3⟩:=X3 hx;obtain ⟨t',t4,t5⟩:=U6 hy;have:=lo1 t x (by simp at c1;lia) t3;have:=bs _ y (by lia) t4 t5;lia
 rw[qo c1];have hkn:k < n1:=by simp at c1;lia
 have e0:k+(n1 - k) - 1=n1 - 1:=by lia
 rw[e0];obtain ⟨al,l1,l2,l3⟩:=J7 (a:=c) (i:=n1 - 1) (by lia);refine qd (M2 l1 ?_);have G2:Gal rk S true al c n1 n2 (gF rk true al c n1):=by
  refine ⟨λt ht=>?_,λp q hpq hq e=>?_⟩
  ·obtain ⟨x,x1,x2,x3⟩:=J7 (a:=c) (i:=n1+t) (by lia);exact ⟨x,x1,I.ok x x3,(L7 x1).symm⟩
  ·obtain ⟨x,x1,_,_⟩:=J7 (a:=c) (i:=n1+p) (by lia);obtain ⟨y,y1,_,_⟩:=J7 (a:=c) (i:=n1+q) (by lia);have:=s2 (n1+p) (n1+q) (by lia) (by lia) (by lia);rw[kr x1,kr y1] at this;rw[L7 y1] at e;rw[L7 x1];unfold Be at e ⊢;simp at e ⊢;lia
 refine qd (A2o P ka (I.ok _ l3) G2 (by lia) λm hm g3 g4=>?_);dsimp only;have lo2:∀ t x,t < m->c[n1+t]?=some x->rk x < rk al:=λt x ht hx=>by
  have:=g3 t ht;rw[L7 hx] at this;unfold Be at this;simpa using this
 have hi2:∀ t x,m<=t->t < n2->c[n1+t]?=some x->rk al<=rk x:=λt x ht htn hx=>by
  have:=g4 t ht htn;rw[L7 hx] at this;unfold Be at this;simp at this;exact this
 have hal:∀ t x,t < n1->c[t]?=some x->rk x<=rk al:=λt x ht hx=>by
  have:=s1 t (n1 - 1) (by lia) (by lia) (by lia);rw[kr hx,kr l1] at this;exact this
 have hm1:1<=m:=by
  rcases Nat.lt_or_ge 0 m with z|z
  ·exact z
  ·exfalso;have:=hi2 0 b0 z (by lia) (by rw[Nat.add_zero];exact b1);have:=hi1 (n1 - 1) al (by lia) (by lia) l1;lia
 rw[qo (by simp;lia)];have ex:(c.extract k n1).toList=(c.toList.take n1).drop k:=D0g c k n1;have ey:(c.extract n1 (n1+m)).toList=(c.toList.drop n1).take m:=A7v c n1 m;have hx:∀ x∈(c.extract k n1).toList,∃ t,k<=t/\t < n1/\c[t]?=some x:=λx hx=>by
  rw[ex] at hx;obtain ⟨t,t1,t2,t3,t4⟩:=B3m hx;exact ⟨t,t1,t2,t4⟩
 have hy:∀ y∈(c.extract n1 (n1+m)).toList,∃ t,t < m/\n1+t < c.size/\c[n1+t]?=some y:=λy hy=>by
  rw[ey] at hy;exact B35 hy
 have zx:(c.extract k n1).size=n1 - k:=by rw[Array.size_extract];lia
 have zy:(c.extract n1 (n1+m)).size=m:=by rw[Array.size_extract];lia
 have y0:(c.extract n1 (n1+m))[0]?=some b0:=by rw[Array.getElem?_extract,qm (by lia),Nat.add_zero];exact b1
 have xl:(c.extract k n1)[(c.extract k n1).size - 1]?=some al:=by rw[zx,Array.getElem?_extract,qm (by lia),show k+(n1 - k - 1)=n1 - 1 by lia];exact l1
 have sx:Sr rk (c.extract k n1).toList:=by rw[ex];exact (S1.cut k).2.1
 have sy:Sr rk (c.extract n1 (n1+m)).toList:=by rw[ey];exact (S2.cut m).1
 have okx:∀ x∈(c.extract k n1).toList,S x:=λx q=>by
  obtain ⟨t,_,_,t3⟩:=hx x q;exact I.ok x (by rw[<-zm] at t3;exact mem_iff_getElem?.mpr ⟨_,t3⟩)
 have oky:∀ y∈(c.extract n1 (n1+m)).toList,S y:=λy q=>by
  obtain ⟨t,_,_,t3⟩:=hy y q;exact I.ok y (by rw[<-zm] at t3;exact mem_iff_getElem?.mpr ⟨_,t3⟩)
 have fin:∀ r st',SaM sta st'->Rs rk (c.extract k n1) (c.extract n1 (n1+m)) r->wpS (model prog w) A E s (do
   modify λt=>setArr t (r.toList.zipIdx.foldl (λc (q:Keyed × Nat)=>c.setIfInBounds (k+q.2) q.1) (arrOf t))
   let t <- get
   pure (failedOf t).isNone) Q st':=by
  intro r st' sm R;refine qd (wpS_modify (qd (wpS_get (qe ?_))));have rl:r.toList.length=n1 - k+m:=by
   rw[R.1.length_eq,length_append,qj,qj,zx,zy]
  have e2:arrOf st'=c:=sm.2.1.trans aa;have e3:(r.toList.zipIdx.foldl (λc (q:Keyed × Nat)=>c.setIfInBounds (k+q.2) q.1) c).toList=c.toList.take k++r.toList++c.toList.drop (n1+m):=by
   have:=B5l k r.toList 0 c (by rw[rl];lia);rw[Nat.add_zero,rl,show k+(n1 - k+m)=n1+m by lia] at this;exact this
  have e4:c.toList=c.toList.take k++((c.extract k n1).toList++(c.extract n1 (n1+m)).toList)++c.toList.drop (n1+m):=by
   rw[ex,ey,append_assoc,append_assoc,<-List.drop_drop,take_append_drop,<-append_assoc];have:c.toList.take k++(c.toList.take n1).drop k=c.toList.take n1:=by
    have q:=take_append_drop k (c.toList.take n1)
    rwa [List.take_take,Nat.min_eq_left (by lia)] at q
   rw[this,take_append_drop]
  have ft:failedOf st'=none:=sm.2.2.2.trans fa;show Q (failedOf st').isNone _;rw[ft];refine h _ (sm.1.trans ka) ft (by show (pendingOf st').size<=1;rw[sm.2.2.1];exact pa) ?_ ?_
  ·rw[Array.perm_iff_toList_perm];show ((r.toList.zipIdx.foldl (λc (q:Keyed × Nat)=>c.setIfInBounds (k+q.2) q.1) (arrOf st')).toList).Perm c.toList;rw[e2,e3];refine List.Perm.trans ?_ (by rw[<-e4]:(c.toList.take k++((c.extract k n1).toList++(c.extract n1 (n1+m)).toList)++c.toList.drop (n1+m)).Perm c.toList);exact List.Perm.append_right _ (List.Perm.append_left _ R.1)
  ·show Sr rk (r.toList.zipIdx.foldl (λc (q:Keyed × Nat)=>c.setIfInBounds (k+q.2) q.1) (arrOf st')).toList;rw[e2,e3];have rm:∀ z∈r.toList,(∃ t,k<=t/\t < n1/\c[t]?=some z)\/∃ t,t < m/\n1+t < c.size/\c[n1+t]?=some z:=λz hz=>by
    rcases zj.mp (R.1.mem_iff.mp hz) with q|q
    ·exact .inl (hx z q)
    ·exact .inr (hy z q)
   have tp:∀ z∈c.toList.drop (n1+m),rk al<=rk z/\rk b0<=rk z:=λz hz=>by
    obtain ⟨t,t1,t2⟩:=U6 hz;exact ⟨hi2 (m+t) z (by lia) (by lia) (by rw[<-Nat.add_assoc];exact t2),bs _ z (by lia) t1 t2⟩
   have bt:∀ z∈c.toList.take k,rk z<=rk b0:=λz hz=>by
    obtain ⟨t,t1,t2,t3⟩:=X3 hz;exact lo1 t z t1 t3
   refine Sr.app (Sr.app ?_ R.2 ?_) ?_ (Lq.app ?_ ?_)
   ·have q:=(S1.cut k).1
    rwa [List.take_take,Nat.min_eq_left (by lia)] at q
   ·intro x qx y qy;have:=bt x qx;rcases rm y qy with ⟨t,t1,t2,t3⟩|⟨t,t1,t2,t3⟩
    ·have:=hi1 t y t1 t2 t3;lia
    ·have:=bs _ y (by lia) t2 t3;lia
   ·have q:=(S2.cut m).2.1
    rwa [List.drop_drop] at q
   ·intro x qx y qy;have:=bt x qx;have:=(tp y qy).2;lia
   ·intro x qx y qy;have:=(tp y qy).1;rcases rm x qx with ⟨t,t1,t2,t3⟩|⟨t,t1,t2,t3⟩
    ·have:=hal t x t2 t3;lia
    ·have:=lo2 t x t1 t3;lia
 by_cases cc:n1 - k<=m
 ·rw[qm cc];refine qd (D0z P ka sx sy okx oky (by lia) (by lia) (λx y q1 q2=>?_) (λx qx y qy=>?_) fin)
  ·rw[y0] at q1;cases q1;obtain ⟨t,t1,t2,t3⟩:=hx y (by rw[<-zm] at q2;exact mem_iff_getElem?.mpr ⟨_,q2⟩);exact Int.le_of_lt (hi1 t y t1 t2 t3)
  ·rw[xl] at qy;cases qy;obtain ⟨t,t1,t2,t3⟩:=hy x qx;exact lo2 t x t1 t3
 ·rw[qo cc];refine qd (D0x P ka sx sy okx oky (by lia) (by lia) (λx y q1 q2=>?_) (λx qx y qy=>?_) fin)
  ·rw[y0] at q1;cases q1;obtain ⟨t,t1,t2,t3⟩:=hx y q2;exact hi1 t y t1 t2 t3
  ·rw[xl] at qy;cases qy;obtain ⟨t,t1,t2,t3⟩:=hy x qx;exact Int.le_of_lt (lo2 t x t1 t3)
end
theorem D6o (h:1<=n) (h':n < 128):minRun' n n 0<=n/\n<=2*minRun' n n 0/\1<=minRun' n n 0:=by
 obtain ⟨f,rfl⟩:∃ f,n=f+1:=⟨n - 1,by lia⟩;rw[minRun'_succ];by_cases c:f+1 < 64
 ·rw[qm c];lia
 ·rw[qo c];obtain ⟨g,rfl⟩:∃ g,f=g+1:=⟨f - 1,by lia⟩;rw[minRun'_succ,qm (by lia)];lia
section
variable {prog:Program} {w:World} {A:Around} {E:Value->Shared->Prop} {s:Shared} {κ:SortKind} {rk:Keyed->Int} {S:Keyed->Prop}
inductive Rn (rk:Keyed->Int) (κ:SortKind) (c:Array Keyed) (mr:Nat):Nat->SortSt->Prop
 | none {st:SortSt}:kindOf st=κ->failedOf st=none->pendingOf st=#[]->arrOf st=c->Rn rk κ c mr 0 st
 | one {st:SortSt} {n1:Nat}:kindOf st=κ->failedOf st=none->pendingOf st=#[(0,n1,0)]->(arrOf st).Perm c->SoI rk (arrOf st) 0 n1->mr<=n1->1<=n1->n1<=c.size->Rn rk κ c mr n1 st
 | two {st:SortSt} {n1 pw:Nat}:kindOf st=κ->failedOf st=none->pendingOf st=#[(0,n1,pw),(n1,c.size - n1,0)]->(arrOf st).Perm c->SoI rk (arrOf st) 0 n1->SoI rk (arrOf st) n1 (c.size - n1)->1<=n1->n1 < c.size->Rn rk κ c mr c.size st
theorem C94 (P:A3j prog w A s κ rk S) {st:SortSt} {Q:Unit->SortSt->Prop} (hk:kindOf st=κ) (hf:failedOf st=none) (hp:pendingOf st=#[]) (I:Its rk S (arrOf st)) (h1:1<=(arrOf st).size) (h128:(arrOf st).size < 128)
  (h:∀ st',failedOf st'=none->(arrOf st').Perm (arrOf st)->Sr rk (arrOf st').toList->Q () st'):wpS (model prog w) A E s sortRuns' Q st:=by
 rw[sortRuns'_eq];refine qd (wpS_get ?_);dsimp only;generalize hc:arrOf st=c at I h1 h128 h;obtain ⟨m1,m2,m3⟩:=D6o h1 h128;revert m1 m2 m3;generalize minRun' c.size c.size 0=mr;intro m1 m2 m3;refine qd (wpS_mono (wpS_forRange (I:=λx z st'=>z.1=none/\Rn rk κ c mr z.2 st'/\(x=0/\z.2=0\/1<=x/\1<=z.2)/\(2<=x->z.2=c.size)) (Q:=λz st'=>z.1=none/\∃ lo,lo=c.size/\Rn rk κ c mr lo st') ?_ ?_ ⟨rfl,.none hk hf hp hc,.inl ⟨rfl,rfl⟩,λz=>by lia⟩) ?_)
 ·rintro x ⟨z1,lo⟩ st' _ hx ⟨rfl,R,x1,x2⟩;dsimp only at R x1 x2 ⊢;by_cases cl:lo ≥ c.size
  ·rw[qm cl];have:lo=c.size:=by
    cases R with
    | none=>lia
    | one _ _ _ _ _ _ _ e=>lia
    | two=>rfl
   exact qe ⟨rfl,lo,this,R⟩
  rw[qo cl];cases R with
  | two=>exact absurd (qp _) cl
  | none a1 a2 a3 a4 =>
   have Ia:Its rk S (arrOf st'):=by rw[a4];exact I
   have hx0:x=0:=by rcases x1 with z|z<;>lia
   refine qd (C0z P a1 Ia (by rw[a4];lia) (by lia) λn ys n1 n2 w1 w2=>?_);dsimp only;rw[Nat.sub_zero] at n2;have put:∀ (N:Nat) (zs:Array Keyed),mr<=N->1<=N->N<=c.size->zs.Perm c->SoI rk zs 0 N->Rn rk κ c mr (0+N) (setPending (setArr st' zs) ((pendingOf (setArr st' zs)).push (0,N,0))):=λN zs b1 b2 b3 b4 b5=>by
    rw[Nat.zero_add];refine .one a1 a2 ?_ b4 b5 b1 b2 b3;show (pendingOf st').push (0,N,0)=_;rw[a3];rfl
   have bk:∀ zs:Array Keyed,(pendingOf (setArr st' zs)).back?=none:=λzs=>by
    show (pendingOf st').back?=none;rw[a3];rfl
   by_cases cm:n < mr
   ·rw[qm cm];refine qd (wpS_lift (wpAny_rule ⟨rfl,?_⟩));have mn:min (c.size - 0) mr=mr:=by lia
    rw[mn];have zy:ys.size=c.size:=by rw[w1.perm.size_eq,a4]
    refine qd (C1s P (st:=setArr st' ys) a1 (Ia.perm w1.perm) (show 0+mr<=ys.size by lia) (by lia) w2 λzs w3 w4=>?_);rw[qo (by simp)];refine qd (wpS_get ?_);rw[show (pendingOf (setArr (setArr st' ys) zs)).back?=none from bk zs];dsimp only;have p1:zs.Perm c:=(w3.perm.trans w1.perm).trans (by rw[a4]);exact qd (wpS_modify (qe ⟨rfl,put mr zs (qp _) m3 m1 p1 w4,.inr ⟨by lia,by dsimp only;lia⟩,λz=>by lia⟩))
   ·rw[qo cm];refine qd (wpS_get ?_);rw[bk ys];dsimp only;have p1:ys.Perm c:=w1.perm.trans (by rw[a4]);exact qd (wpS_modify (qe ⟨rfl,put n ys (by lia) n1 n2 p1 w2,.inr ⟨by lia,by dsimp only;lia⟩,λz=>by lia⟩))
  | one a1 a2 a3 a4 a5 a6 a7 a8 =>
   rename_i n1;have Ia:Its rk S (arrOf st'):=I.perm a4;have za:(arrOf st').size=c.size:=a4.size_eq;refine qd (C0z P a1 Ia (by lia) (by lia) λn ys b1 b2 w1 w2=>?_);dsimp only;have keep1:∀ zs:Array Keyed,Wk (arrOf st') zs lo (lo+(c.size - lo))->SoI rk zs 0 lo:=λzs wk i j i1 i2 i3=>by
    rw[A4u (ys:=arrOf st') (j:=i) (wk.keep i (.inl (by lia))),A4u (xs:=zs) (ys:=arrOf st') (j:=j) (wk.keep j (.inl (by lia)))];exact a5 i j i1 i2 i3
   have put:∀ (zs:Array Keyed) (pw:Nat),Wk (arrOf st') zs lo (lo+(c.size - lo))->SoI rk zs lo (c.size - lo)->Rn rk κ c mr (lo+(c.size - lo)) (setPending (setPending (setArr st' zs) #[(0,lo,pw)]) (#[(0,lo,pw)].push (lo,c.size - lo,0))):=λzs pw wk so=>by
    rw[show lo+(c.size - lo)=c.size by lia];exact .two a1 a2 rfl (wk.perm.trans a4) (keep1 zs wk) so a7 (by lia)
   by_cases cm:n < mr
   ·rw[qm cm];refine qd (wpS_lift (wpAny_rule ⟨rfl,?_⟩));have mn:min (c.size - lo) mr=c.size - lo:=by lia
    have zy:ys.size=c.size:=by rw[w1.perm.size_eq,za]
    rw[mn];refine qd (C1s P (st:=setArr st' ys) a1 (Ia.perm w1.perm) (show lo+(c.size - lo)<=ys.size by lia) b2 w2 λzs w3 w4=>?_);rw[qo (by simp)];refine qd (wpS_get ?_);rw[show pendingOf (setArr (setArr st' ys) zs)=#[(0,lo,0)] from a3,show (#[(0,lo,0)]:Array (Nat × Nat × Nat)).back?=some (0,lo,0) from rfl];dsimp only;refine qd (wpS_mono (wpS_forRange (I:=λ_ z st2=>st2=(setArr (setArr st' ys) zs)/\z=(none,())) (Q:=λz st2=>st2=(setArr (setArr st' ys) zs)/\z=(none,())) ?_ (λ_ _ q=>q) ⟨rfl,rfl⟩) ?_)
    ·rintro y z st2 _ _ ⟨rfl,rfl⟩;refine qd (wpS_get ?_);rw[show pendingOf (setArr (setArr st' ys) zs)=#[(0,lo,0)] from a3,qo (by show ¬ 1 > 1;lia)];exact qe ⟨rfl,rfl⟩
    ·rintro z st2 ⟨rfl,rfl⟩;dsimp only;refine qd (wpS_modify (qd (wpS_modify (qe ?_))));have em:∀ f:Nat × Nat × Nat->Nat × Nat × Nat,(pendingOf (setArr (setArr st' ys) zs)).modify ((pendingOf (setArr (setArr st' ys) zs)).size - 1) f=#[f (0,lo,0)]:=λf=>by
      rw[show pendingOf (setArr (setArr st' ys) zs)=#[(0,lo,0)] from a3];rfl
     rw[em];exact ⟨rfl,put zs _ (w1.trans w3) w4,.inr ⟨by lia,by dsimp only;lia⟩,λz=>by dsimp only;lia⟩
   ·rw[qo cm];obtain rfl:n=c.size - lo:=by lia
    refine qd (wpS_get ?_);rw[show pendingOf (setArr st' ys)=#[(0,lo,0)] from a3,show (#[(0,lo,0)]:Array (Nat × Nat × Nat)).back?=some (0,lo,0) from rfl];dsimp only;refine qd (wpS_mono (wpS_forRange (I:=λ_ z st2=>st2=(setArr st' ys)/\z=(none,())) (Q:=λz st2=>st2=(setArr st' ys)/\z=(none,())) ?_ (λ_ _ q=>q) ⟨rfl,rfl⟩) ?_)
    ·rintro y z st2 _ _ ⟨rfl,rfl⟩;refine qd (wpS_get ?_);rw[show pendingOf (setArr st' ys)=#[(0,lo,0)] from a3,qo (by show ¬ 1 > 1;lia)];exact qe ⟨rfl,rfl⟩
    ·rintro z st2 ⟨rfl,rfl⟩;dsimp only;refine qd (wpS_modify (qd (wpS_modify (qe ?_))));have em:∀ f:Nat × Nat × Nat->Nat × Nat × Nat,(pendingOf (setArr st' ys)).modify ((pendingOf (setArr st' ys)).size - 1) f=#[f (0,lo,0)]:=λf=>by
      rw[show pendingOf (setArr st' ys)=#[(0,lo,0)] from a3];rfl
     rw[em];exact ⟨rfl,put ys _ w1 w2,.inr ⟨by lia,by dsimp only;lia⟩,λz=>by dsimp only;lia⟩
 ·rintro ⟨z1,lo⟩ st' ⟨rfl,R,x1,x2⟩;dsimp only at R x1 x2 ⊢;rw[Nat.zero_max] at x1 x2;have:lo=c.size:=by
   cases R with
   | none=>lia
   | one _ _ _ _ _ _ _ e =>
    rcases Nat.lt_or_ge c.size 2 with z|z
    ·lia
    ·exact x2 z
   | two=>rfl
  exact ⟨rfl,lo,this,R⟩
 rintro ⟨z1,lo'⟩ st' ⟨q1,lo,el,R⟩;dsimp only at q1 ⊢;subst q1;dsimp only;refine qd (wpS_mono (wpS_forRange (I:=λx z st2=>z=(none,())/\((st2=st'/\x=0)\/(failedOf st2=none/\(pendingOf st2).size<=1/\(arrOf st2).Perm c/\Sr rk (arrOf st2).toList))) (Q:=λz st2=>z=(none,())/\failedOf st2=none/\(arrOf st2).Perm c/\Sr rk (arrOf st2).toList) ?_ ?_ ⟨rfl,.inl ⟨rfl,rfl⟩⟩) ?_)
 ·rintro x z st2 _ hx ⟨rfl,q⟩;refine qd (wpS_get ?_);rcases q with ⟨rfl,rfl⟩|⟨q1,q2,q3,q4⟩
  ·cases R with
   | none=>lia
   | one a1 a2 a3 a4 a5 a6 a7 a8 =>
    rw[a3,qm (by show 1<=1;lia)];have za:=a4.size_eq;refine qe ⟨rfl,a2,a4,?_⟩;rw[el] at a5;have:=B2n (lo:=0) (n:=c.size) (by lia) a5
    rwa [drop_zero,<-za,<-qj,take_length] at this
   | two a1 a2 a3 a4 a5 a6 a7 a8 =>
    rename_i n1 pw;rw[a3,qo (by show ¬ 2<=1;lia)];have za:=a4.size_eq;show wpS (model prog w) A E s (do let q <- mergeAt' 0;if (!q)=true then pure (ForInStep.done (some (),())) else pure (ForInStep.yield (none,()))) _ _;refine qd (D2x P a1 a2 (I.perm a4) a3 (by lia) a7 (by lia) a5 a6 λst3 c1 c2 c3 c4 c5=>?_);rw[qo (by simp)];exact qe ⟨rfl,.inr ⟨c2,c3,c4.trans a4,c5⟩⟩
  ·rw[qm q2];exact qe ⟨rfl,q1,q3,q4⟩
 ·rintro z st2 ⟨rfl,q⟩;rcases q with ⟨_,q⟩|⟨q1,q2,q3,q4⟩
  ·rw[Nat.zero_max] at q;lia
  ·exact ⟨rfl,q1,q3,q4⟩
 ·rintro z st2 ⟨rfl,q1,q3,q4⟩;exact qe (h _ q1 q3 q4)
end
open PySem.Spec PySem.W PySem.Calls
section
variable {prog:Program} {w:World} {A:Around} {E:Value->Shared->Prop} {s:Shared} {vs:List Value} {rk:Keyed->Int} {S:Keyed->Prop}
structure C8w (prog:Program) (w:World) (A:Around) (vs:List Value) (rk:Keyed->Int) (S:Keyed->Prop) (s:Shared):Prop where
 kind:2<=vs.length->∀ Q:SortKind->Shared->Prop,Q oneType' s->wpAny (model prog w) A (keyKind' vs.toArray) Q (λ_ _=>False) s
 pure:A3j prog w A s oneType' rk S
theorem A02 (vs:List Value):(vs.toArray.zip vs.toArray).toList=vs.map λv=>(v,v):=by
 rw[Array.toList_zip];show vs.zip vs=_
 induction vs with
 | nil=>rfl
 | cons v r ih=>rw[List.zip_cons_cons,ih];rfl
def UpV (rk:Keyed->Int) (out:List Value):Prop:=out.Pairwise λx y=>rk (x,x)<=rk (y,y)
theorem B15 {a:Addr} {P:PySem.Fin->Shared->Prop} (ho:s.heap.get? a=some (seqObj "list" vs.toArray n)) (h128:vs.length < 128) (I:Its rk S (vs.toArray.zip vs.toArray))
  (hA:∀ h',(∀ b o,b≠a->s.heap.get? b=some o->h'.get? b=some o)->C8w prog w A vs rk S {s with heap:=h' })
  (h:∀ out:List Value,out.Perm vs->UpV rk out->P (.done (.ret .none)) {s with heap:=sortedHeap s.heap a vs out.toArray }):wpAny (model prog w) A (Builtin.«list.sort» ⟨[.ref a],[]⟩) P E s:=by
 have ha:a < s.heap.objs.size:=qi ho;obtain ⟨c1,oc⟩:∃ c,(s.heap.update a (Obj.mapSeq λ_=>(#[]:Array Value))).get? a=some (seqObj "list" #[] c):=⟨_,get?_update_seq ho λ_=>#[]⟩;have keep:∀ b o,b≠a->s.heap.get? b=some o->(((s.heap.update a (Obj.mapSeq λ_=>(#[]:Array Value))).push (seqObj "tuple" vs.toArray 0)).push (seqObj "list" #[] 0)).get? b=some o:=λb o hb q=>by
  have hlt:b < s.heap.objs.size:=qi q;refine qa _ (qa _ ?_);rw[Heap.get?_update_ne _ _ _ _ hb];exact q
 have o6:=qa (seqObj "list" #[] 0) (qa (seqObj "tuple" vs.toArray 0) oc);have ask:=hA _ keep;rw[list_sort_plain];refine qb (listItems_at ho rfl ?_);refine qb (listUpdate_at ho rfl ?_ (by rw[size_toArray,sizeLine_eq];lia) (zz _));refine qb (seqEpoch_at oc rfl ?_);refine qb (wpAny_newTuple ?_ (by show vs.length<=_;rw[sizeLine_eq];lia));refine qb (wpAny_newList ?_ (zz _));refine wpAny_holding ?_;show wpAny (model prog w) A _ P E { s with heap:=((s.heap.update a (Obj.mapSeq λ_=>(#[]:Array Value))).push (seqObj "tuple" vs.toArray 0)).push (seqObj "list" #[] 0) };dsimp only;have hsz:vs.toArray.size=vs.length:=by simp
 by_cases h2:vs.length < 2
 ·have e2:vs.toArray.size < 2:=by rw[hsz];exact h2
  have eo:((vs.toArray.zip vs.toArray).map (·.2))=vs.toArray:=by
   apply Array.toList_inj.mp;rw[Array.toList_map,A02,map_map];exact List.map_id _
  rw[qm e2,qm e2];refine qb (qc ?_);rw[StateT.run_pure];refine qb (qc ?_);dsimp only;show wpAny (model prog w) A _ P E _;refine qb (seqEpoch_at o6 rfl ?_);have ea:(arrOf (SortSt.mk' general' (vs.toArray.zip vs.toArray) #[] 7 none)).map (·.2)=vs.toArray:=eo;rw[ea];refine qb (listUpdate_at o6 rfl ?_ (zz _) (by rw[hsz,sizeLine_eq];lia));simp only[bne_self_eq_false,zo,if_false];refine qc (h vs (.refl _) ?_)
  match vs,h2 with
  | [],_=>exact .nil
  | [x],_=>exact List.pairwise_singleton _ _
 ·have e2:¬ vs.toArray.size < 2:=by rw[hsz];exact h2
  rw[qo e2,qo e2];refine qb (jc (ask.kind (by lia) (λκ' s'=>κ'=oneType'/\s'=_) ⟨rfl,rfl⟩) (λκ' s' hk=>?_) λ_ _ x=>x.elim);obtain ⟨rfl,rfl⟩:=hk;have zs:(vs.toArray.zip vs.toArray).size=vs.length:=by rw[<-qj,A02,qf]
  have run:=C94 (E:=E) (Q:=λ_ st'=>failedOf st'=none/\((arrOf st').map (·.2)).toList.Perm vs/\UpV rk ((arrOf st').map (·.2)).toList) ask.pure (st:=SortSt.mk' oneType' (vs.toArray.zip vs.toArray) #[] 7 none) rfl rfl rfl I (show 1<=(vs.toArray.zip vs.toArray).size by lia) (show (vs.toArray.zip vs.toArray).size < 128 by lia) λst' f1 f2 f3=>by
   have p:=Array.perm_iff_toList_perm.mp f2;have p:(arrOf st').toList.Perm (vs.map λv=>(v,v)):=by rw[<-A02];exact p
   have dup:∀ q∈(arrOf st').toList,q=(q.2,q.2):=λq hq=>by
    obtain ⟨v,_,rfl⟩:=zg.mp (p.mem_iff.mp hq);rfl
   refine ⟨f1,?_,?_⟩
   ·rw[Array.toList_map];have:=p.map (·.2)
    rwa [map_map,show ((λq:Keyed=>q.2) ∘ λv:Value=>(v,v))=id from rfl,List.map_id] at this
   ·rw[Array.toList_map];unfold UpV;rw[pairwise_map];refine List.Pairwise.imp_of_mem (λ{x y} hx hy hxy=>?_) f3;rw[<-dup x hx,<-dup y hy];exact hxy
  refine qb (jc run ?_ λ_ _ e=>e);rintro ⟨⟨⟩,st'⟩ s' ⟨rfl,b1,b2,b3⟩;dsimp only at b1 b2 b3 ⊢;refine qb (seqEpoch_at o6 rfl ?_);refine qb (listUpdate_at o6 rfl ?_ (zz _) (by rw[<-qj,b2.length_eq,sizeLine_eq];lia));rw[b1];simp only[bne_self_eq_false,zo,if_false];have:=h ((arrOf st').map (·.2)).toList b2 b3;rw[Array.toArray_toList] at this;exact qc this
variable {l:Addr}
theorem C8r {d:Addr} {T:String} {P:Nat->Value->Prop} {Q:Value->Shared->Prop} (K:KdlSrc prog w T l d n P OK) (hh:A.handled=none) (hok:OK s.heap) (hn:n < 128) (hv:∀ ws:List Value,ItemsOf P ws.toArray n->ws=vs) (h128:vs.length < 128) (I:Its rk S (vs.toArray.zip vs.toArray))
  (hA:∀ h' tk,C8w prog w A.in1.in1 vs rk S {s with heap:=h',toks:=tk })
  (h:∀ (out:List Value) h' tk L e,out.Perm vs->UpV rk out->(∀ b o,s.heap.get? b=some o->h'.get? b=some o)->s.heap.objs.size<=L->h'.get? L=some (seqObj "list" out.toArray e)->Q (.ref L) {s with heap:=h',toks:=tk }):wpAny (model prog w) A (call (.builtin "sorted") [.ref l]) Q E s:=by
 refine Calls.call_function_entry kind_sorted plain_sorted entry_sorted (args_sorted1 _) ?_;unfold Builtin.«sorted»;refine qb (m:=checkCount "sorted" 1 1 _) (qc ?_);refine qb (B0e (A:=A.in1) K hh hok (by rw[sizeLine_eq];lia) λh1 tk ws k1 sz hi=>?_);have e:=hv ws hi;subst e;refine qb (wpAny_newList ?_ (by rw[sizeLine_eq];lia));have hoL:(h1.push (seqObj "list" ws.toArray 0)).get? h1.objs.size=some (seqObj "list" ws.toArray 0):=ql _ rfl;have keep:∀ b o,s.heap.get? b=some o->(h1.push (seqObj "list" ws.toArray 0)).get? b=some o:=λb o q=>qa _ (k1 b o q);have lt1:∀ b o,s.heap.get? b=some o->b≠h1.objs.size:=λb o q=>ze (qi (k1 b o q));refine qb (wpAny_holding (wpAny_call_entry slot_list_sort ⟨_,hoL,rfl⟩ entry_list_sort ?body (args_list_sort _)))
 case body =>
  refine B15 (rk:=rk) (S:=S) (s:={ s with heap:=h1.push (seqObj "list" ws.toArray 0),toks:=tk }) hoL h128 I (λh' k=>hA h' tk) λout p1 p2=>?_;refine ⟨_,rfl,qc ⟨_,rfl,?_⟩⟩;obtain ⟨e,he⟩:=A16 (vs:=ws) (out:=out.toArray) hoL;exact h out _ tk h1.objs.size e p1 p2 (λb o q=>Z4 (lt1 b o q) (keep b o q)) sz he
theorem C1y {Q:Value->Shared->Prop} (hl:s.heap.IsList l vs.toArray) (h128:vs.length < 128) (I:Its rk S (vs.toArray.zip vs.toArray))
  (hA:∀ h',C8w prog w A.in1.in1 vs rk S {s with heap:=h' })
  (h:∀ (out:List Value) h' L e,out.Perm vs->UpV rk out->(∀ b o,s.heap.get? b=some o->h'.get? b=some o)->s.heap.objs.size<=L->h'.get? L=some (seqObj "list" out.toArray e)->Q (.ref L) {s with heap:=h' }):wpAny (model prog w) A (call (.builtin "sorted") [.ref l]) Q E s:=by
 refine Calls.call_function_entry kind_sorted plain_sorted entry_sorted (args_sorted1 _) ?_;unfold Builtin.«sorted»;refine qb (m:=checkCount "sorted" 1 1 _) (qc ?_);refine qb (collect_list hl ?_ (by rw[sizeLine_eq];lia));refine qb (wpAny_newList ?_ (by rw[sizeLine_eq];lia));have hsz:((s.heap.push (seqObj "list" #[] 0)).update s.heap.objs.size (Obj.mapSeq (·++vs.toArray))).objs.size=s.heap.objs.size+1:=by
  rw[Heap.size_update,size_push']
 have hoL:(((s.heap.push (seqObj "list" #[] 0)).update s.heap.objs.size (Obj.mapSeq (·++vs.toArray))).push (seqObj "list" vs.toArray 0)).get? (s.heap.objs.size+1)=some (seqObj "list" vs.toArray 0):=by
  rw[<-hsz];exact ql _ rfl
 have keep:∀ b o,s.heap.get? b=some o->(((s.heap.push (seqObj "list" #[] 0)).update s.heap.objs.size (Obj.mapSeq (·++vs.toArray))).push (seqObj "list" vs.toArray 0)).get? b=some o:=λb o q=>by
  have hlt:b < s.heap.objs.size:=qi q;refine qa _ ?_;rw[Heap.get?_update_ne _ _ _ _ (ze hlt)];exact qa _ q
 show wpAny _ _ _ _ _ { s with heap:=((s.heap.push (seqObj "list" #[] 0)).update s.heap.objs.size (Obj.mapSeq (·++vs.toArray))).push (seqObj "list" vs.toArray 0) };rw[hsz];refine qb (wpAny_holding (wpAny_call_entry slot_list_sort ⟨_,hoL,rfl⟩ entry_list_sort ?body (args_list_sort _)))
 case body =>
  refine B15 (rk:=rk) (S:=S) (s:={ s with heap:=((s.heap.push (seqObj "list" #[] 0)).update s.heap.objs.size (Obj.mapSeq (·++vs.toArray))).push (seqObj "list" vs.toArray 0) }) hoL h128 I (λh' k=>hA h') λout p1 p2=>?_;refine ⟨_,rfl,qc ⟨_,rfl,?_⟩⟩;obtain ⟨e,he⟩:=A16 (vs:=vs) (out:=out.toArray) hoL;exact h out _ _ e p1 p2 (λb o q=>Z4 (ze (Nat.lt_succ_of_lt (qi q))) (keep b o q)) (Nat.le_succ _) he
end
def O7 (a b:Str):Prop:=a.cps.toList < b.cps.toList
instance (a b:Str):Decidable (O7 a b):=inferInstanceAs (Decidable (a.cps.toList < b.cps.toList))
theorem O7.trans {a b c:Str} (h:O7 a b) (g:O7 b c):O7 a c:=List.lt_trans h g
theorem O7.irr (a:Str):¬ O7 a a:=List.lt_irrefl _
theorem O7.tri {a b:Str} (h:¬ O7 a b) (ne:a≠b):O7 b a:=by
 rcases List.le_iff_lt_or_eq.mp (List.not_lt.mp h) with z|z
 ·exact z
 ·exact absurd (Str.ext' (Array.toList_inj.mp z)).symm ne
def txt:Value->Str
 | .str x _=>x
 | _=>⟨#[]⟩
def rkS (ts:List Str) (p:Keyed):Int:=(ts.countP λy=>decide (O7 y (txt p.1)):Nat)
def SS (ts:List Str) (p:Keyed):Prop:=∃ x t,p.1=.str x t/\x∈ts
theorem A62 {ts:List Str} {x y:Str} (hx:x∈ts) (h:O7 x y):(ts.countP λz=>decide (O7 z x)) < ts.countP λz=>decide (O7 z y):=by
 induction ts with
 | nil=>cases hx
 | cons t ts ih =>
  have le:(ts.countP λz=>decide (O7 z x))<=ts.countP λz=>decide (O7 z y):=List.countP_mono_left λz _ q=>by
   simp only[zq] at q ⊢;exact q.trans h
  rw[List.countP_cons,List.countP_cons];rcases zk.mp hx with rfl|hx
  ·rw[qo (by simp[O7.irr]),qm (by simpa using h)];lia
  ·have:=ih hx;split
   ·rename_i q;rw[qm (by simp only[zq] at q ⊢;exact q.trans h)];lia
   ·split<;>lia
theorem D3k {ts:List Str} {p q:Keyed} (hp:SS ts p) (hq:SS ts q):decide (rkS ts p < rkS ts q)=decide (O7 (txt p.1) (txt q.1)):=by
 obtain ⟨x,t,e1,m1⟩:=hp;obtain ⟨y,u,e2,m2⟩:=hq;unfold rkS;rw[e1,e2];show decide (((ts.countP λz=>decide (O7 z x):Nat):Int) < (ts.countP λz=>decide (O7 z y):Nat))=decide (O7 x y);by_cases c:O7 x y
 ·have:=A62 m1 c;simp only[c,decide_true,zq];lia
 ·have:(ts.countP λz=>decide (O7 z y))<=ts.countP λz=>decide (O7 z x):=by
   by_cases e:x=y
   ·rw[e];exact qp _
   ·exact zi (A62 m2 (O7.tri c e))
  simp only[c,decide_false,decide_eq_false_iff_not];lia
section
variable {prog:Program} {w:World} {A:Around} {s:Shared} {ts:List Str} {vs:List Value}
theorem A8y (r:C6 (ts.map V.str) vs):∀ v∈vs,∃ x t,v=.str x t/\x∈ts:=by
 induction ts generalizing vs with
 | nil=>cases r;intro v hv;cases hv
 | cons x ts ih =>
  cases r with
  | cons h r =>
   obtain ⟨t,rfl⟩:=h;intro v hv;rcases zk.mp hv with rfl|hv
   ·exact ⟨x,t,rfl,qu⟩
   ·obtain ⟨y,u,e,m⟩:=ih r v hv;exact ⟨y,u,e,qv _ m⟩
theorem A4m (r:C6 (ts.map V.str) vs):vs.map txt=ts:=by
 induction ts generalizing vs with
 | nil=>cases r;rfl
 | cons x ts ih =>
  cases r with
  | cons h r =>
   obtain ⟨t,rfl⟩:=h;rw[map_cons,ih r];rfl
theorem A6z:∀ {vs:List Value},(∀ v∈vs,∃ x t,v=.str x t)->C6 ((vs.map txt).map V.str) vs
 | [],_=>.nil
 | v::vs,h=>by
  obtain ⟨x,t,rfl⟩:=h v qu;exact .cons ⟨t,rfl⟩ (A6z λv hv=>h v (qv _ hv))
theorem D7s (r:C6 (ts.map V.str) vs):C8w prog w A vs (rkS ts) (SS ts) s:=by
 refine ⟨λh2 Q hq=>?_,⟨λx y hx hy Q E hq=>?_⟩⟩
 ·refine kas_kind (T:=.type "str") h2 (λv hv=>?_) rfl rfl hq;obtain ⟨x,t,rfl,_⟩:=A8y r v hv;exact Looks.of_pure rfl
 ·rw[D3k hx hy] at hq;obtain ⟨a,t,e1,_⟩:=hx;obtain ⟨b,u,e2,_⟩:=hy;rw[e1,e2] at hq ⊢;exact kas_lt_str hq
theorem D9k (r:C6 (ts.map V.str) vs) (nd:ts.Nodup):Its (rkS ts) (SS ts) (vs.toArray.zip vs.toArray):=by
 refine ⟨λp hp=>?_,?_⟩
 ·rw[A02] at hp;obtain ⟨v,hv,rfl⟩:=zg.mp hp;obtain ⟨x,t,e,m⟩:=A8y r v hv;exact ⟨x,t,e,m⟩
 ·rw[A02,map_map];have e:(vs.map (rkS ts ∘ λv=>(v,v)))=ts.map λx=>((ts.countP λz=>decide (O7 z x):Nat):Int):=by
   rw[<-List.map_congr_left (f:=λx=>((ts.countP λz=>decide (O7 z x):Nat):Int)) (l:=ts) (λ_ _=>rfl)]
   conv=>rhs;rw[<-A4m r]
   rw[map_map];rw[A4m r];rfl
  rw[e];unfold List.Nodup;rw[pairwise_map];refine List.Pairwise.imp_of_mem (λ{x y} hx hy ne=>?_) nd;intro z;by_cases c:O7 x y
  ·have:=A62 hx c;lia
  ·have:=A62 hy (O7.tri c ne);lia
theorem D7k (r:C6 (ts.map V.str) vs) (nd:ts.Nodup) {out:List Value} (p:out.Perm vs) (up:UpV (rkS ts) out):∃ us:List Str,us.Perm ts/\us.Pairwise O7/\C6 (us.map V.str) out:=by
 have all:∀ v∈out,∃ x t,v=.str x t/\x∈ts:=λv hv=>A8y r v (p.mem_iff.mp hv);have pu:(out.map txt).Perm ts:=by have:=p.map txt;rwa [A4m r] at this
 refine ⟨out.map txt,pu,?_,A6z λv hv=>by obtain ⟨x,t,e,_⟩:=all v hv;exact ⟨x,t,e⟩⟩;have nd':(out.map txt).Nodup:=pu.nodup_iff.mpr nd;unfold List.Nodup at nd';rw[pairwise_map] at nd' ⊢;refine List.Pairwise.imp_of_mem (λ{x y} hx hy h=>?_) (nd'.and up);obtain ⟨a,t,rfl,ma⟩:=all x hx;obtain ⟨b,u,rfl,mb⟩:=all y hy;obtain ⟨ne,le⟩:=h;have ne:a≠b:=ne;show O7 a b;by_cases c:O7 a b
 ·exact c
 ·exfalso;have:=A62 mb (O7.tri c ne);unfold rkS at le;have le:((ts.countP λz=>decide (O7 z a):Nat):Int)<=(ts.countP λz=>decide (O7 z b):Nat):=le;lia
end
theorem B0y:∀ {us vs:List Str},us.Perm vs->us.Pairwise O7->vs.Pairwise O7->us=vs
 | [],vs,p,_,_=>(List.nil_perm.mp p).symm
 | a::us,vs,p,h1,h2=>by
  cases vs with
  | nil=>exact absurd p.length_eq (by simp)
  | cons b vs =>
   have p1:=List.pairwise_cons.mp h1;have p2:=List.pairwise_cons.mp h2;have e:a=b:=by
    by_cases e:a=b
    ·exact e
    ·exfalso;have m1:a∈vs:=by
      rcases zk.mp (p.mem_iff.mp (qu (a:=a))) with z|z
      ·exact absurd z e
      ·exact z
     have m2:b∈us:=by
      rcases zk.mp (p.mem_iff.mpr (qu (a:=b))) with z|z
      ·exact absurd z.symm e
      ·exact z
     exact O7.irr a ((p1.1 b m2).trans (p2.1 a m1))
   subst e;rw[B0y ((List.perm_cons a).mp p) p1.2 p2.2]
def D4h (K:W.Frag):List V->Hp->VK->Prop:=λxs H Q=>∃ (p:Addr) (ts:List Str),xs=[.ref p]/\O5 K H p (ts.map V.str)/\ts.Nodup/\ts.length < 128/\∀ us:List Str,us.Perm ts->us.Pairwise O7->∀ l,H l=none->Q (.ref l) (upd H l (.lst (us.map V.str)))
theorem B2f (K:W.Frag) (hK:X.K=K):J2 X (.builtin "sorted") (D4h K):=by
 subst hK;intro pins s U H xs us' Q I r h;obtain ⟨p,ts,rfl,hL,nd,h128,q⟩:=h;obtain ⟨u,rfl,rx⟩:=U0 r;cases rx;obtain ⟨its,rv,pl,hz⟩:=I.list hL;have len:its.length=ts.length:=by have:=rv.length;rw[qf] at this;lia
 refine C1y (rk:=rkS ts) (S:=SS ts) pl.isList (by lia) (D9k rv nd) (λh'=>D7s rv) λout h' L e p1 p2 kp hL' he=>?_;obtain ⟨us,u1,u2,u3⟩:=D7k rv nd p1 p2;have hfr:H L=none:=I.hok.fresh hL';exact ⟨.ref L,_,I.laid (t':=s.toks) kp hL' (show E5 X.prog X.w _ _ _ (.lst (us.map V.str)) from ⟨by rw[qf,u1.length_eq,sizeLine_eq];lia,_,e,u3,he⟩),rfl,q us u1 u2 _ hfr⟩
def C5e:List V->Hp->VK->Prop:=λxs H Q=>∃ (a:Addr) (kvs:List (C1 × V)) (ts:List Str),xs=[.ref a]/\H a=some (.dK kvs)/\kvs.map (·.1)=ts.map Sum.inr/\ts.Nodup/\kvs.length < 128/\∀ us:List Str,us.Perm ts->us.Pairwise O7->∀ l,H l=none->Q (.ref l) (upd H l (.lst (us.map V.str)))
theorem B0r (hc:X.calm=true):J2 X (.builtin "sorted") C5e:=by
 intro pins s U H xs us Q I r h;obtain ⟨a,kvs,ts,rfl,e,hk,nd,h128,q⟩:=h;obtain ⟨u,rfl,rx⟩:=U0 r;cases rx;obtain ⟨lo,es,ep,h1,h2,h3⟩:=B3r I (.inl e);have hn:(kvs.map λp=>kV p.1)=ts.map V.str:=by
  have:(kvs.map λp=>kV p.1)=(kvs.map (·.1)).map kV:=by rw[map_map];rfl
  rw[this,hk,map_map];rfl
 rw[hn] at h3;have ln:ts.length=kvs.length:=by have:=congrArg List.length hk;simpa using this.symm
 refine C8r (rk:=rkS ts) (S:=SS ts) (vs:=es.toList.map (·.key)) (B5i (prog:=X.prog) (w:=X.w) (es:=es) (ep:=ep) lo) (I.ok.hd hc) h1 (by lia) (λws hi=>A06 hi) (by rw[qf,qj];lia) (D9k h3 nd) (λh' tk=>D7s h3) λout h' tk L e' p1 p2 k hL he=>?_;obtain ⟨us,u1,u2,u3⟩:=D7k h3 nd p1 p2;exact ⟨.ref L,_,I.laid (t':=tk) k hL (show E5 X.prog X.w _ _ _ (.lst (us.map V.str)) from ⟨by rw[qf,u1.length_eq,sizeLine_eq];lia,_,e',u3,he⟩),rfl,q us u1 u2 _ (I.hok.fresh hL)⟩
section
variable {X:Cx} {pins:List (Addr × Obj)} {U:St} {H:Hp} {s:Shared} {d:Addr} {kvs:List (C1 × V)}
theorem B6.thaw3 {o:Obj} (I:B6 X pins U H s) (hd:H d=some (.frz o (.dK kvs))) (h0:∀ o u,X.H₀ d≠some (.frz o u)):B6 X pins U (upd H d (.dK kvs)) s:=by
 have ne:∀ b,H b=none->b≠d:=λb hb z=>by rw[z,hd] at hb;cases hb
 refine ⟨I.ok,I.os,I.bare,⟨I.base.keep,I.base.slot,λb u q n hx=>?_,I.base.there,λb xs q=>?_,λb u v q=>?_,λb ps q=>?_⟩,I.loc,I.cell,?_,λx c e=>?_,λp hp=>?_,λb u e=>?_,I.len⟩
 ·have:=I.base.free b u q n hx;rw[B5 (ne b this)];exact this
 ·have:=I.base.tups b xs q;rw[B5 (B20 this hd (by intro z;cases z))];exact this
 ·have:=I.base.frzs b u v q;rw[B5 (λz=>by rw[z] at q;exact h0 _ _ q)];exact this
 ·obtain ⟨m,this⟩:=I.base.tbls b ps q;exact ⟨m,by rw[B5 (B20 this hd (by intro z;cases z))];exact this⟩
 ·rw[B5 (ne _ I.free)];exact I.free
 ·rw[B5 (ne _ (I.freeC x c e))];exact I.freeC x c e
 ·obtain ⟨a1,a2,a3,a4,a5⟩:=I.pin p hp;exact ⟨a1,by rw[B5 (ne _ a2)];exact a2,a3,a4,a5⟩
 ·by_cases hb:b=d
  ·subst hb;rw[B2] at e;cases e;exact (I.hok b _ hd).2
  ·rw[B5 hb] at e;refine (I.hok b u e).stay (λc v hc q=>q) (λc q=>?_) λc xs q=>?_
   ·rw[B5 (B20 q hd (by intro z;cases z))];exact q
   ·rw[B5 (B20 q hd (by intro z;cases z))];exact q
def A7q (H0:Hp) (tl:TE):TI:=λU H R=>tl U H λx H1=>∃ d kvs,x=.ref d/\H1 d=some (.dK kvs)/\∀ o,(∀ o u,H0 d≠some (.frz o u))->R (Itk d o kvs) (upd H1 d (.frz o (.dK kvs)))
theorem A0p {tg l:Expr} {tl:TE} (hl:QE X l tl):QI X tg l (A7q X.H₀ tl):=⟨by
 intro pins s U H R I h;refine E1 (hl.h pins s U H _ I h) λu s1 ⟨x,H1,I1,r1,d,kvs,e,hd,q⟩=>?_;subst e;cases r1;have n0:∀ o u,X.H₀ d≠some (.frz o u):=λo u z=>by
  have:=I1.base.frzs _ _ _ z;rw[hd] at this;cases this
 obtain ⟨o,ho,I2⟩:=I1.freeze hd;obtain ⟨hs,_,_⟩:(d==sysModules)=false/\True/\True:=⟨(I1.hok d _ hd).2.1,trivial,trivial⟩;obtain ⟨_,_,vs,kv,o2,es,ep,e1,e2,e3,r⟩:=(show E5 X.prog X.w H1 s1.heap d (.dK kvs) from I1.hok d _ hd);rw[ho] at e1;cases e1;have da:s1.heap.DictAt (J4 X.prog X.w) d vs ep:=⟨o,es,ho,e2,e3,r⟩;refine wpAny_pyIter_dict hs da ?_;have hlen:kvs.length=vs.length:=Paired.length kv;have I3:B6 X pins U (upd H1 d (.frz o (.dK kvs))) { s1 with heap:=s1.heap.push { cls:=.type "dict_keyiterator",data:=.fields #[.ref d,.int 0 0,.int vs.length 0,.int ep 0] } }:=I2.kept (t':=s1.toks) λb u e=>qa _ e;refine ⟨s1.heap.objs.size,[s1.heap.objs.size],_,_,_,rfl,I3,B8a d _ o kvs e3,⟨_,ql _ rfl,rfl,by rw[hlen];rfl⟩,λb hb=>?_,q o n0⟩;have e':b=s1.heap.objs.size:=by simpa using hb
 subst e';exact I2.fpOk (qp _) (I2.hok.fresh (qp _))⟩
def A8u (H0:Hp) (te:TE):TE:=λU H Q=>te U H λv H1=>∃ d o kvs,H1 d=some (.frz o (.dK kvs))/\(∀ o u,H0 d≠some (.frz o u))/\Q v (upd H1 d (.dK kvs))
theorem A7m {e:Expr} {te:TE} (he:QE X e te):QE X e (A8u X.H₀ te):=⟨by
 intro pins s U H Q I h;refine E1 (he.h pins s U H _ I h) λu s1 ⟨x,H1,I1,r1,d,o,kvs,hd,h0,q⟩=>⟨x,_,I1.thaw3 hd h0,r1,q⟩⟩
end
end L2
variable {tk:TKy}
namespace DL
open L2
def dFD (es:List (C1 × D)):D:=.dict ((.int 0,.none)::es.map λp=>(E3 p.1,p.2))
mutual
def ndc:D->Bool
 | .none=>true
 | .bool _=>true
 | .int _=>true
 | .str _=>true
 | .list ds=>ndcs ds
 | .tuple ds=>ndcs ds
 | .dict _=>false
def ndcs:List D->Bool
 | []=>true
 | d::ds=>ndc d&&ndcs ds
end
variable {kvs:List (C1 × V)} {o:Obj} {U:L2.St} {O:C4} {Q:QD} {ks:List C1} {acc:Addr} {n:Nat}
section
variable {K:W.Frag} {H H':Hp} {v:V} {d d':D}
def Fz (H H':Hp):Prop:=∀ a o,H a=some o->H' a=some o\/∃ ob kvs,o=.dK kvs/\H' a=some (.frz ob (.dK kvs))
theorem Fz.lst (f:Fz H H') {a:Addr} {us:List V} (h:H a=some (.lst us)):H' a=some (.lst us):=by
 rcases f _ _ h with h|⟨_,_,e,_⟩
 ·exact h
 ·cases e
theorem Fz.tup (f:Fz H H') {a:Addr} {us:List V} (h:V2 K H a us):V2 K H' a us:=by
 rcases h with (h|⟨o,h⟩)|h
 ·rcases f _ _ h with h|⟨_,_,e,_⟩
  ·exact .inl (.inl h)
  ·cases e
 ·rcases f _ _ h with h|⟨_,_,e,_⟩
  ·exact .inl (.inr ⟨o,h⟩)
  ·cases e
 ·exact .inr h
theorem Fz.dn2 (f:Fz H H'):(∀ {v d},Dn K H v d->ndc d=true->Dn K H' v d)/\∀ {v d},Dns K H v d->ndcs d=true->Dns K H' v d :=
 Dn.both (λ_=>.non) (λb _=>.bl b) (λb _=>.int b) (λb _=>.str b) (λh r q=>.lst (f.lst h) (r q)) (λh r q=>.tup (f.tup h) (r q)) (λ_ _ h=>nomatch h) (λ_ h=>nomatch h) (λ_ _ h=>nomatch h) (λ_ _ h=>nomatch h) (λ_ _ _ h=>nomatch h) (λ_=>.nil) λp r q=>by
  rw[ndcs,zb] at q;exact .cons (p q.1) (r q.2)
theorem Fz.dn (f:Fz H H') (h:Dn K H v d) (q:ndc d=true):Dn K H' v d:=f.dn2.1 h q
theorem A8d {es:List (C1 × D)} (p:VPs kvs es):B0c kvs (es.map λp=>(E3 p.1,p.2)):=C99 p
theorem Fz.dct (f:Fz H H') {es:List (C1 × D)} (h:Dn K H v (K8 es)):Dn K H' v (dFD es):=by
 obtain ⟨a,kvs,rfl,e,p⟩:=Z9 h;rcases f _ _ e with h|⟨ob,_,e,h⟩
 ·exact .dcf (.inl h) (A8d p)
 ·cases e;exact .dcf (.inr ⟨ob,h⟩) (A8d p)
inductive FrO:D->D->Prop
 | same (x:D):ndc x=true->FrO x x
 | dct (es):FrO (K8 es) (dFD es)
 | two (a b):FrO (.tuple [K8 a,K8 b]) (.tuple [dFD a,dFD b])
 | dcl (kds:List (D × D)):ndcs (kds.map Prod.snd)=true->FrO (.dict ((.int 1,.none)::kds)) (.dict ((.int 1,.none)::kds))
theorem Fz.rd (f:Fz H H') {a:Addr} (e:Rd H a (.dK kvs)):Rd H' a (.dK kvs):=by
 rcases e with e|⟨o,e⟩
 ·rcases f _ _ e with h|⟨ob,_,z,h⟩
  ·exact .inl h
  ·cases z;exact .inr ⟨ob,h⟩
 ·rcases f _ _ e with h|⟨_,_,z,_⟩
  ·exact .inr ⟨o,h⟩
  ·cases z
theorem FrO.dn (r:FrO d d') (f:Fz H H') (h:Dn K H v d):Dn K H' v d':=by
 cases r with
 | same _ q=>exact f.dn h q
 | dct es=>exact f.dct h
 | two a b =>
  cases h with
  | tup h r =>
   cases r with
   | cons h1 r =>
    cases r with
    | cons h2 r =>
     cases r;exact .tup (f.tup h) (.cons (f.dct h1) (.cons (f.dct h2) .nil))
 | dcl kds hn =>
  cases h with
  | dcl e g r=>exact .dcl (f.rd e) g (f.dn2.2 r hn)
theorem C2m {es:List (C1 × D)} (h:Dn K H v (dFD es)):∃ a kvs,v=.ref a/\Rd H a (.dK kvs)/\VPs kvs es:=by
 unfold dFD at h;cases h with
 | dcf e r=>exact ⟨_,_,rfl,e,B45 r⟩
theorem Fz.upd {a:Addr} (h:H a=some (.dK kvs)):Fz H (L2.upd H a (.frz o (.dK kvs))):=λb u e=>by
 by_cases z:b=a
 ·subst z;rw[h] at e;cases e;exact .inr ⟨o,kvs,rfl,B2⟩
 ·exact .inl (by rw[B5 z];exact e)
theorem C87 (e:A9 H H'):Fz H H':=λa o h=>.inl (e _ _ h)
end
section
variable {X:Cx} {K:W.Frag} {E:XK} {H H' Hf:Hp}
structure C37 (K:W.Frag) (Hf:Hp) (cap:List (Str × Nat)) (U:L2.St) (O':C4):Prop where
 len:O'.length=cap.length
 get:∀ (j:Nat) (x:Bool × D),O'[j]?=some (some x)->x.1=false/\∃ p v,cap[j]?=some p/\U[p.2]?=some (some v)/\Dn K Hf v x.2
def A07 (cap:List (Str × Nat)) (U:L2.St):L2.St:=cap.map λp=>(U[p.2]?).join
theorem C37.st (C:C37 K Hf cap U O') (k:C1) (e:A9 Hf H'):B8 K Z0 Hf (λ_=>[]) (some (false,E3 k)::O') (some (kV k)::A07 cap U) H' where
 sm:=e
 len:=by unfold A07;simp[C.len]
 sl:=λi b d h=>by
  cases i with
  | zero =>
   cases h;refine ⟨_,rfl,?_⟩;cases k with
   | inl i=>exact .int i
   | inr x=>exact .str x
  | succ i =>
   rw[List.getElem?_cons_succ] at h;obtain ⟨hb,p,v,h1,h2,h3⟩:=C.get i _ h;cases hb;refine ⟨v,?_,?_⟩
   ·rw[List.getElem?_cons_succ];unfold A07;rw[qk,h1];simp[h2]
   ·exact Dn.same (e.trans A4g) h3
 nd:=λ_=>nodup_nil
 dj:=λi j a h=>by cases h
 fr:=λi a h=>by cases h
 zf:=λa h=>h.elim
theorem A9o {tif:Y7} {g:C1->Bool} {emit:TS} {x0:Option V}
  (hJ:∀ H2,A9 Hf H2->J.stop ks.length H2/\∀ i (h:i < ks.length),J.go i H2/\∀ x H',J.yld i H2 x H'->A9 H2 H'/\x=kV ks[i])
  (C:C37 K Hf cap U O') (ht:∀ k∈ks,∀ Q':Bool->Prop,Q' (g k)->tif (some (false,E3 k)::O') Q' Xf)
  (hA0:Acc [] H1) (hs0:A9 Hf H1) (hAs:∀ ls H2 H3,Acc ls H2->A9 H2 H3->Acc ls H3)
  (hem:∀ D ls k H2,ls.length < ks.length->Acc ls H2->A9 Hf H2->(∀ H3,Acc (ls++[k]) H3->A9 Hf H3->D.nx (some (kV k)::A07 cap U) H3)->emit D (some (kV k)::A07 cap U) H2)
  (q:∀ U' H2,Acc (ks.filter g) H2->A9 Hf H2->En.nx U' H2) :
  A4z J (N1 0) (A4n (LT K E0 tif) emit) En (x0::A07 cap U) H1:=by
 refine ⟨λi m U' H'=>m=ks.length - i/\i<=ks.length/\(∃ x,U'=x::A07 cap U)/\A9 Hf H'/\Acc ((ks.take i).filter g) H',⟨_,rfl,zz _,⟨_,rfl⟩,hs0,hA0⟩,?_⟩;rintro i m σ2 H2 ⟨rfl,hi,⟨x,rfl⟩,sm,ac⟩;obtain ⟨j1,j2⟩:=hJ H2 sm;by_cases hlt:i < ks.length
 ·obtain ⟨k1,k2⟩:=j2 i hlt;refine .inr ⟨k1,_,λU' H' hN=>⟨_,(by lia:ks.length - (i+1) < ks.length - i),rfl,hlt,hN⟩,λv H' hy=>?_⟩;obtain ⟨e1,rfl⟩:=k2 v H' hy;have et:ks.take (i+1)=ks.take i++[ks[i]]:=by rw[take_add_one,zd hlt];rfl
  show A4n (LT K E0 tif) emit _ (some (kV ks[i])::A07 cap U) H';refine ⟨Hf,_,_,λb=>b=g ks[i],Xf,C.st ks[i] (sm.trans e1),ht _ (List.getElem_mem hlt) _ rfl,λb H3 hb e3=>?_,λ_ _ z=>z.elim⟩;subst hb;have sm3:=(sm.trans e1).trans e3;have ac3:=hAs _ _ _ ac (e1.trans e3);by_cases hg:g ks[i]=true
  ·rw[qm hg];refine hem _ _ _ _ ?_ ac3 sm3 λH4 a4 s4=>⟨⟨_,rfl⟩,s4,?_⟩
   ·have:=length_filter_le g (ks.take i);rw[ja] at this;lia
   ·rw[et,filter_append];simp only[List.filter_cons,hg,if_true,List.filter_nil];exact a4
  ·rw[qo hg];refine ⟨⟨_,rfl⟩,sm3,?_⟩;rw[et,filter_append];simp only[List.filter_cons,hg,List.filter_nil];simpa using ac3
 ·have e:i=ks.length:=by lia
  subst e;rw[take_length] at ac;exact .inl ⟨j1,q _ _ ac sm⟩
theorem B3i (es:List (C1 × D)) (ls:List C1) (k:C1):Q2 es (ls++[k])=A0z (Q2 es ls) k (.bool true):=by
 induction ls generalizing es with
 | nil=>rfl
 | cons a r ih=>exact ih _
theorem B26 (ha:Hf acc=none) (hn:n < 1000000):∀ D ls k H2,ls.length < n->(λls H2=>∃ kvs,H2 acc=some (.dK kvs)/\VPs kvs (Q2 [] ls)) ls H2->A9 Hf H2->(∀ H3,(λls H2=>∃ kvs,H2 acc=some (.dK kvs)/\VPs kvs (Q2 [] ls)) (ls++[k]) H3->A9 Hf H3->D.nx (some (kV k)::A07 cap U) H3)->B3f acc (Z1 0) (tC (.bl true)) D (some (kV k)::A07 cap U) H2:=λD ls k H2 hl ⟨kvs,e,p⟩ sm q=>by
 refine ⟨kV k,rfl,kvs,k,rfl,e,?_,q _ ⟨_,B2,?_⟩ (sm.put ha)⟩
 ·have:=A6w ls [];rw[List.length_nil] at this;rw[p.length];exact qr (by lia) L3
 ·rw[B3i];exact p.put rfl
theorem C2l (ha:Hf acc=none) (hn:n < 1000000):∀ D ls k H2,ls.length < n->(λls H2=>H2 acc=some (.lst (ls.map kV))) ls H2->A9 Hf H2->(∀ H3,(λls H2=>H2 acc=some (.lst (ls.map kV))) (ls++[k]) H3->A9 Hf H3->D.nx (some (kV k)::A07 cap U) H3)->B0k acc (Z1 0) D (some (kV k)::A07 cap U) H2:=λD ls k H2 hl e sm q=>by
 refine ⟨kV k,rfl,_,e,?_,q _ (by show L2.upd _ _ _ _=_;rw[B2,map_append];rfl) (sm.put ha)⟩;rw[qf];exact qr (by lia) L3
def A65 (cap:List (Str × Nat)) (O O':C4):Prop:=O'.length=cap.length/\∀ (j:Nat) (x:Bool × D),O'[j]?=some (some x)->x.1=false/\∃ p c d,cap[j]?=some p/\O[p.2]?=some (some (c,d))/\FrO d x.2
theorem A65.f (C:A65 cap O O') (S:B8 K Z0 H0 ν O U H) (f:Fz H Hf):C37 K Hf cap U O':=⟨C.1,λj x h=>by
 obtain ⟨h1,p,c,d,h2,h3,h4⟩:=C.2 j x h;obtain ⟨v,g1,g2⟩:=S.get h3;exact ⟨h1,p,v,h2,g1,h4.dn f g2⟩⟩
def D4z (ti:TDI) (tif:Y7) (cap:List (Str × Nat)):TD:=λO Q Xd=>ti O (λds b=>∃ (ks:List C1) (g:C1->Bool) (O':C4),ds=ks.map E3/\ks.length < 1000000/\A65 cap O O'/\(∀ k∈ks,∀ Q':Bool->Prop,Q' (g k)->tif (some (false,E3 k)::O') Q' Xf)/\Q (K8 (Q2 [] (ks.filter g))) (.own [])) Xd
def D57 (ti:TD) (tif:Y7) (cap:List (Str × Nat)):TD:=λO Q Xd=>ti O (λd _=>∃ (es:List (C1 × D)) (g:C1->Bool) (O':C4),d=K8 es/\es.length < 1000000/\A65 cap O O'/\(∀ k∈es.map (·.1),∀ Q':Bool->Prop,Q' (g k)->tif (some (false,E3 k)::O') Q' Xf)/\Q (K8 (Q2 [] ((es.map (·.1)).filter g))) (.own [])) Xd
def D3p (ti:TD) (tif:Y7) (cap:List (Str × Nat)):TD:=λO Q Xd=>ti O (λd _=>∃ (es:List (C1 × D)) (g:C1->Bool) (O':C4),d=K8 es/\es.length < 1000000/\A65 cap O O'/\(∀ k∈es.map (·.1),∀ Q':Bool->Prop,Q' (g k)->tif (some (false,E3 k)::O') Q' Xf)/\Q (.list (((es.map (·.1)).filter g).map E3)) (.own [])) Xd
variable {d:Addr}
theorem A7y (hk:kvs.map (·.1)=ks) (hd:Hf d=some (.frz o (.dK kvs))):∀ H2,A9 Hf H2->(Itk d o kvs).stop ks.length H2/\∀ i (h:i < ks.length),(Itk d o kvs).go i H2/\∀ x H',(Itk d o kvs).yld i H2 x H'->A9 H2 H'/\x=kV ks[i]:=λH2 sm=>by
 subst hk;refine ⟨⟨sm _ _ hd,by rw[qf];exact qp _⟩,λi h=>⟨⟨sm _ _ hd,by rw[qf] at h;exact h⟩,λx H' hy=>?_⟩⟩;obtain ⟨⟨k,v,e1,rfl⟩,rfl⟩:=hy;refine ⟨A9.refl _,?_⟩;rw[List.getElem_map];rw[qf] at h;rw[zd h] at e1;rw[zp e1]
theorem A36 (hd:H1 d=some (.dK kvs)) (e:A9 (L2.upd H1 d (.frz o (.dK kvs))) H2):A9 H1 (L2.upd H2 d (.dK kvs)):=λa u h=>by
 by_cases z:a=d
 ·subst z;rw[hd] at h;cases h;exact B2
 ·rw[B5 z];exact e _ _ (by rw[B5 z];exact h)
theorem A5s {H:Hp}:∀ ks:List C1,Ows K H (ks.map kV) (ks.map E3) []
 | []=>.nil
 | .inl i::r=>.cons (ns:=[]) (.int i) (A5s r)
 | .inr x::r=>.cons (ns:=[]) (.str x) (A5s r)
variable {pos p0 p1 p2:Pos} {iter:Expr} {scope:Scope} {ti:TDI} {td:TD} {tif:Y7} {y:Str} {test:Expr}
theorem D3h {own:List Str} (H00:Hp) (ho:own.length=1):∀ U H Q,LE K E (D57 td tif cap) U H Q->A8u H00 (C3j (A7q H00 (LE K E td)) (N1 0) (LT K E0 tif) (Z1 0) (tC (.bl true)) own cap) U H Q:=λU H Q h=>by
 obtain ⟨H0,ν,O,Qd,Xd,S,h1,q,x⟩:=h;refine ⟨H0,ν,O,_,Xd,S,h1,λd k v H1 g1 e1 r1=>?_,x⟩;obtain ⟨es,g,O',rfl,hl,cr,ht,g1⟩:=g1;obtain ⟨a,kvs,rfl,e,p⟩:=Z9 r1.den;refine ⟨a,kvs,rfl,e,λo n0 acc hacc=>?_⟩;have hf:=Fz.upd (o:=o) e;have hk:kvs.map (·.1)=es.map (·.1):=A03 p;have hne:acc≠a:=λz=>by rw[z,B2] at hacc;cases hacc
 have hacc1:H1 acc=none:=by rw[B5 hne] at hacc;exact hacc
 match own,ho with
 | [y],_ =>
 refine A9o (Hf:=L2.upd H1 a (.frz o (.dK kvs))) (Acc:=λls H2=>∃ kvs,H2 acc=some (.dK kvs)/\VPs kvs (Q2 [] ls)) (A7y hk B2) (cr.f (S.same e1) hf) ht ⟨_,B2,.nil⟩ (A9.new hacc) (λls H2 H3 ⟨kv,b1,b2⟩ e=>⟨kv,e _ _ b1,b2⟩) (B26 hacc (by rw[qf];exact hl)) λU' H2 ⟨kv,a1,a2⟩ sm=>?_;refine ⟨a,o,kvs,sm _ _ B2,n0,q _ _ _ _ g1 (e1.trans (A36 e sm)) ⟨[acc],B1i (by rw[B5 hne];exact a1) a2,by simp,λb hb=>?_⟩⟩;rw[zc] at hb;subst hb;exact .inl (e1.gone hacc1)
theorem D32 {own:List Str} (H00:Hp) (ho:own.length=1):∀ U H Q,LE K E (D3p td tif cap) U H Q->A8u H00 (tLC (A7q H00 (LE K E td)) (N1 0) (LT K E0 tif) (λacc=>B0k acc (Z1 0)) own cap) U H Q:=λU H Q h=>by
 obtain ⟨H0,ν,O,Qd,Xd,S,h1,q,x⟩:=h;refine ⟨H0,ν,O,_,Xd,S,h1,λd k v H1 g1 e1 r1=>?_,x⟩;obtain ⟨es,g,O',rfl,hl,cr,ht,g1⟩:=g1;obtain ⟨a,kvs,rfl,e,p⟩:=Z9 r1.den;refine ⟨a,kvs,rfl,e,λo n0 acc hacc=>?_⟩;have hf:=Fz.upd (o:=o) e;have hk:kvs.map (·.1)=es.map (·.1):=A03 p;have hne:acc≠a:=λz=>by rw[z,B2] at hacc;cases hacc
 have hacc1:H1 acc=none:=by rw[B5 hne] at hacc;exact hacc
 match own,ho with
 | [y],_ =>
 refine A9o (Hf:=L2.upd H1 a (.frz o (.dK kvs))) (Acc:=λls H2=>H2 acc=some (.lst (ls.map kV))) (A7y hk B2) (cr.f (S.same e1) hf) ht B2 (A9.new hacc) (λls H2 H3 b e=>e _ _ b) (C2l hacc (by rw[qf];exact hl)) λU' H2 a1 sm=>?_;refine ⟨a,o,kvs,sm _ _ B2,n0,q _ _ _ _ g1 (e1.trans (A36 e sm)) ⟨[acc],.lst (by rw[B5 hne];exact a1) (A5s _),by simp,λb hb=>?_⟩⟩;rw[zc] at hb;subst hb;exact .inl (e1.gone hacc1)
theorem C67 (own:List Str) (cap:List (Str × Nat)) (ho:own.length=1) (hc:X.calm=true) (L:C2 X scope own cap) (hi:DE X K E iter td)
  (hin:∀ (s₃:Shared) (H₃:Hp) (fp:List Addr),QG (X.inn scope (L2.D2 own cap) s₃ H₃ fp) (.Name y p0) (N1 0)/\DTs (X.inn scope (L2.D2 own cap) s₃ H₃ fp) K [test] tif/\QE (X.inn scope (L2.D2 own cap) s₃ H₃ fp) (.Name y p1) (Z1 0))
  (hs:∀ x,foldedSetIterable iter X.env x=pure x:=by intro _;rfl):DE X K E (.ListComp (.Name y p1) [⟨.Name y p0,iter,[test],0⟩] scope pos) (D3p td tif cap) :=
 ⟨C9 (A7m (B2w own cap hc L (A0p hi.q) (λa b c acc=>⟨(hin a b c).1,(hin a b c).2.1.q,A5w rfl rfl (hin a b c).2.2⟩) hs)) (D32 X.H₀ ho)⟩
theorem D2a {own:List Str} (ho:own.length=1):∀ U H Q,LE K E (D4z ti tif cap) U H Q->C3j (LI K E ti) (N1 0) (LT K E0 tif) (Z1 0) (tC (.bl true)) own cap U H Q:=λU H Q h=>by
 obtain ⟨H0,ν,O,Qd,Xd,S,h1,q,x⟩:=h;refine ⟨H0,ν,O,_,Xd,S,h1,λds b J H1 g1 e1 it=>?_,x⟩;obtain ⟨ks,g,O',rfl,hl,cr,ht,g1⟩:=g1;intro acc hacc;have S1:=S.same e1
 match own,ho with
 | [y],_ =>
 refine A9o (Hf:=H1) (Acc:=λls H2=>∃ kvs,H2 acc=some (.dK kvs)/\VPs kvs (Q2 [] ls)) (ks:=ks) (λH2 sm=>?_) (cr.f S1 (C87 (A9.refl _))) ht ⟨_,B2,.nil⟩ (A9.new hacc) (λls H2 H3 ⟨kv,b1,b2⟩ e=>⟨kv,e _ _ b1,b2⟩) (B26 hacc hl) λU' H2 ⟨kv,a1,a2⟩ sm=>?_
 ·have it2:=it (λa=>b=true/\Hd Z0 ν a) H2 (λa z=>by obtain ⟨o,e⟩:=S1.hl a z.2;exact ⟨o,sm _ _ e⟩) (λa o e=>by
   unfold fz at e;cases b with
   | true=>rw[qm rfl] at e;obtain ⟨e1,e2⟩:=G7 e;exact E2 (sm _ _ e1) λz=>e2 z.2
   | false=>rw[qo qt] at e;exact E2 (sm _ _ e) λz=>by cases z.1)
  obtain ⟨i1,i2⟩:=it2;rw[qf] at i1;refine ⟨i1,λi hlt=>?_⟩;obtain ⟨j1,j2⟩:=i2 i (E3 ks[i]) (by rw[qk,zd hlt];rfl);refine ⟨j1,λv H' hy=>?_⟩;obtain ⟨k1,k2⟩:=j2 v H' hy;exact ⟨k1,A95 k2⟩
 ·refine q _ _ _ _ g1 (e1.trans sm) ⟨[acc],B1i a1 a2,by simp,λb hb=>?_⟩;rw[zc] at hb;subst hb;exact .inl (e1.gone hacc)
theorem C56 (own:List Str) (cap:List (Str × Nat)) (ho:own.length=1) (hc:X.calm=true) (L:C2 X scope own cap) (hi:DI X K E (.Name y p0) iter ti)
  (hin:∀ (s₃:Shared) (H₃:Hp) (fp:List Addr),QG (X.inn scope (L2.D2 own cap) s₃ H₃ fp) (.Name y p0) (N1 0)/\DTs (X.inn scope (L2.D2 own cap) s₃ H₃ fp) K [test] tif/\QE (X.inn scope (L2.D2 own cap) s₃ H₃ fp) (.Name y p1) (Z1 0)) {j:Nat}
  (hs:∀ x,foldedSetIterable iter X.env x=pure x:=by intro _;rfl):DE X K E (.DictComp (.Name y p1) (.Constant (.bool true) j p2) [⟨.Name y p0,iter,[test],0⟩] scope pos) (D4z ti tif cap) :=
 ⟨C9 (C5y own cap hc L hi.q (λa b c=>⟨(hin a b c).1,(hin a b c).2.1.q,(hin a b c).2.2,⟨C23⟩⟩) hs) (D2a ho)⟩
theorem D7u (h:ti O (λds b=>∃ (ks:List C1) (g:C1->Bool) (O':C4),ds=ks.map E3/\ks.length < 1000000/\A65 cap O O'/\(∀ k∈ks,∀ Q':Bool->Prop,Q' (g k)->tif (some (false,E3 k)::O') Q' Xf)/\Q (K8 (Q2 [] (ks.filter g))) (.own [])) Xd):D4z ti tif cap O Q Xd:=h
theorem D6m (h:td O (λd _=>∃ (es:List (C1 × D)) (g:C1->Bool) (O':C4),d=K8 es/\es.length < 1000000/\A65 cap O O'/\(∀ k∈es.map (·.1),∀ Q':Bool->Prop,Q' (g k)->tif (some (false,E3 k)::O') Q' Xf)/\Q (K8 (Q2 [] ((es.map (·.1)).filter g))) (.own [])) Xd):D57 td tif cap O Q Xd:=h
theorem D67 (h:td O (λd _=>∃ (es:List (C1 × D)) (g:C1->Bool) (O':C4),d=K8 es/\es.length < 1000000/\A65 cap O O'/\(∀ k∈es.map (·.1),∀ Q':Bool->Prop,Q' (g k)->tif (some (false,E3 k)::O') Q' Xf)/\Q (.list (((es.map (·.1)).filter g).map E3)) (.own [])) Xd):D3p td tif cap O Q Xd:=h
def B57 (tk:TKy) (td:TD):TD:=λO Q Xd=>tk O (λk=>td O (λd _=>∃ es k',d=dFD es/\k=.inl k'/\Q (.bool (look es k').isSome) .old) Xd) Xd
theorem B0b {i o:Expr} (hu:X.A.units+1 < cLine) (hi:DKy X K E i tk) (ho:DE X K E o td) (hm:behindInMarks .In o=false):DE X K E (.Compare i [.In] [o] pos) (B57 tk td) :=
 ⟨C9 (C5h hu hi.q ho.q hm) λU H Q h=>by
 obtain ⟨H0,ν,O,Qd,Xd,S,h1,q,x⟩:=h;refine ⟨H0,ν,O,_,Xd,S,h1,λk v H1 g1 e1 r1=>?_,x⟩;refine ⟨H0,ν,O,_,Xd,S.same e1,g1,λd kk u H2 g2 e2 r2=>?_,x⟩;obtain ⟨es,k',rfl,rfl,g2⟩:=g2;obtain ⟨a,kvs,rfl,e,p⟩:=C2m r2.den;have r3:=r1.same e2;cases r3;refine ⟨a,_,rfl,.inl ⟨kvs,k',e,rfl,rfl⟩,?_⟩;have:(O4 kvs k').isSome=(look es k').isSome:=by
  rcases p.look k' with ⟨d,v,e1,e2,_⟩|⟨e1,e2⟩
  ·rw[e1,e2];rfl
  ·rw[e1,e2];rfl
 rw[this];exact q _ _ _ _ g2 (e1.trans e2) (.bl _)⟩
theorem D3b (h:tk O (λk=>td O (λd _=>∃ es k',d=dFD es/\k=.inl k'/\Q (.bool (look es k').isSome) .old) Xd) Xd):B57 tk td O Q Xd:=h
def D4k:F2:=λd _ e _ Q=>match d,e with
 | .str i,.str j=>Q (.bool (!(Builtin.Str.occurrences j i 0 j.length 1).isEmpty)) .old
 | _,_=>False
theorem B54:DOp X K (compareOp .In) D4k:=⟨_,B85,λZ ν Hs H x y d k e l Qf Q _ _ _ h3 h4 h5 h6=>by
 unfold D4k at h5;split at h5
 ·have a:=h3.den;have b:=h4.den;cases a;cases b;exact ⟨_,_,rfl,rfl,h6 _ _ _ _ h5 (A9.refl H) (.bl _)⟩
 ·exact h5.elim⟩
theorem D6r {z y:Str} {k l:Kd} (h:Q (.bool (!(Builtin.Str.occurrences y z 0 y.length 1).isEmpty)) .old):D4k (.str z) k (.str y) l Q:=h
def D1r:FA:=λds _ Q=>∃ ts:List Str,ds=[.list (ts.map .str)]/\ts.Nodup/\ts.length < 128/\∀ us:List Str,us.Perm ts->us.Pairwise O7->Q (.list (us.map .str)) (.own [])
theorem A47 {H:Hp}:∀ us:List Str,Dns K H (us.map V.str) (us.map PyData.str)
 | []=>.nil
 | x::r=>.cons (.str x) (A47 r)
theorem Q7:∀ us:List Str,flats (us.map PyData.str)=true
 | []=>rfl
 | x::r=>by rw[map_cons,flats,Q7 r];rfl
theorem B0i {H:Hp}:∀ {vs:List V} {us:List Str},Dns K H vs (us.map PyData.str)->vs=us.map V.str
 | [],[],_=>rfl
 | _,_::_,.cons h r=>by cases h;rw[B0i r];rfl
theorem A7j (hK:X.K=K):DCl X K (.builtin "sorted") D1r:=⟨_,B2f K hK,λZ ν Hs H xs ds k Qf Q hl hn hs h g q=>by
 obtain ⟨ts,rfl,g1,g2,g⟩:=g;obtain ⟨v,rfl,h1⟩:=Y9 h.dens;obtain ⟨a,us,rfl,e1,e2⟩:=E8 h1;have:=B0i e2;subst this;refine ⟨a,ts,rfl,O5.of e1,g1,g2,λus p1 p2 l hp=>q _ _ _ _ (g us p1 p2) (A9.new hp) (S7 (k:=.own []) hl hs hp ?_)⟩;exact ⟨[],P9 (A47 _) (Q7 _),nodup_nil,λ_ z=>by cases z⟩⟩
def C6r:FA:=λds _ Q=>∃ (es:List (C1 × D)) (ts:List Str),ds=[K8 es]/\es.map (·.1)=ts.map Sum.inr/\ts.Nodup/\ts.length < 128/\∀ us:List Str,us.Perm ts->us.Pairwise O7->Q (.list (us.map .str)) (.own [])
theorem B2c (hc:X.calm=true):DCl X K (.builtin "sorted") C6r:=⟨_,B0r hc,λZ ν Hs H xs ds k Qf Q hl hn hs h g q=>by
 obtain ⟨es,ts,rfl,g0,g1,g2,g⟩:=g;obtain ⟨v,rfl,h1⟩:=Y9 h.dens;obtain ⟨a,kvs,rfl,e,p⟩:=Z9 h1;have hk:kvs.map (·.1)=ts.map Sum.inr:=by rw[A03 p];exact g0
 have hlen:kvs.length=ts.length:=by have:=congrArg List.length hk;rwa [qf,qf] at this
 refine ⟨a,kvs,ts,rfl,e,hk,g1,by rw[hlen];exact g2,λus p1 p2 l hp=>q _ _ _ _ (g us p1 p2) (A9.new hp) (S7 (k:=.own []) hl hs hp ?_)⟩;exact ⟨[],P9 (A47 _) (Q7 _),nodup_nil,λ_ z=>by cases z⟩⟩
end
end DL
namespace L2
open PySem.W PySem.Calls
variable {X:Cx}
theorem B84 {i:Nat} {y:Str} {tg:Expr} {scope:Scope} {pos:Pos} {tk:TE} (own:List Str) (cap:List (Str × Nat)) (hN:X.N.Nodup) (hyi:X.N[i]?=some y) (hy:X.env.scope.names.lookup y=some .local) (hc:X.calm=true) (L:C2 X scope own cap) (hi:PI X tg iter wi)
  (hin:∀ (s₃:Shared) (H₃:Hp) (fp:List Addr),PG (X.inn scope (D2 own cap) s₃ H₃ fp) tg g/\PTs (X.inn scope (D2 own cap) s₃ H₃ fp) ifs ti/\PE (X.inn scope (D2 own cap) s₃ H₃ fp) ke tk/\PE (X.inn scope (D2 own cap) s₃ H₃ fp) ve tv)
  (hsw:swapsWith (.DictComp ke ve [⟨tg,iter,ifs,0⟩] scope pos) (some (.Name y py)) spos.line X.env=pure true:=by rfl) (hs:∀ x,foldedSetIterable iter X.env x=pure x:=by intro _;rfl) :
  PS X (.Assign [.Name y py] (.DictComp ke ve [⟨tg,iter,ifs,0⟩] scope pos) spos) (B18 (C3j wi g ti tk tv own cap) (N1 i)):=by
 intro pins s U H D I h;rw[exec_Assign_Name_used _ _ _ _ hsw];refine qb (wpAny_standAt (qb ?_));show wpAny _ X.A (do let _ <- comprehension (.DictComp ke ve [⟨tg,iter,ifs,0⟩] scope pos) scope X.env _ newDict false (eval iter X.env) (some (assign (.Name y py) X.env))) _ _ s;have hcl:∀ x∈scope.names,x.2=.free->∃ c,X.env.cells.lookup x.1=some c:=λx hx hk=>I.ok.has x.1 (L.fre x hx hk);refine qb (jc (wpAny_comprehension_free (use:=some (assign (.Name y py) X.env)) (Q:=λ_ s'=>SP X pins D .next s') rfl hs (P7 hcl) L.kind L.loc (E1 (hi pins s U H _ I h) λx s1 h1=>E1 h1 λitv s2 ⟨it,fp,tn,J,H2,e,I2,T,st2,f2,q2⟩=>?_)) (λ_ s' hq=>qc (qc hq)) λ_ _ e=>e);subst e;refine wpAny_newObj_type ?_;have I3:=I2.laid (a:=s2.heap.objs.size) (o:=.dK []) (t':=s2.toks) (λ_ _ q=>qa _ q) (qp _) (A2c s2.heap I2.big);have fr2:H2 s2.heap.objs.size=none:=I2.fresh;have f3:∀ b∈fp,V5 X pins (upd H2 s2.heap.objs.size (.dK [])) b:=λb hb=>by
  obtain ⟨o,eo,_⟩:=T.obj 0 _ st2 b hb;obtain ⟨g1,g2⟩:=f2 b hb;exact ⟨by rw[B5 (ze (qi eo))];exact g1,g2⟩
 have k3:∀ b o,s2.heap.get? b=some o->(s2.heap.push { cls:=.type "dict",data:=.dict #[] }).get? b=some o:=λb o e=>qa _ e;have st3:tn 0 (s2.heap.push { cls:=.type "dict",data:=.dict #[] }):=T.keep 0 _ _ st2 λb _ o e=>k3 b o e;refine A0u ?_;have I4:=A8q L I3 f3 λb hb=>by obtain ⟨o,eo,_⟩:=T.obj 0 _ st3 b hb;exact ⟨o,eo⟩
 obtain ⟨hg,ht,hk,hv⟩:=hin { s2 with heap:=s2.heap.push { cls:=.type "dict",data:=.dict #[] },toks:=s2.toks } (upd H2 s2.heap.objs.size (.dK [])) fp;have st4:=T.keep 0 _ (pushCells ((s2.heap.push { cls:=.type "dict",data:=.dict #[] }).push { cls:=.type "dict",data:=.dict #[] }) scope.names) st3 λb _ o e=>pushCells_keeps _ _ b o (qa _ e);have f4:∀ b∈fp,V5 (X.inn scope (D2 own cap) { s2 with heap:=s2.heap.push { cls:=.type "dict",data:=.dict #[] },toks:=s2.toks } (upd H2 s2.heap.objs.size (.dK [])) fp) [] (upd H2 s2.heap.objs.size (.dK [])) b:=λb hb =>
  ⟨(f3 b hb).1,(I4.ok.exf b hb).1,I4.ok.exfs b hb,.inl hb,(I4.ok.exf b hb).2,λp hp=>absurd (show p∈([]:List (Addr × Obj)) from hp) (by simp)⟩
 have lp:=A9z (Y:=X.inn scope (D2 own cap) { s2 with heap:=s2.heap.push { cls:=.type "dict",data:=.dict #[] },toks:=s2.toks } (upd H2 s2.heap.objs.size (.dK [])) fp) (acc:=s2.heap.objs.size) (scope:=scope) (pos:=pos) (iter:=iter) rfl hc hg ht hk hv I4 T st4 f4 (q2 _ fr2);have lp':=codeAny_mono lp (R':=compPost (model X.prog X.w) X.A X.xe (some (assign (.Name y py) X.env)) (λ_ s'=>SP X pins D .next s') (.ref s2.heap.objs.size) (s2.heap.push { cls:=.type "dict",data:=.dict #[] }).objs.size) λr s' ⟨hr,U',H',I',q'⟩=>by
  subst hr;obtain ⟨m',hn',_⟩:=id I'.loc;have B:=I'.base;have I5:B6 X pins U H' s':=I3.call' (ch:=fp) I'.os B I'.hok I'.bare λb hb=>⟨(f3 b hb).2.2.2.1,(f3 b hb).2.1,(f3 b hb).2.2.2.2.1,(f3 b hb).2.2.2.2.2⟩;have hC:H' (s2.heap.push { cls:=.type "dict",data:=.dict #[] }).objs.size=none:=I'.free;show wpAny _ X.A (assign (.Name y py) X.env (.ref s2.heap.objs.size)) _ _ _;refine wpAny_assign_Name (A31 I5 hN hyi (.inl hy) (v:=.ref s2.heap.objs.size) rfl (λs6 I6 ⟨a6,sb6,ha6⟩=>?_) (.inr hy));have neL:X.env.locals≠(s2.heap.push { cls:=.type "dict",data:=.dict #[] }).objs.size:=ze I3.lt;have ha:a6≠(s2.heap.push { cls:=.type "dict",data:=.dict #[] }).objs.size:=by
   rcases ha6 with rfl|ha6
   ·exact neL
   ·obtain ⟨v,hv⟩:=I3.cell y a6 ha6;exact ze hv.lt
  refine ⟨m',hn'.sameBut sb6 ha.symm,λh' hsb=>?_⟩;refine ⟨_,H',?_,q'⟩;have kb:∀ b o,b≠(s2.heap.push { cls:=.type "dict",data:=.dict #[] }).objs.size->s6.heap.get? b=some o->h'.get? b=some o:=λb o hb e=>(hsb.2 b hb).trans e;refine I6.turned (t':=s6.toks) (it:=(s2.heap.push { cls:=.type "dict",data:=.dict #[] }).objs.size) kb hC neL.symm (.inr I3.sz) (λx c e z=>?_) (λp hp z=>?_)
  ·obtain ⟨v,hv⟩:=I3.cell x c e;exact absurd z (ze hv.lt)
  ·have:=(I3.pin p hp).1;exact absurd z (ze (qi this))
 exact A1x lp' (T.self _ _ _ _ _ st4 lp')
def D2b (H0:Hp) (t:TS):TS:=λD U H=>t { D with nx:=λU' H1=>∃ d o kvs,H1 d=some (.frz o (.dK kvs))/\(∀ o u,H0 d≠some (.frz o u))/\D.nx U' (upd H1 d (.dK kvs)) } U H
theorem B7t {st:Stmt} {t:TS} (h:QS X st t):QS X st (D2b X.H₀ t):=⟨by
 intro pins s U H D I hw;refine E1 (h.h pins s U H _ I hw) λf s1 q=>?_;cases f with
 | next =>
  obtain ⟨U',H1,I1,d,o,kvs,hd,h0,q⟩:=q;exact ⟨U',_,I1.thaw3 hd h0,q⟩
 | ret v=>exact q
 | brk=>exact q
 | cont=>exact q⟩
end L2
namespace DL
open L2
section
variable {X:Cx} {K:W.Frag} {E:XK} {pos p0 p1 p2:Pos} {iter:Expr} {scope:Scope} {td:TD} {tif:Y7} {y:Str} {test:Expr}
theorem B2b {i:Nat} {z:Str} {pz:Pos} (own:List Str) (cap:List (Str × Nat)) (hN:X.N.Nodup) (hyi:X.N[i]?=some z) (hy:X.env.scope.names.lookup z=some .local) (ho:own.length=1) (hc:X.calm=true) (L:C2 X scope own cap) (hi:DE X K E iter td)
  (hin:∀ (s₃:Shared) (H₃:Hp) (fp:List Addr),QG (X.inn scope (L2.D2 own cap) s₃ H₃ fp) (.Name y p0) (N1 0)/\DTs (X.inn scope (L2.D2 own cap) s₃ H₃ fp) K [test] tif/\QE (X.inn scope (L2.D2 own cap) s₃ H₃ fp) (.Name y p1) (Z1 0)) {j:Nat}
  (hsw:swapsWith (.DictComp (.Name y p1) (.Constant (.bool true) j p2) [⟨.Name y p0,iter,[test],0⟩] scope pos) (some (.Name z pz)) spos.line X.env=pure true:=by rfl) (hs:∀ x,foldedSetIterable iter X.env x=pure x:=by intro _;rfl) :
  DS X K E (.Assign [.Name z pz] (.DictComp (.Name y p1) (.Constant (.bool true) j p2) [⟨.Name y p0,iter,[test],0⟩] scope pos) spos) (C78 i (D57 td tif cap)) :=
 ⟨L9 (B7t ⟨B84 (i:=i) own cap hN hyi hy hc L (A0p hi.q).h (λa b c=>⟨(hin a b c).1.h,(hin a b c).2.1.q.h,(hin a b c).2.2.h,C23⟩) hsw hs⟩) λEn U H h=>by
  obtain ⟨H0,ν,O,Dd,Xd,S,h1,ok,x⟩:=h;refine D3h (own:=own) X.H₀ ho U H (λv H2=>En.nx (U.set i (some v)) H2) ⟨H0,ν,O,_,Xd,S,h1,λd k v H' g1 g2 g3=>?_,x⟩;obtain ⟨ν',S'⟩:=S.setK g2 g3 i;exact ok.nx _ _ _ _ g1 S'⟩
theorem C8l:∀ U H Q,LE K E (B57 tk td) U H Q->C4e (LKy K E tk) (LE K E td) U H Q:=λU H Q h=>by
 obtain ⟨H0,ν,O,Qd,Xd,S,h1,q,x⟩:=h;refine ⟨H0,ν,O,_,Xd,S,h1,λk v H1 g1 e1 r1=>?_,x⟩;refine ⟨H0,ν,O,_,Xd,S.same e1,g1,λd kk u H2 g2 e2 r2=>?_,x⟩;obtain ⟨es,k',rfl,rfl,g2⟩:=g2;obtain ⟨a,kvs,rfl,e,p⟩:=C2m r2.den;have r3:=r1.same e2;cases r3;refine ⟨a,_,rfl,.inl ⟨kvs,k',e,rfl,rfl⟩,?_⟩;have:(O4 kvs k').isSome=(look es k').isSome:=by
  rcases p.look k' with ⟨d,v,e1,e2,_⟩|⟨e1,e2⟩
  ·rw[e1,e2];rfl
  ·rw[e1,e2];rfl
 rw[this];exact q _ _ _ _ g2 (e1.trans e2) (.bl _)
theorem C30 {i o:Expr} (hu:X.A.units+1 < cLine) (hi:DKy X K E i tk) (ho:DE X K E o td) (hm:behindInMarks .In o=false):DT X K E (.Compare i [.In] [o] pos) (dB (B57 tk td)) :=
 ⟨X9 (B52 hu hi.q ho.q hm) λU H Q h=>C8l U H _ (C0l h)⟩
end
end DL
namespace L2
end L2
namespace DL
open L2
variable {y z:Nat}
section
variable {K:W.Frag} {H0 H H':Hp} {ν:Nat->List Addr} {O:C4} {U U':L2.St}
theorem B8.away (S:B8 K Z0 H0 ν O U H) {w:Nat} {p:Addr} (hw:ν w=[p]) (k:∀ a o,H a=some o->a≠p->H' a=some o) (hp:Mu H' p):B8 K Z0 H0 (λj=>if j=w then [p] else []) (DL.frz (O.set w none)) U H' where
 sm:=λa o h=>k a o (S.sm a o h) λz=>by
  have:=(S.fr w p (by rw[hw];simp)).1;rw[<-z,h] at this;cases this
 len:=by unfold DL.frz;rw[qf,length_set];exact S.len
 sl:=λi b d h=>by
  obtain ⟨rfl,c,h⟩:=B5e h;have hin:∀ a,Hd Z0 (λj=>if j=w then [p] else []) a->a=p:=λa z=>by
   rcases z with z|⟨j,z⟩
   ·exact z.elim
   ·dsimp only at z;split at z
    ·exact zc.mp z
    ·cases z
  have pw:p∈ν w:=by rw[hw];simp
  rcases P5 h with ⟨_,z,_⟩|⟨hne,h⟩
  ·cases z
  obtain ⟨v,h1,h2⟩:=S.sl i c d h;refine ⟨v,h1,?_⟩;cases c with
  | true =>
   have h2:Ow K H v d (ν i):=h2;have h3:=A5d (Z:=λa=>a=p) (λa z=>by rw[z];exact (S.fr w p pw).2.2) h2 λa ha z=>by
    have z:a=p:=z;rw[z] at ha;exact hne (S.dj i w p ha pw)
   refine Dn.same (λa o e=>?_) h3;obtain ⟨e1,e2⟩:=G7 e;exact E2 (k _ _ e1 e2) λz=>e2 (hin a z)
  | false =>
   refine Dn.same (λa o e=>?_) h2;obtain ⟨e1,e2⟩:=G7 e;have hne':a≠p:=λz=>e2 (.inr ⟨w,by rw[z];exact pw⟩);exact E2 (k _ _ e1 hne') λz=>hne' (hin a z)
 nd:=λj=>by split<;>simp
 dj:=λi j a h1 h2=>by
  split at h1
  ·split at h2
   ·lia
   ·cases h2
  ·cases h1
 fr:=λj a h=>by
  split at h
  ·rw[zc.mp h];exact ⟨(S.fr w p (by rw[hw];simp)).1,λz=>z.elim,hp⟩
  ·cases h
 zf:=λa z=>z.elim
def Jk (y z:Nat) (U U':L2.St):Prop:=U'.length=U.length/\∀ j,j≠y->j≠z->U'[j]?=U[j]?
theorem Jk.refl:Jk y z U U:=⟨rfl,λ_ _ _=>rfl⟩
theorem Jk.set1 {v:Option V} (h:Jk y z U U'):Jk y z U (U'.set y v):=⟨by rw[length_set];exact h.1,λj h1 h2=>by rw[List.getElem?_set_ne (Ne.symm h1)];exact h.2 j h1 h2⟩
theorem B8.jk (S:B8 K Z0 H0 ν ((O.set y none).set z none) U H) (h:Jk y z U U'):B8 K Z0 H0 ν ((O.set y none).set z none) U' H where
 sm:=S.sm
 len:=by rw[h.1];exact S.len
 sl:=λj b d hj=>by
  obtain ⟨v,q1,q2⟩:=S.sl j b d hj;refine ⟨v,?_,q2⟩;rcases P5 hj with ⟨_,z,_⟩|⟨n1,hj⟩
  ·cases z
  rcases P5 hj with ⟨_,z,_⟩|⟨n2,hj⟩
  ·cases z
  rw[h.2 j n2 n1];exact q1
 nd:=S.nd
 dj:=S.dj
 fr:=S.fr
 zf:=S.zf
end
end DL
namespace L2
structure A1y (K:W.Frag) (C R:Addr):Prop where
 sub:W.kitCls K (.ref C) (.ref R)=some false
 exc:W.subIn K (.ref R) (.type "BaseException")=some true
theorem C6m {K:W.Frag} {M:Model} {A:Around} {h:Heap} {g:Array GenState} {d:Drawn} {tk:Nat} {os:OsState} {e C:Addr} {Q:Bool->Shared->Prop} (X:K.In h) (he:h.get? e=some oe) (hcls:oe.cls=.ref C)
  (k:A1y K C R) (hq:Q false ⟨h,g,d,tk,os⟩):wpAny M A (excMatches (.ref e) (.ref R)) Q E ⟨h,g,d,tk,os⟩:=by
 obtain ⟨l1,l2,l3⟩:=W.kit_cls (M:=M) X k.sub;have l4:=W.looks_subIn (M:=M) X k.exc;have f:=tc_notTuple;unfold excMatches isInstance isExcClass
 repeat (first|with_reducible refine W.Looks.at l1 ?_|with_reducible refine W.Looks.at l2 ?_|with_reducible refine W.Looks.at l3 ?_|with_reducible refine W.Looks.at l4 ?_|(with_reducible refine wpAny_loadPart_at he ?_;rw[hcls])|wp_step)
 exact hq
section
variable {X:Cx} {pins:List (Addr × Obj)} {U:St} {H:Hp} {s:Shared} {ea C R R0:Addr} {B:Heap} {a0:Value} {x x0 n:Str} {nn:Option Str} {i:Nat} {np np0 pos pos0:Pos} {b0:Stmt} {ss suite:List Stmt} {rest:List ExceptHandler} {ts:TS} {D:V7}
theorem B9i (I:B6 X pins U H s) (F:A5j X) (hN:X.N.Nodup) (hi:X.N[i]?=some n) (hln:X.env.kindOf n=some .local) (hln2:X.env.scope.names.lookup n=some .local) (hb:X.base.StaysIn B) (fl:A0f B X.stack ea (.ref C) a0 s.heap) (pr:A10 X pins B H s.heap) (hg0:Gl X x0) (hm0:X.mg x0=some (.ref R0)) (k0:A1y X.K C R0) (hdb0:noD x0) (hg:Gl X x) (hm:X.mg x=some (.ref R)) (k:A1f X.K C R)
  (hs:∀ oe,XOf oe C->PSs (X.within ea oe) (b0::suite) ts) (h:H ea=none->ts (Y0 D) (U.set i (some (.ref ea))) H) (hdb:noD x) :
  wpAny (model X.prog X.w) X.A (noteFrame (.ref ea) X.env) (λ_ s2=>wpAny (model X.prog X.w) X.A (setFlight (.ref ea) none) (λ_ s3=>wpAny (model X.prog X.w) X.A (handleBy (.ref ea) X.env (.ExceptHandler (some (.Name x0 np0)) nn ss pos0::.ExceptHandler (some (.Name x np)) (some n) (b0::suite) pos::rest)) (SP X pins D) X.xe s3) X.xe s2) X.xe s:=by
 have hfr:X.A.frames=some (X.env::X.outer):=by rw[I.ok.frames,F.st]
 have fl0:=fl;rw[F.st] at fl;refine A6f hfr F.fr fl λh4 held up4=>C1u held λh5 fl5 up5=>?_;rw[<-F.st] at fl5;have I5:=I.fly F hb fl0.1 fl5 (up4.trans up5) pr;have pr5:A10 X pins B H h5:=A10.fly I F pr;obtain ⟨oe,ws,e1,e2,e3,e4,e5,e6,_⟩:=A3y F fl5 pr5;have IY:=I5.within e1 e3 e4 e5 e6;refine wpAny_handleBy_cons (codeAny_handlers_test ?_) (by intro q;cases q);refine U2 (X:=X.within ea oe) IY hg0 hm0 (C6m (K:=X.K) IY.kIn e1 e2 k0 ?_) hdb0;show wpAny (model X.prog X.w) X.A (handleBy (.ref ea) X.env (.ExceptHandler (some (.Name x np)) (some n) (b0::suite) pos::rest)) _ _ _;refine wpAny_handleBy_cons (codeAny_handlers_test ?_) (by intro q;cases q);refine U2 (X:=X.within ea oe) IY hg hm (A3a (K:=X.K) IY.kIn e1 e2 k ?_) hdb;refine codeAny_handlers_suite_as (A24 fl5 λh6 fl6 up6=>?_);have I6:=I5.fly F hb fl5.1 fl6 up6 pr5;have pr6:A10 X pins B H h6:=A10.fly I5 F pr5;obtain ⟨of,wf,f1,f2,f3,f4,f5,f6,f7⟩:=A3y F fl6 pr6;have IZ:=I6.within f1 f3 f4 f5 f6;refine Z6 (X:=X.within ea of) (v:=.ref ea) IZ hN hi (.inl hln2) rfl (λs2 I2=>?_) (.inr hln2);refine jc (hs of ⟨f2,f7⟩ pins s2 _ H (Y0 D) I2 (h f4)) (λf s' q=>?_) (λ_ _ z=>z.elim);cases f with
 | next=>obtain ⟨_,_,_,z⟩:=q;exact z.elim
 | brk=>obtain ⟨_,_,_,z⟩:=q;exact z.elim
 | cont=>obtain ⟨_,_,_,z⟩:=q;exact z.elim
 | ret u =>
  obtain ⟨v,U',H',I',r,q⟩:=q;have I'':=I'.without I.ok;obtain ⟨m,hn,_⟩:=I''.loc;have hcls:(X.env.scope.kind==.class||(X.env.scope.kind==.module&&X.env.locals != X.env.globals))=false:=by rw[I.ok.kind];rfl
  exact wpAny_nameGoes hln hn hcls λh' m' hn' sb=>⟨v,_,H',I''.lost hn' sb,r,q⟩
end
section
variable {X:Cx}
def D6z (R0 R:Addr) (i:Nat) (tb:TSX) (ts0 ts:Addr->Addr->TS) (K:W.Frag) (mg:Str->Option Value):TS:=λD U H =>
 tb D (λU' cls _ H'=>∃ C x,cls=.ref C/\W4 K mg x C/\ExK K C/\((A1f K C R0/\∀ ea,H' ea=none->ts0 ea C (Y0 D) (U'.set i (some (.ref ea))) H')\/(A1y K C R0/\A1f K C R/\∀ ea,H' ea=none->ts ea C (Y0 D) (U'.set i (some (.ref ea))) H'))) U H
theorem C2d (i:Nat) {x0 x n:Str} {b:Stmt} {tb:TSX} {ts0 ts:Addr->Addr->TS} {pos:Pos} (K:W.Frag) (hK:X.K=K) (mg:Str->Option Value) (hmg:X.mg=mg) (F:A5j X) (hN:X.N.Nodup) (hg0:Gl X x0) (hm0:mg x0=some (.ref R0)) (hg:Gl X x) (hm:mg x=some (.ref R)) (hb:D3e X body tb)
  (hs0:∀ ea oe C y,XOf oe C->W4 K mg y C->ExK K C->QSs (X.within ea oe) (b0::suite0) (ts0 ea C)) (hs:∀ ea oe C y,XOf oe C->W4 K mg y C->ExK K C->QSs (X.within ea oe) (b::suite) (ts ea C)) (hi:X.N[i]?=some n:=by rfl) (hln:X.env.kindOf n=some .local:=by rfl) (hln2:X.env.scope.names.lookup n=some .local:=by rfl) (hdb0:noD x0:=by decide) (hdb:noD x:=by decide) :
  QS X (.Try body [.ExceptHandler (some (.Name x0 np0)) (some n) (b0::suite0) hpos0,.ExceptHandler (some (.Name x np)) (some n) (b::suite) hpos] [] [] pos) (D6z R0 R i tb ts0 ts K mg):=⟨by
 subst hK hmg;intro pins s U H D I h;refine wpAny_Try_except (jc (hb.h pins s U H D _ I h) (λf s1 q=>?_) (λe s1 q=>?_))
 ·cases f with
  | next =>
   obtain ⟨U',H',I',q⟩:=q;exact wpAny_execs_nil ⟨U',H',I',q⟩
  | ret v=>exact q
  | brk=>exact q
  | cont=>exact q
 ·obtain ⟨U',ea,cls,H',B,a0,rfl,I',hb',fl,pr,C,y,rfl,c,kk,q⟩:=q;rcases q with ⟨k,q⟩|⟨k0,k,q⟩
  ·exact C51 I' F hN hi hln hln2 hb' fl pr hg0 hm0 k (λoe ho=>(hs0 ea oe C y ho c kk).h) (q ea) hdb0
  ·exact B9i I' F hN hi hln hln2 hb' fl pr hg0 hm0 k0 hdb0 hg hm k (λoe ho=>(hs ea oe C y ho c kk).h) (q ea) hdb⟩
end
end L2
namespace DL
open L2
variable {mg:Str->Option Value} {tb:A5n}
section
variable {X:Cx} {K:W.Frag} {pos:Pos}
def C9k (K:W.Frag) (mg:Str->Option Value) (R0 R:Addr) (i:Nat) (tb:A5n) (ts0 ts:Addr->Addr->L1):L1:=λDd O _=>tb Dd O λO' C=>(∃ x,W4 K mg x C)/\ExK K C/\((A1f K C R0/\∀ ea,ts0 ea C (A34 Dd) (O'.set i (some (false,opq ea))) Xf)\/(A1y K C R0/\A1f K C R/\∀ ea,ts ea C (A34 Dd) (O'.set i (some (false,opq ea))) Xf))
theorem C4f (i:Nat) {E:XK} {x0 x n:Str} {b:Stmt} (hK:X.K=K) (hmg:X.mg=mg) (F:A5j X) (hN:X.N.Nodup) (hg0:Gl X x0) (hm0:mg x0=some (.ref R0)) (hg:Gl X x) (hm:mg x=some (.ref R)) (hb:D8y X K body tb)
  (hs0:∀ ea oe C y,XOf oe C->W4 K mg y C->ExK K C->DSs (X.within ea oe) K E0 (b0::suite0) (ts0 ea C)) (hs:∀ ea oe C y,XOf oe C->W4 K mg y C->ExK K C->DSs (X.within ea oe) K E0 (b::suite) (ts ea C)) (hi:X.N[i]?=some n:=by rfl) (hln:X.env.kindOf n=some .local:=by rfl) (hln2:X.env.scope.names.lookup n=some .local:=by rfl) (hdb0:noD x0:=by decide) (hdb:noD x:=by decide) :
  DS X K E (.Try body [.ExceptHandler (some (.Name x0 np0)) (some n) (b0::suite0) hpos0,.ExceptHandler (some (.Name x np)) (some n) (b::suite) hpos] [] [] pos) (C9k K mg R0 R i tb ts0 ts):=⟨L9 (C2d i K hK mg hmg F hN hg0 hm0 hg hm hb.q (λea oe C y h1 h2 h3=>(hs0 ea oe C y h1 h2 h3).q) (λea oe C y h1 h2 h3=>(hs ea oe C y h1 h2 h3).q) hi hln hln2 hdb0 hdb) λEn U H h=>by
 obtain ⟨H0,ν,O,Dd,Xd,S,h1,ok,x⟩:=h;refine ⟨H0,ν,O,Dd,_,S,h1,ok,λν' O' U' H' C a S'=>?_⟩;obtain ⟨⟨y,a2⟩,a3,a4⟩:=a;have mk:∀ {t:L1} (ea:Addr),t (A34 Dd) (O'.set i (some (false,opq ea))) Xf->LS K E0 t (Y0 En) (U'.set i (some (.ref ea))) H':=λea a=>⟨H0,ν',_,A34 Dd,Xf,S'.setOld i (v:=.ref ea) (d:=opq ea) (.opq ea),a,⟨λ_ _ _ _ z=>z.elim,λ_ _ _ _ z=>z.elim,λ_ _ _ _ z=>z.elim,ok.rt⟩,λ_ _ z _=>z.elim⟩;refine ⟨C,y,rfl,a2,a3,?_⟩;rcases a4 with ⟨k,a⟩|⟨k0,k,a⟩
 ·exact .inl ⟨k,λea _=>mk ea (a ea)⟩
 ·exact .inr ⟨k0,k,λea _=>mk ea (a ea)⟩⟩
theorem D2r {i:Nat} {O:C4} (h:tb Dd O λO' C=>(∃ x,W4 K mg x C)/\ExK K C/\((A1f K C R0/\∀ ea,ts0 ea C (A34 Dd) (O'.set i (some (false,opq ea))) Xf)\/(A1y K C R0/\A1f K C R/\∀ ea,ts ea C (A34 Dd) (O'.set i (some (false,opq ea))) Xf))):C9k K mg R0 R i tb ts0 ts Dd O Xd:=h
end
end DL
namespace L2
open PySem.W PySem.Calls
section
variable {X:Cx} {ke ve:Expr} {tk tv:TE} {pos:Pos}
def C06 (tk tv:TE):TE:=λU H Q=>∀ p,H p=none->tk U (upd H p (.dK [])) λy H1=>∃ k:C1,y=kV k/\tv U H1 λv H2=>H2 p=some (.dK [])/\Q (.ref p) (upd H2 p (.dK [(k,v)]))
theorem C07 (hk:PE X ke tk) (hv:PE X ve tv):PE X (.Dict [some ke] [ve] pos) (C06 tk tv):=by
 intro pins s U H Q I h;have sh:(evalEachOpt [some ke] X.env).zip ((evalEach [ve] X.env).map λv=>do let x <- v;standAt pos;pure x)=[(eval ke X.env,do let x <- eval ve X.env;standAt pos;pure x)].map λp=>(some p.1,p.2):=rfl;rw[arm_eval_Dict,sh,dictDisplay_pairs _ (by simp) (by show 1 < 17;decide)];refine qb (wpAny_standAt (qb ?_));unfold subDict;refine qb (wpAny_alloc (qb (wpAny_holding ?_)));rw[qm (by show 1<=15;decide)];have I1:=I.laid (a:=s.heap.objs.size) (o:=.dK []) (t':=s.toks) (λ_ _ q=>qa _ q) (qp _) (A2c s.heap I.big);refine qb (evalPairs_cons (E1 (hk pins _ U _ _ I1 (h _ (I.hok.fresh (qp _)))) λkv s2 ⟨y,H1,I2,ry,k,ey,q⟩=>?_));subst ey;refine qb (E1 (hv pins _ U _ _ I2 q) λvv s3 ⟨v,H2,I3,rv,ed,q2⟩=>?_);refine qb (wpAny_standAt (qc (evalPairs_nil ?_)));refine wpAny_holding ?_;rw[List.forIn_cons];refine qb (qb ?_);show wpAny _ _ (dictSet s.heap.objs.size kv vv >>= _) _ _ _;refine qb (A6o (k:=k) I3 ed (by rw[sizeLine_eq];decide) ry rv λs4 I4=>qc ?_);dsimp only;rw[List.forIn_nil];exact qc (qc (qc (qc ⟨.ref s.heap.objs.size,_,I4,rfl,q2⟩)))
theorem B7s (hk:QE X ke tk) (hv:QE X ve tv):QE X (.Dict [some ke] [ve] pos) (C06 tk tv):=⟨C07 hk.h hv.h⟩
end
end L2
namespace DL
open L2
variable {O:C4} {Q:QD} {kvs:List (C1 × V)} {o:Expr} {z:Str} {v:V} {te:TD} {U:L2.St} {tb:L1}
section
variable {X:Cx} {K:W.Frag} {E:XK} {pos p2:Pos} {H:Hp}
def B9k (td:TD) (z:Str):TD:=λO Q Xd=>td O (λd _=>∃ k:C1,d=E3 k/\Q (K8 [(k,.str z)]) (.own [])) Xd
theorem A71 {e:Expr} {k2:Nat} (he:DE X K E e td):DE X K E (.Dict [some e] [.Constant (.str z) k2 p2] pos) (B9k td z):=⟨C9 (B7s he.q B5u) λU H Q h=>by
 obtain ⟨H0,ν,O,Qd,Xd,S,h1,q,x⟩:=h;intro p hp;refine ⟨H0,ν,O,_,Xd,S.same (A9.new hp),h1,λd k v H1 g1 e1 r1=>?_,x⟩;obtain ⟨k',rfl,g1⟩:=g1;have hv:=A95 r1.den;subst hv;refine ⟨k',rfl,e1 _ _ B2,?_⟩;refine q _ _ _ _ g1 (λa o ha=>?_) ⟨[p],B1i B2 (.cons rfl .nil),by simp,λa hm=>by rw[zc] at hm;subst hm;exact .inl hp⟩;have hne:a≠p:=λz=>by rw[z,hp] at ha;cases ha
 rw[B5 hne];exact e1 _ _ (by rw[B5 hne];exact ha)⟩
theorem C7p (h:td O (λd _=>∃ k:C1,d=E3 k/\Q (K8 [(k,.str z)]) (.own [])) Xd):B9k td z O Q Xd:=h
def D0u:F2:=λd _ e _ Q=>match d,e with
 | .str i,.str j=>Q (.bool (decide (O7 i j))) .old
 | _,_=>False
theorem C7d:DOp X K (compareOp .Lt) D0u:=⟨_,B6i,λZ ν Hs H x y d k e l Qf Q _ _ _ h3 h4 h5 h6=>by
 unfold D0u at h5;split at h5
 ·have a:=h3.den;have b:=h4.den;cases a;cases b;exact ⟨_,_,rfl,rfl,h6 _ _ _ _ h5 (A9.refl H) (.bl _)⟩
 ·exact h5.elim⟩
theorem E02 {y:Str} {k l:Kd} (h:Q (.bool (decide (O7 z y))) .old):D0u (.str z) k (.str y) l Q:=h
def clD (es:List (C1 × D)):D:=.dict ((.int 1,.none)::es.map λp=>(E3 p.1,p.2))
theorem B7a {a b:C1} (h:E3 a=E3 b):a=b:=by
 cases a<;>cases b<;>first|(cases h;rfl)|cases h
theorem B02:∀ {ks ls:List C1},ks.map E3=ls.map E3->ks=ls
 | [],[],_=>rfl
 | [],_::_,h=>by cases h
 | _::_,[],h=>by cases h
 | a::r,b::s,h=>by
  rw[map_cons,map_cons] at h;injection h with h1 h2
  rw[B7a h1,B02 h2]
theorem B5b {es:List (C1 × D)} (h:Dn K H v (clD es)):∃ a kvs,v=.ref a/\Rd H a (.dK kvs)/\kvs.map Prod.fst=es.map Prod.fst/\Dns K H (kvs.map Prod.snd) (es.map Prod.snd):=by
 unfold clD at h;cases h with
 | @dcl a kvs _ e g r =>
  refine ⟨a,kvs,rfl,e,B02 ?_,?_⟩
  ·rw[map_map,map_map];rw[map_map] at g;exact g.symm
  ·rw[map_map] at r;exact r
theorem D76 {a:Addr} {es:List (C1 × D)} (e:Rd H a (.dK kvs)) (g:kvs.map Prod.fst=es.map Prod.fst) (r:Dns K H (kvs.map Prod.snd) (es.map Prod.snd)):Dn K H (.ref a) (clD es):=by
 refine .dcl e ?_ ?_
 ·rw[map_map];have:es.map (Prod.fst ∘ λp:C1 × D=>(E3 p.1,p.2))=(es.map Prod.fst).map E3:=by rw[map_map];rfl
  rw[this,<-g,map_map];rfl
 ·rw[map_map];exact r
theorem A99:∀ {kvs:List (C1 × V)} {es:List (C1 × D)} {k:C1},kvs.map Prod.fst=es.map Prod.fst->Dns K H (kvs.map Prod.snd) (es.map Prod.snd)->(∃ d v,look es k=some d/\O4 kvs k=some v/\Dn K H v d)\/(look es k=none/\O4 kvs k=none)
 | [],[],_,_,_=>.inr ⟨rfl,rfl⟩
 | [],_::_,_,h,_=>by cases h
 | _::_,[],_,h,_=>by cases h
 | (k1,v1)::r,(k2,d2)::s,k,h,q=>by
  rw[map_cons,map_cons] at h;injection h with h1 h2
  have h1:k1=k2:=h1;subst h1;rw[map_cons,map_cons] at q;cases q with
  | cons q1 q2 =>
   by_cases e:k1=k
   ·exact .inl ⟨d2,v1,by unfold look;rw[List.find?_cons_of_pos (by simpa using e)];rfl,by unfold O4;rw[List.find?_cons_of_pos (by simpa using e)];rfl,q1⟩
   ·have e1:look ((k1,d2)::s) k=look s k:=by unfold look;rw[find?_cons_of_neg (by simpa using e)]
    have e2:O4 ((k1,v1)::r) k=O4 r k:=by unfold O4;rw[find?_cons_of_neg (by simpa using e)]
    rw[e1,e2];exact A99 h2 q2
theorem D0v {a:Addr} {o:HO} (h:Rd (N0 Z H) a o):Rd H a o:=by
 rcases h with h|⟨ob,h⟩
 ·exact .inl (G7 h).1
 ·exact .inr ⟨ob,(G7 h).1⟩
def C22 (td:TD) (tk:TKy):TD:=λO Q Xd=>td O (λd kd=>tk O (λk=>∃ es k' z,d=clD es/\k=.inl k'/\look es k'=some z/\kd.isOld=true/\Q z .old) Xd) Xd
theorem A6g {i:Expr} (hu:X.A.units+1 < cLine) (ho:DE X K E o td) (hi:DKy X K E i tk) (hs:B7m i):DE X K E (.Subscript o i pos) (C22 td tk):=⟨C9 (A4y hu ho.q hi.q hs) λU H Q h=>by
 obtain ⟨H0,ν,O,Qd,Xd,S,h1,q,x⟩:=h;refine ⟨H0,ν,O,_,Xd,S,h1,λd kk u H1 g1 e1 r1=>?_,x⟩;refine ⟨H0,ν,O,_,Xd,S.same e1,g1,λk v H2 g2 e2 r2=>?_,x⟩;obtain ⟨es,k',z,rfl,rfl,hl,ko,g2⟩:=g2;have r3:=Dn.same (R9 e2) (r1.old (S.same e1).hl S.hl ko);obtain ⟨a,kvs,rfl,er,f1,f2⟩:=B5b r3;cases r2;rcases A99 (k:=k') f1 f2 with ⟨d,v,q1,q2,q3⟩|⟨q1,_⟩
 ·rw[hl] at q1;cases q1;exact ⟨a,v,rfl,.inl ⟨kvs,k',D0v er,rfl,q2.symm⟩,q _ _ _ _ g2 (e1.trans e2) q3⟩
 ·rw[hl] at q1;cases q1⟩
theorem C8p (h:td O (λd kd=>tk O (λk=>∃ es k' z,d=clD es/\k=.inl k'/\look es k'=some z/\kd.isOld=true/\Q z .old) Xd) Xd):C22 td tk O Q Xd:=h
def C2k (td:TD) (tk:TKy):TD:=λO Q Xd=>td O (λd _=>tk O (λk=>∃ es k' z,d=dFD es/\k=.inl k'/\look es k'=some z/\Q z .old) Xd) Xd
theorem A7c {i:Expr} (hu:X.A.units+1 < cLine) (ho:DE X K E o td) (hi:DKy X K E i tk) (hs:B7m i):DE X K E (.Subscript o i pos) (C2k td tk):=⟨C9 (A4y hu ho.q hi.q hs) λU H Q h=>by
 obtain ⟨H0,ν,O,Qd,Xd,S,h1,q,x⟩:=h;refine ⟨H0,ν,O,_,Xd,S,h1,λd kk u H1 g1 e1 r1=>?_,x⟩;refine ⟨H0,ν,O,_,Xd,S.same e1,g1,λk v H2 g2 e2 r2=>?_,x⟩;obtain ⟨es,k',z,rfl,rfl,hl,g2⟩:=g2;obtain ⟨a,kvs,rfl,er,p⟩:=C2m (r1.den.same e2);cases r2;rcases p.look k' with ⟨d,v,q1,q2,q3⟩|⟨q1,_⟩
 ·rw[hl] at q1;cases q1;exact ⟨a,v,rfl,.inl ⟨kvs,k',er,rfl,q2.symm⟩,q _ _ _ _ g2 (e1.trans e2) (C35 q3)⟩
 ·rw[hl] at q1;cases q1⟩
theorem C66 (h:td O (λd _=>tk O (λk=>∃ es k' z,d=dFD es/\k=.inl k'/\look es k'=some z/\Q z .old) Xd) Xd):C2k td tk O Q Xd:=h
theorem D11 (h:td O (λd _=>tk O (λk=>D34 d k λz=>Q z .old) Xd) Xd):C9q td tk O Q Xd:=h
def D9l:List V->Hp->VK->Prop:=λxs H Q=>∃ a kvs,xs=[.ref a]/\Rd H a (.dK kvs)/\Q (.int kvs.length) H
theorem B6t {X:Cx}:J2 X (.builtin "len") D9l:=by
 intro pins s U H xs us Q I r h;obtain ⟨a,kvs,rfl,e,q⟩:=h;obtain ⟨u,rfl,rx⟩:=U0 r;cases rx;exact D8v I e λt s' I'=>⟨.int kvs.length,H,I',⟨t,rfl⟩,q⟩
def D0d:FA:=λds _ Q=>∃ es,ds=[clD es]/\Q (.int es.length) .old
theorem B9r:DCl X K (.builtin "len") D0d:=⟨_,B6t,λZ ν Hs H xs ds k Qf Q hl hn hs h g q=>by
 obtain ⟨es,rfl,g⟩:=g;obtain ⟨v,rfl,h1⟩:=Y9 h.dens;obtain ⟨a,kvs,rfl,e,f1,f2⟩:=B5b h1;have hlen:kvs.length=es.length:=by have:=congrArg List.length f1;rwa [qf,qf] at this
 exact ⟨a,kvs,rfl,e,by rw[hlen];exact q _ _ _ _ g (A9.refl H) (.int _)⟩⟩
theorem D26 {es:List (C1 × D)} {k:Kd} (h:Q (.int es.length) .old):D0d [clD es] k Q:=⟨es,rfl,h⟩
def C16 (f:Bool->Bool) (tk:TKy) (td:TD):TD:=λO Q Xd=>tk O (λk=>td O (λd _=>∃ es k',d=clD es/\k=.inl k'/\Q (.bool (f (look es k').isSome)) .old) Xd) Xd
theorem B41:∀ U H Q,LE K E (C16 not tk td) U H Q->A4b (LKy K E tk) (LE K E td) U H Q:=λU H Q h=>by
 obtain ⟨H0,ν,O,Qd,Xd,S,h1,q,x⟩:=h;refine ⟨H0,ν,O,_,Xd,S,h1,λk v H1 g1 e1 r1=>?_,x⟩;refine ⟨H0,ν,O,_,Xd,S.same e1,g1,λd kk u H2 g2 e2 r2=>?_,x⟩;obtain ⟨es,k',rfl,rfl,g2⟩:=g2;obtain ⟨a,kvs,rfl,e,f1,f2⟩:=B5b r2.den;have r3:=r1.same e2;cases r3;refine ⟨a,_,rfl,.inl ⟨kvs,k',e,rfl,rfl⟩,?_⟩;have:(O4 kvs k').isSome=(look es k').isSome:=by
  rcases A99 (k:=k') f1 f2 with ⟨d,v,e1,e2,_⟩|⟨e1,e2⟩
  ·rw[e1,e2];rfl
  ·rw[e1,e2];rfl
 rw[this];exact q _ _ _ _ g2 (e1.trans e2) (.bl _)
theorem B1m {i:Expr} (hu:X.A.units+1 < cLine) (hi:DKy X K E i tk) (ho:DE X K E o td) (hm:behindInMarks .NotIn o=false):DT X K E (.Compare i [.NotIn] [o] pos) (dB (C16 not tk td)) :=
 ⟨X9 (A4p hu hi.q ho.q hm) λU H Q h=>B41 U H _ (C0l h)⟩
theorem D4n {f:Bool->Bool} (h:tk O (λk=>td O (λd _=>∃ es k',d=clD es/\k=.inl k'/\Q (.bool (f (look es k').isSome)) .old) Xd) Xd):C16 f tk td O Q Xd:=h
def C0s:FA:=λds _ Q=>∃ es,ds=[clD es]/\Q (.list (A73 es)) (.own [])
theorem B6q {es:List (C1 × D)} (f:kvs.map Prod.fst=es.map Prod.fst):Dns K H (kvs.map λp=>kV p.1) (A73 es):=by
 induction kvs generalizing es with
 | nil=>cases es with
  | nil=>exact .nil
  | cons _ _=>cases f
 | cons a r ih=>cases es with
  | nil=>cases f
  | cons b s =>
   rw[map_cons,map_cons] at f;injection f with f1 f2
   show Dns K H (kV a.1::_) (E3 b.1::_);rw[f1];exact .cons (C9r _) (ih f2)
theorem B91 (hc:X.calm=true):DCl X K (.type "list") C0s:=⟨_,B4m hc,λZ ν Hs H xs ds k Qf Q hl hn hs h g q=>by
 obtain ⟨es,rfl,g⟩:=g;obtain ⟨v,rfl,h1⟩:=Y9 h.dens;obtain ⟨a,kvs,rfl,e,f1,f2⟩:=B5b h1;refine ⟨a,rfl,.inl ⟨kvs,e,λl hp=>q _ _ _ _ g (A9.new hp) (S7 (k:=.own []) hl hs hp ?_)⟩⟩;exact ⟨[],P9 (B6q f1) (B1f es),nodup_nil,λ_ z=>by cases z⟩⟩
theorem C6v {es:List (C1 × D)} {k:Kd} (h:Q (.list (A73 es)) (.own [])):C0s [clD es] k Q:=⟨es,rfl,h⟩
end
section
variable {X:Cx} {K:W.Frag} {E:XK} {pos p0:Pos} {iter elt:Expr} {scope:Scope} {td:TD} {tif:Y7} {y:Str} {test:Expr} {H H' Hf:Hp}
theorem B9d {ks:List C1} {tif:Y7} {g:C1->Bool} {emit:TS} {x0:Option V}
  (hJ:∀ H2,A9 Hf H2->J.stop ks.length H2/\∀ i (h:i < ks.length),J.go i H2/\∀ x H',J.yld i H2 x H'->A9 H2 H'/\x=kV ks[i])
  (C:C37 K Hf cap U O') (ht:∀ k∈ks,∀ Q':Bool->Prop,Q' (g k)->tif (some (false,E3 k)::O') Q' Xf)
  (hA0:Acc [] H1) (hs0:A9 Hf H1) (hAs:∀ ls H2 H3,Acc ls H2->A9 H2 H3->Acc ls H3)
  (hem:∀ D ls k H2,k∈ks->g k=true->ls.length < ks.length->Acc ls H2->A9 Hf H2->(∀ H3,Acc (ls++[k]) H3->A9 Hf H3->D.nx (some (kV k)::A07 cap U) H3)->emit D (some (kV k)::A07 cap U) H2)
  (q:∀ U' H2,Acc (ks.filter g) H2->A9 Hf H2->En.nx U' H2) :
  A4z J (N1 0) (A4n (LT K E0 tif) emit) En (x0::A07 cap U) H1:=by
 refine ⟨λi m U' H'=>m=ks.length - i/\i<=ks.length/\(∃ x,U'=x::A07 cap U)/\A9 Hf H'/\Acc ((ks.take i).filter g) H',⟨_,rfl,zz _,⟨_,rfl⟩,hs0,hA0⟩,?_⟩;rintro i m σ2 H2 ⟨rfl,hi,⟨x,rfl⟩,sm,ac⟩;obtain ⟨j1,j2⟩:=hJ H2 sm;by_cases hlt:i < ks.length
 ·obtain ⟨k1,k2⟩:=j2 i hlt;refine .inr ⟨k1,_,λU' H' hN=>⟨_,(by lia:ks.length - (i+1) < ks.length - i),rfl,hlt,hN⟩,λv H' hy=>?_⟩;obtain ⟨e1,rfl⟩:=k2 v H' hy;have et:ks.take (i+1)=ks.take i++[ks[i]]:=by rw[take_add_one,zd hlt];rfl
  show A4n (LT K E0 tif) emit _ (some (kV ks[i])::A07 cap U) H';refine ⟨Hf,_,_,λb=>b=g ks[i],Xf,C.st ks[i] (sm.trans e1),ht _ (List.getElem_mem hlt) _ rfl,λb H3 hb e3=>?_,λ_ _ z=>z.elim⟩;subst hb;have sm3:=(sm.trans e1).trans e3;have ac3:=hAs _ _ _ ac (e1.trans e3);by_cases hg:g ks[i]=true
  ·rw[qm hg];refine hem _ _ _ _ (List.getElem_mem hlt) hg ?_ ac3 sm3 λH4 a4 s4=>⟨⟨_,rfl⟩,s4,?_⟩
   ·have:=length_filter_le g (ks.take i);rw[ja] at this;lia
   ·rw[et,filter_append];simp only[List.filter_cons,hg,if_true,List.filter_nil];exact a4
  ·rw[qo hg];refine ⟨⟨_,rfl⟩,sm3,?_⟩;rw[et,filter_append];simp only[List.filter_cons,hg,List.filter_nil];simpa using ac3
 ·have e:i=ks.length:=by lia
  subst e;rw[take_length] at ac;exact .inl ⟨j1,q _ _ ac sm⟩
def D2i (ti:TD) (tif:Y7) (te:TD) (cap:List (Str × Nat)):TD:=λO Q Xd=>ti O (λd _=>∃ (es:List (C1 × D)) (g:C1->Bool) (f:C1->Str) (O':C4),d=K8 es/\es.length < 1000000/\A65 cap O O'/\(∀ k∈es.map (·.1),∀ Q':Bool->Prop,Q' (g k)->tif (some (false,E3 k)::O') Q' Xf)/\(∀ k∈es.map (·.1),g k=true->te (some (false,E3 k)::O') (λe _=>e=.str (f k)) Xf)/\Q (.list (((es.map (·.1)).filter g).map λk=>.str (f k))) (.own [])) Xd
theorem D4o {own:List Str} (H00:Hp) (ho:own.length=1):∀ U H Q,LE K E (D2i td tif te cap) U H Q->A8u H00 (tLC (A7q H00 (LE K E td)) (N1 0) (LT K E0 tif) (λacc=>B0k acc (LE K E0 te)) own cap) U H Q:=λU H Q h=>by
 obtain ⟨H0,ν,O,Qd,Xd,S,h1,q,x⟩:=h;refine ⟨H0,ν,O,_,Xd,S,h1,λd k v H1 g1 e1 r1=>?_,x⟩;obtain ⟨es,g,f,O',rfl,hl,cr,ht,he,g1⟩:=g1;obtain ⟨a,kvs,rfl,e,p⟩:=Z9 r1.den;refine ⟨a,kvs,rfl,e,λo n0 acc hacc=>?_⟩;have hf:=Fz.upd (o:=o) e;have hk:kvs.map (·.1)=es.map (·.1):=A03 p;have hne:acc≠a:=λz=>by rw[z,B2] at hacc;cases hacc
 have hacc1:H1 acc=none:=by rw[B5 hne] at hacc;exact hacc
 match own,ho with
 | [y],_ =>
 have C:=cr.f (S.same e1) hf;refine B9d (Hf:=L2.upd H1 a (.frz o (.dK kvs))) (Acc:=λls H2=>H2 acc=some (.lst (ls.map λk=>V.str (f k)))) (A7y hk B2) C ht B2 (A9.new hacc) (λls H2 H3 b e=>e _ _ b) (λD ls k H2 km hg hlt b sm nx=>?_) λU' H2 a1 sm=>?_
 ·refine ⟨L2.upd H1 a (.frz o (.dK kvs)),_,_,_,Xf,C.st k sm,he k km hg,λd kd v H3 q3 e3 r3=>?_,λ_ _ z=>z.elim⟩;subst q3;have hv:=r3.den;cases hv;refine ⟨_,e3 _ _ b,by rw[qf];exact qr (Nat.lt_trans hlt (by rw[qf];exact hl)) L3,nx _ (by show L2.upd _ _ _ _=_;rw[B2,map_append];rfl) ((sm.trans e3).put hacc)⟩
 ·refine ⟨a,o,kvs,sm _ _ B2,n0,q _ _ _ _ g1 (e1.trans (A36 e sm)) ⟨[acc],.lst (by rw[B5 hne];exact a1) ?_,by simp,λb hb=>?_⟩⟩
  ·have:=P9 (K:=K) (H:=L2.upd H2 a (.dK kvs)) (A47 (((es.map (·.1)).filter g).map f)) (Q7 _);rw[map_map,map_map] at this;exact this
  ·rw[zc] at hb;subst hb;exact .inl (e1.gone hacc1)
theorem C8v (own:List Str) (cap:List (Str × Nat)) (ho:own.length=1) (hc:X.calm=true) (L:C2 X scope own cap) (hi:DE X K E iter td)
  (hin:∀ (s₃:Shared) (H₃:Hp) (fp:List Addr),QG (X.inn scope (L2.D2 own cap) s₃ H₃ fp) (.Name y p0) (N1 0)/\DTs (X.inn scope (L2.D2 own cap) s₃ H₃ fp) K [test] tif/\DE (X.inn scope (L2.D2 own cap) s₃ H₃ fp) K E0 elt te)
  (hs:∀ x,foldedSetIterable iter X.env x=pure x:=by intro _;rfl):DE X K E (.ListComp elt [⟨.Name y p0,iter,[test],0⟩] scope pos) (D2i td tif te cap) :=
 ⟨C9 (A7m (B2w own cap hc L (A0p hi.q) (λa b c acc=>⟨(hin a b c).1,(hin a b c).2.1.q,A5w rfl rfl (hin a b c).2.2.q⟩) hs)) (D4o X.H₀ ho)⟩
theorem D82 (h:td O (λd _=>∃ (es:List (C1 × D)) (g:C1->Bool) (f:C1->Str) (O':C4),d=K8 es/\es.length < 1000000/\A65 cap O O'/\(∀ k∈es.map (·.1),∀ Q':Bool->Prop,Q' (g k)->tif (some (false,E3 k)::O') Q' Xf)/\(∀ k∈es.map (·.1),g k=true->te (some (false,E3 k)::O') (λe _=>e=.str (f k)) Xf)/\Q (.list (((es.map (·.1)).filter g).map λk=>.str (f k))) (.own [])) Xd):D2i td tif te cap O Q Xd:=h
def C9i (i:Nat) (bnd:TGD) (tb:L1):L1:=λDd O Xd=>∃ es,O[i]?=some (some (true,K8 es))/\∃ W:Nat->C4->Prop,W 0 (O.set i (some (false,dFD es)))/\(∀ j k O,(es.map (·.1))[j]?=some k->W j O->bnd (E3 k) O λO'=>tb { Dd with nx:=W (j+1),ct:=W (j+1),bk:=Dd.nx } O' Xd)/\∀ O,W es.length O->Dd.nx O
theorem B97 (i:Nat) {tg:Expr} {T:List Nat} (hp:PassesOwn (model X.prog X.w) X.A X.env X.xe) (hc:X.calm=true) (hx:QE X iter (Z1 i)) (hg:DG X K tg T bnd) (hb:DSs X K E body tb) (hs:∀ x,foldedSetIterable iter X.env x=pure x:=by intro _;rfl) :
  DS X K E (.For tg iter body [] pos) (C9i i bnd tb):=by
 obtain ⟨g,qg,og⟩:=hg.ex;refine ⟨L9 (A8z hp hc (A0p hx) qg hb.q hs) λEn U H h=>?_⟩;obtain ⟨H0,ν,O,Dd,Xd,S,⟨es,h1,W,w0,step,done⟩,ok,x⟩:=h;obtain ⟨u,u1,u2⟩:=S.sl i true _ h1;have u2:Ow K H u (K8 es) (ν i):=u2;obtain ⟨a,rfl,hn⟩:=A23 (b:=false) u2;obtain ⟨a',kvs,ea,e,p⟩:=Z9 u2.den;cases ea;refine ⟨_,u1,a,kvs,rfl,e,λo n0=>?_⟩;have nh:¬ Hd Z0 (λj=>if j=i then [] else ν j) a:=λz=>by
  rcases z with z|⟨j,z⟩
  ·exact z.elim
  ·dsimp only at z;split at z
   ·cases z
   ·rename_i hj;exact hj (S.dj j i a z (by rw[hn];simp))
 have S1:B8 K Z0 H0 (λj=>if j=i then [] else ν j) (O.set i (some (false,dFD es))) U (L2.upd H a (.frz o (.dK kvs))):=by
  have A:=(S.forget i (H':=L2.upd H a (.frz o (.dK kvs))) λb ob hb hnb=>by rw[B5 (λz=>hnb (by rw[z,hn];simp))];exact hb).setOld i (v:=.ref a) (d:=dFD es) (.dcf (.inr ⟨o,E2 B2 nh⟩) (A8d p));rw[List.set_set] at A;have:U.set i (some (.ref a))=U:=by
   refine List.ext_getElem? λl=>?_;by_cases hl:l=i
   ·subst hl;rw[u1,List.getElem?_set_self (qh.mp u1).1]
   ·rw[List.getElem?_set_ne (Ne.symm hl)]
  rw[this] at A;exact A
 have S2:=S1.high;have eb:=S1.base;have ok1:=ok.high eb;have x1:∀ C H',Xd C->A9 (N0 (Hd Z0 λj=>if j=i then [] else ν j) (L2.upd H a (.frz o (.dK kvs)))) H'->E (.ref C) none H':=λC H' q z=>x C H' q (eb.trans z);have hb0:N0 (Hd Z0 λj=>if j=i then [] else ν j) (L2.upd H a (.frz o (.dK kvs))) a=some (.frz o (.dK kvs)):=E2 B2 nh;have hk:kvs.map (·.1)=es.map (·.1):=A03 p;have it:=A7y hk hb0;have hlen:(es.map (·.1)).length=es.length:=qf _;revert S2 eb ok1 x1 hb0 it;generalize N0 (Hd Z0 λj=>if j=i then [] else ν j) (L2.upd H a (.frz o (.dK kvs)))=B;intro S2 eb ok1 x1 hb0 it;refine ⟨λj m U H=>m=es.length - j/\j<=es.length/\∃ ν' O',B8 K Z0 B ν' O' U H/\W j O',⟨es.length,by simp,zz _,_,_,S2,w0⟩,?_⟩;rintro j m σ2 H2 ⟨rfl,hj,ν2,ρ2,T2,w2⟩;obtain ⟨i1,i2⟩:=it H2 T2.sm;rw[hlen] at i1;by_cases hlt:j < es.length
 ·obtain ⟨j1,j2⟩:=i2 j (by rw[hlen];exact hlt);refine .inr ⟨j1,λU' H'=>∃ ν' O',B8 K Z0 B ν' O' U' H'/\W (j+1) O',λU' H' ⟨ν',O',S',w'⟩=>⟨_,by lia,rfl,hlt,ν',O',S',w'⟩,λv H' hy=>?_⟩;obtain ⟨k1,rfl⟩:=j2 v H' hy;refine og _ ν2 ρ2 σ2 H' _ _ _ _ (T2.same k1) (C9r _) (step j _ ρ2 (zd (by rw[hlen];exact hlt)) w2) λρ3 σ3 b3 S3 A _=>?_;exact ⟨_,ν2,ρ3,_,Xd,S3,b3,⟨λν O U H a S=>⟨ν,O,S,a⟩,λν O U H a S=>ok1.nx ν O U H a S,λν O U H a S=>⟨ν,O,S,a⟩,ok1.rt⟩,x1⟩
 ·have e:j=es.length:=by lia
  subst e;exact .inl ⟨i1,ok1.nx _ _ _ _ (done ρ2 w2) T2⟩
theorem C6n {i:Nat} {Dd:N5} {es:List (C1 × D)} (h:O[i]?=some (some (true,K8 es))) (W:Nat->C4->Prop) (h0:W 0 (O.set i (some (false,dFD es)))) (hs:∀ j k O,(es.map (·.1))[j]?=some k->W j O->bnd (E3 k) O λO'=>tb {Dd with nx:=W (j+1),ct:=W (j+1),bk:=Dd.nx } O' Xd) (hd:∀ O,W es.length O->Dd.nx O):C9i i bnd tb Dd O Xd:=⟨es,h,W,h0,hs,hd⟩
def B6h (i y:Nat) (ti:TDI) (te:TD):L1:=λDd O Xd=>ti O (λds b=>∃ (ts:List Str) (f:Str->D),b=true/\ds=ts.map .str/\ts.Nodup/\ts.length < 1000000/\O[i]?=some (some (true,K8 []))/\(i≠y/\y < O.length)/\(∀ t∈ts,te ((frz (O.set i none)).set y (some (false,.str t))) (λd l=>d=f t/\l=.own []) Xd) /\
 Dd.nx (((frz (O.set i none)).set i (some (false,clD (ts.map λt=>(.inr t,f t))))).set y none)) Xd
theorem B10 {k:C1} (h:k∉kvs.map (·.1)):S4 kvs k v=kvs++[(k,v)]:=by
 unfold S4;rw[qo];intro z;obtain ⟨p,hp,e⟩:=any_eq_true.mp z;exact h (zg.mpr ⟨p,hp,by simpa using e⟩)
theorem B8.jk1 {y:Nat} (S:B8 K Z0 H0 ν (O.set y none) U H) (h:Jk y y U U'):B8 K Z0 H0 ν (O.set y none) U' H:=by
 have A:B8 K Z0 H0 ν ((O.set y none).set y none) U H:=by rw[List.set_set];exact S
 have B:=B8.jk A h;rw[List.set_set] at B;exact B
theorem B4h {i y:Nat} {st:Stmt} {ti:TDI} (h:QS X st (C12 (LI K E ti) (N1 y) (B64 (Z1 i) (Z1 y) (LE K E te)))):DS X K E st (B6h i y ti te):=⟨L9 h λEn U H hh=>by
 obtain ⟨H0,ν,O,Dd,Xd,S,h1,ok,x⟩:=hh;refine ⟨H0,ν,O,_,Xd,S,h1,λds b J H1 hq e1 it=>?_,x⟩;obtain ⟨ts,f,rfl,rfl,nd,hl,hx,⟨n1,ly⟩,he,fin⟩:=hq;have S1:=S.same e1;obtain ⟨u,u1,u2⟩:=S1.sl i true _ hx;have u2:Ow K H1 u (K8 []) (ν i):=u2;obtain ⟨p,rfl,hn⟩:=A23 (b:=false) u2;obtain ⟨p',kvs0,ea,e0,vp0⟩:=Z9 u2.den;cases ea;cases vp0;have it:B1k K (N0 (Hd Z0 ν) H1) J (ts.map .str):=it;have pw:p∈ν i:=by rw[hn];simp
 refine ⟨λj m σ4 H4=>m=ts.length - j/\j<=ts.length/\Jk y y U σ4/\(∀ b o,H1 b=some o->b≠p->H4 b=some o)/\∃ kvs,H4 p=some (.dK kvs)/\kvs.map Prod.fst=(ts.take j).map Sum.inr/\Dns K (N0 (λb=>b=p) H4) (kvs.map Prod.snd) ((ts.take j).map f),⟨_,rfl,zz _,Jk.refl,λ_ _ e _=>e,[],e0,rfl,.nil⟩,?_⟩;rintro m mm σ4 H4 ⟨rfl,hm,j4,k4,kvs,e4,f4,d4⟩;obtain ⟨i1,i2⟩:=it (λb=>b=p) H4 (λb z=>by rw[z];exact .of e4 rfl) λb o e=>by
  obtain ⟨q1,q2⟩:=G7 e;have hne:b≠p:=λz=>q2 (.inr ⟨i,by rw[z];exact pw⟩);exact E2 (k4 b o q1 hne) hne
 rw[qf] at i1;by_cases hlt:m < ts.length
 ·obtain ⟨j1,jj2⟩:=i2 m (.str ts[m]) (by rw[qk,zd hlt];rfl);refine .inr ⟨j1,_,λU' H' hN=>⟨_,(by lia:ts.length - (m+1) < ts.length - m),rfl,hlt,hN⟩,λv H5 hy=>?_⟩;obtain ⟨e5,d5⟩:=jj2 v H5 hy;cases d5;have e5p:=e5 _ _ e4;have k5:∀ b o,H1 b=some o->b≠p->H5 b=some o:=λb o e n=>e5 b o (k4 b o e n);have j5:Jk y y U (σ4.set y (some (.str ts[m]))):=j4.set1;have ey:(σ4.set y (some (V.str ts[m])))[y]?=some (some (.str ts[m])):=by rw[List.getElem?_set_self (by rw[j4.1,S.len];exact ly)]
  have ei:(σ4.set y (some (V.str ts[m])))[i]?=some (some (.ref p)):=by rw[j5.2 i n1 n1];exact u1
  have A:B8 K Z0 H0 (λj=>if j=i then [p] else []) ((frz (O.set i none)).set y (some (false,.str ts[m]))) (σ4.set y (some (.str ts[m]))) H5:=by
   have B:=(((S1.away hn k5 (.of e5p rfl)).drop y).jk1 j5).setOld y (v:=.str ts[m]) (d:=.str ts[m]) (.str _);rw[List.set_set,List.set_set] at B;exact B
  show B64 (Z1 i) (Z1 y) (LE K E te) _ (σ4.set y (some (.str ts[m]))) H5;refine ⟨H0,_,_,_,Xd,A,he _ (List.getElem_mem hlt),λd l w H6 hq e6 r6=>?_,x⟩;obtain ⟨rfl,rfl⟩:=hq;obtain ⟨ms,o6,_,fr6⟩:=r6;have pm:∀ b∈ms,¬ b=p:=λb hb z=>by
   rcases fr6 b hb with q|⟨_,q,_⟩
   ·rw[z,e5p] at q;cases q
   ·cases q
  have e6p:=e6 _ _ e5p;refine ⟨_,ei,_,ey,p,L2.upd H6 p (.dK (S4 kvs (.inr ts[m]) w)),rfl,A9a.k (k:=.inr ts[m]) e6p ?_,j5,λb o e n=>by rw[B5 n];exact e6 b o (k5 b o e n),S4 kvs (.inr ts[m]) w,B2,?_⟩
  ·have:=congrArg List.length f4;rw[qf,qf,ja] at this;exact qr (show kvs.length < 1000000 by lia) L3
  have etk:ts.take (m+1)=ts.take m++[ts[m]]:=by rw[take_add_one,zd hlt];rfl
  have nin:(Sum.inr ts[m]:C1)∉kvs.map (·.1):=λz=>by
   rw[show kvs.map (·.1)=kvs.map Prod.fst from rfl,f4] at z;obtain ⟨t,ht,e⟩:=zg.mp z;have:t=ts[m]:=by injection e
   rw[this,List.mem_take_iff_getElem] at ht;obtain ⟨k,hk,e⟩:=ht;have:=(List.getElem_inj nd).mp e;lia
  rw[B10 nin,etk];have sm:A9 (N0 (λb=>b=p) H5) (N0 (λb=>b=p) (L2.upd H6 p (.dK (kvs++[(.inr ts[m],w)])))):=λb o e=>by
   obtain ⟨q1,q2⟩:=G7 e;exact E2 (by rw[B5 q2];exact e6 b o q1) q2
  refine ⟨by rw[map_append,map_append,f4];rfl,?_⟩;rw[map_append,map_append];refine Dns.append (Dns.same ((R9 e5).trans sm) d4) (.cons ?_ .nil);refine Dn.same (λb o e=>?_) (A5d (Z:=λb=>b=p) (λb z=>by rw[z];exact .of e6p rfl) o6 pm);obtain ⟨q1,q2⟩:=G7 e;exact E2 (by rw[B5 q2];exact q1) q2
 ·have e:m=ts.length:=by lia
  subst e;rw[take_length] at f4 d4;refine .inl ⟨i1,?_⟩;have T:=(S1.forget i (H':=H4) λb o e hb=>k4 b o e λz=>hb (by rw[z];exact pw)).frz;have T2:=T.setOld i (v:=.ref p) (d:=clD (ts.map λt=>(.inr t,f t))) (Dn.same A4g (D76 (.inl e4) (by rw[f4,map_map];rfl) (by
   have:=Dns.same E4 d4;rw[map_map];exact this)))
  have:U.set i (some (.ref p))=U:=by
   refine List.ext_getElem? λl=>?_;by_cases hl:l=i
   ·subst hl;rw[u1,List.getElem?_set_self (qh.mp u1).1]
   ·rw[List.getElem?_set_ne (Ne.symm hl)]
  rw[this] at T2;exact ok.nx _ _ _ _ fin ((T2.drop y).jk1 j4)⟩
theorem C0e {i y:Nat} {ti:TDI} (h:ti O (λds b=>∃ (ts:List Str) (f:Str->D),b=true/\ds=ts.map .str/\ts.Nodup/\ts.length < 1000000/\O[i]?=some (some (true,K8 []))/\(i≠y/\y < O.length)/\(∀ t∈ts,te ((frz (O.set i none)).set y (some (false,.str t))) (λd l=>d=f t/\l=.own []) Xd) /\
 Dd.nx (((frz (O.set i none)).set i (some (false,clD (ts.map λt=>(.inr t,f t))))).set y none)) Xd):B6h i y ti te Dd O Xd:=h
end
end DL
namespace M20
open L2
def G8 (c:Nat):Str:=⟨#[c]⟩
def has (b x:Str):Bool:=!(Builtin.Str.occurrences x b 0 x.length 1).isEmpty
def fr (bs:List Str) (x:Str):Bool:=bs.all λb=>!has b x
theorem M3 (a b:Str):(a++b).cps.toList=a.cps.toList++b.cps.toList:=by
 show (a.cps++b.cps).toList=_;simp
theorem R7 (a b:Str):(a++b).length=a.length+b.length:=by
 show (a.cps++b.cps).size=_;rw[Array.size_append];rfl
theorem D4 (a:Str):a.cps.toList.length=a.length:=by rw[qj];rfl
theorem ext {a b:Str} (h:a.cps.toList=b.cps.toList):a=b:=Str.ext' (Array.toList_inj.mp h)
variable {w y:Str} {c m:Nat} {K ks l L:List Str}
theorem C7r {b:Str} (h:has b w=true):has b (w++y)=true:=by
 unfold has at h ⊢;obtain ⟨i,h1,h2⟩:=(StrLaws.found_iff w b).mp h;refine (StrLaws.found_iff (w++y) b).mpr ⟨i,by rw[R7];lia,?_⟩;unfold Builtin.Str.subAt at h2 ⊢;rw[beq_iff_eq] at h2 ⊢;rw[<-h2];apply Array.toList_inj.mp;rw[Array.toList_extract,Array.toList_extract,M3];simp only[List.extract_eq_drop_take];rw[List.drop_append,List.take_append];have e:i+b.length - i - (w.cps.toList.drop i).length=0:=by rw[length_drop,D4];lia
 rw[e,List.take_zero,append_nil]
theorem D2w {bs:List Str} (h:fr bs (w++y)=true):fr bs w=true:=by
 unfold fr at h ⊢;rw[all_eq_true] at h ⊢;intro b hb;have:=h b hb;cases e:has b w with
 | false=>rfl
 | true=>rw[C7r e] at this;cases this
def A7 (k:Nat):List Nat:=(List.range k).map (97+·)
def W (k:Nat):Nat->List Str
 | 0=>[⟨#[]⟩]
 | n+1=>(W k n).flatMap λw=>(A7 k).map λc=>w++G8 c
theorem V1 {k:Nat}:∀ {n:Nat} {x:Str},x∈W k n ↔ x.length=n/\∀ c∈x.cps.toList,c∈A7 k
 | 0,x=>by
  rw[W,zc];constructor
  ·rintro rfl;exact ⟨rfl,λc hc=>by simp at hc⟩
  ·rintro ⟨h,_⟩;apply ext;have:x.cps.toList.length=0:=by rw[D4];exact h
   rw[List.length_eq_zero_iff.mp this]
 | n+1,x=>by
  rw[W,List.mem_flatMap];constructor
  ·rintro ⟨w,hw,hx⟩;obtain ⟨c,hc,rfl⟩:=zg.mp hx;obtain ⟨h1,h2⟩:=V1.mp hw;refine ⟨by rw[R7,h1];rfl,λd hd=>?_⟩;rw[M3] at hd;rcases zj.mp hd with hd|hd
   ·exact h2 d hd
   ·have:d=c:=by simpa [G8] using hd
    rw[this];exact hc
  ·rintro ⟨h1,h2⟩;have hl:x.cps.toList.length=n+1:=by rw[D4];exact h1
   have hne:x.cps.toList≠[]:=λz=>by rw[z] at hl;cases hl
   refine ⟨⟨x.cps.toList.dropLast.toArray⟩,V1.mpr ⟨?_,λc hc=>h2 c ((List.dropLast_sublist _).subset (by simpa using hc))⟩,zg.mpr ⟨x.cps.toList.getLast hne,h2 _ (List.getLast_mem hne),ext ?_⟩⟩
   ·show (x.cps.toList.dropLast.toArray).size=n;rw[size_toArray,List.length_dropLast,hl];rfl
   ·rw[M3];exact List.dropLast_concat_getLast hne
theorem B5y {a b:Str} {d:Nat} (h:a++G8 c=b++G8 d):a=b/\c=d:=by
 have:=congrArg (λx:Str=>x.cps.toList) h;simp only[M3] at this;have:=List.append_inj' this rfl;exact ⟨ext this.1,by simpa [G8] using this.2⟩
theorem A9w (k:Nat):∀ n,(W k n).Nodup
 | 0=>by simp[W]
 | n+1=>by
  rw[W];refine List.pairwise_flatMap.mpr ⟨λa _=>?_,?_⟩
  ·refine pairwise_map.mpr ?_;have:(A7 k).Nodup:=by
    unfold A7;refine pairwise_map.mpr (List.Pairwise.imp ?_ List.nodup_range);intro a b h z;lia
   exact this.imp λh z=>h (B5y z).2
  ·refine List.Pairwise.imp ?_ (A9w k n);intro a b h x hx y hy z;obtain ⟨c,_,rfl⟩:=zg.mp hx;obtain ⟨d,_,rfl⟩:=zg.mp hy;exact h (B5y z).1
theorem A7h (k:Nat):∀ n,(W k n).length=k ^ n
 | 0=>rfl
 | n+1=>by
  rw[W,List.length_flatMap,Nat.pow_succ,<-A7h k n];have e:(λw:Str=>((A7 k).map λc=>w++G8 c).length)=λ_=>k:=by
   funext w;unfold A7;simp
  rw[e,List.map_const',List.sum_replicate_nat]
def sl0 (x:Str):Str:=Txt.slice x none (some (-1))
def sl1 (x:Str):Str:=Txt.slice x (some 1) none
theorem B34 {x:Str} (h:1<=x.length):(sl0 x).cps.toList=x.cps.toList.dropLast:=by
 have:=slice_closes_to_neg (x:=x) (j:=-1) (k:=-1+(x.length:Int)) (by lia) (by lia) rfl;rw[beq_iff_eq] at this;unfold sl0;rw[this,List.dropLast_eq_take];show List.take _ (List.drop 0 _)=_;rw[drop_zero,D4];congr 1;lia
theorem X1 {x:Str} (h:1<=x.length):(sl1 x).cps.toList=x.cps.toList.tail:=by
 unfold sl1;rw[slice_from_eq (b:=(x.length:Int)) (by lia) (by lia) rfl];show List.take _ (List.drop 1 _)=_;rw[List.drop_one,List.take_of_length_le];rw[List.length_tail,D4];lia
theorem B6e (w:Str) (c:Nat):sl0 (w++G8 c)=w:=by
 apply ext;rw[B34 (by rw[R7];show 1<=_+1;lia),M3];show (w.cps.toList++[c]).dropLast=_;rw[List.dropLast_concat]
theorem C6e (w:Str) (c:Nat):sl1 (G8 c++w)=w:=by
 apply ext;rw[X1 (by rw[R7];show 1<=1+_;lia),M3];rfl
theorem D7b {k n:Nat} {x:Str} (h:x∈W k (n+1)):sl0 x∈W k n/\∃ c∈A7 k,x=sl0 x++G8 c:=by
 rw[W,List.mem_flatMap] at h;obtain ⟨w,hw,hx⟩:=h;obtain ⟨c,hc,rfl⟩:=zg.mp hx;rw[B6e];exact ⟨hw,c,hc,rfl⟩
theorem E0p {k n:Nat} {x:Str} (h:x∈W k (n+1)):sl1 x∈W k n/\∃ c∈A7 k,x=G8 c++sl1 x:=by
 obtain ⟨h1,h2⟩:=V1.mp h;have hl:x.cps.toList.length=n+1:=by rw[D4];exact h1
 have e:=X1 (x:=x) (by lia)
 match hx:x.cps.toList with
 | []=>rw[hx] at hl;cases hl
 | c::r =>
  rw[hx] at e hl h2;rw[List.tail_cons] at e;refine ⟨V1.mpr ⟨?_,λd hd=>h2 d (qv _ (by rw[e] at hd;exact hd))⟩,c,h2 c qu,ext ?_⟩
  ·have:=congrArg List.length e;rw[D4] at this;rw[this];simpa using hl
  ·rw[M3,e,hx];rfl
theorem mk0 {k n:Nat} (h:w∈W k n) (hc:c∈A7 k):w++G8 c∈W k (n+1):=by
 rw[W,List.mem_flatMap];exact ⟨w,h,zg.mpr ⟨c,hc,rfl⟩⟩
theorem mk1 {k n:Nat} (h:w∈W k n) (hc:c∈A7 k):G8 c++w∈W k (n+1):=by
 obtain ⟨h1,h2⟩:=V1.mp h;refine V1.mpr ⟨by rw[R7,h1];show 1+n=_;lia,λd hd=>?_⟩;rw[M3] at hd;rcases zj.mp hd with hd|hd
 ·have:d=c:=by simpa [G8] using hd
  rw[this];exact hc
 ·exact h2 d hd
def G9 (k:Nat) (bs:List Str) (n:Nat):List (Str × Str):=((W k (n+1)).filter (fr bs)).map λx=>(sl0 x,sl1 x)
theorem P3 {k n:Nat} {bs:List Str} {u v:Str}:(u,v)∈G9 k bs n ↔ ∃ x∈W k (n+1),fr bs x=true/\sl0 x=u/\sl1 x=v:=by
 unfold G9;rw[zg];constructor
 ·rintro ⟨x,hx,e⟩;rw[mem_filter] at hx;cases e;exact ⟨x,hx.1,hx.2,rfl,rfl⟩
 ·rintro ⟨x,h1,h2,rfl,rfl⟩;exact ⟨x,mem_filter.mpr ⟨h1,h2⟩,rfl⟩
def Q4 (k:Nat) (bs:List Str) (n:Nat) (t:Str):Prop:=∃ M:Str->Prop,M t/\∀ w,M w->(∃ v,M v/\(w,v)∈G9 k bs n)/\∃ u,M u/\(u,w)∈G9 k bs n
def both (k:Nat) (bs:List Str) (K:List Str) (w:Str):Bool:=((A7 k).any λc=>decide (sl1 (w++G8 c)∈K)&&fr bs (w++G8 c))&&((A7 k).any λc=>decide (sl0 (G8 c++w)∈K)&&fr bs (G8 c++w))
theorem B00 {k n:Nat} {bs:List Str} (hw:w∈W k n):both k bs K w=true ↔ (∃ v,v∈K/\(w,v)∈G9 k bs n)/\∃ u,u∈K/\(u,w)∈G9 k bs n:=by
 unfold both;rw[zb,any_eq_true,any_eq_true];constructor
 ·rintro ⟨⟨c,hc,h1⟩,d,hd,h2⟩;rw[zb,zq] at h1 h2;exact ⟨⟨_,h1.1,P3.mpr ⟨_,mk0 hw hc,h1.2,B6e _ _,rfl⟩⟩,_,h2.1,P3.mpr ⟨_,mk1 hw hd,h2.2,rfl,C6e _ _⟩⟩
 ·rintro ⟨⟨v,hv,h1⟩,u,hu,h2⟩;obtain ⟨x,x1,x2,x3,x4⟩:=P3.mp h1;obtain ⟨y,y1,y2,y3,y4⟩:=P3.mp h2;obtain ⟨_,c,hc,ex⟩:=D7b x1;obtain ⟨_,d,hd,ey⟩:=E0p y1;rw[x3] at ex;rw[y4] at ey;refine ⟨⟨c,hc,?_⟩,d,hd,?_⟩
  ·rw[<-ex,x4,zb,zq];exact ⟨hv,x2⟩
  ·rw[<-ey,y3,zb,zq];exact ⟨hu,y2⟩
structure Kp (k:Nat) (bs:List Str) (n:Nat) (K:List Str):Prop where
 nd:K.Nodup
 sub:∀ w∈K,w∈W k n
 win:∀ w,Q4 k bs n w->w∈K
theorem Kp.start (k:Nat) (bs:List Str) (n:Nat):Kp k bs n ((W k n).filter (fr bs)):=by
 refine ⟨(A9w k n).filter _,λw h=>(mem_filter.mp h).1,λw ⟨M,h,c⟩=>?_⟩;obtain ⟨⟨v,_,hv⟩,_⟩:=c w h;obtain ⟨x,x1,x2,x3,_⟩:=P3.mp hv;obtain ⟨hw,d,hd,ex⟩:=D7b x1;rw[x3] at hw ex;rw[ex] at x2;exact mem_filter.mpr ⟨hw,D2w x2⟩
theorem Kp.step {k n:Nat} {bs:List Str} (h:Kp k bs n K):Kp k bs n (K.filter (both k bs K)):=by
 refine ⟨h.nd.filter _,λw hw=>h.sub w (mem_filter.mp hw).1,λw hw=>mem_filter.mpr ⟨h.win w hw,?_⟩⟩;rw[B00 (h.sub w (h.win w hw))];obtain ⟨M,hm,c⟩:=hw;obtain ⟨⟨v,v1,v2⟩,u,u1,u2⟩:=c w hm;exact ⟨⟨v,h.win v ⟨M,v1,c⟩,v2⟩,u,h.win u ⟨M,u1,c⟩,u2⟩
theorem Kp.fin {k n:Nat} {bs:List Str} (h:Kp k bs n K) (e:(K.filter (both k bs K)).length=K.length) (t:Str):t∈K ↔ Q4 k bs n t:=by
 have ha:∀ w∈K,both k bs K w=true:=List.length_filter_eq_length_iff.mp e;exact ⟨λht=>⟨(·∈K),ht,λw hw=>(B00 (h.sub w hw)).mp (ha w hw)⟩,h.win t⟩
def pk (sd:Bool) (s:Str × Str):Str:=if sd=true then s.2 else s.1
def P2 (ss:List (Str × Str)) (sd:Bool) (t:Str):Prop:=∃ M:Str->Prop,M t/\∀ w,M w->∃ s∈ss,pk sd s=w/\M (pk (!sd) s)
def A1z (ks:List Str) (t:Str):List Str:=if t∈ks then ks else ks++[t]
theorem C39 {t x:Str}:x∈A1z ks t ↔ x∈ks\/x=t:=by
 unfold A1z;split
 ·constructor
  ·exact .inl
  ·rintro (h|rfl)
   ·exact h
   ·assumption
 ·simp
theorem B2i {t:Str} (h:ks.Nodup):(A1z ks t).Nodup:=by
 unfold A1z;split
 ·exact h
 ·rename_i hn;rw[nodup_append];exact ⟨h,by simp,λa ha b hb=>by rw[zc] at hb;subst hb;exact λe=>hn (e ▸ ha)⟩
def uq (l:List Str):List Str:=l.foldl A1z []
theorem B0q:∀ (l ks:List Str) (x:Str),x∈l.foldl A1z ks ↔ x∈ks\/x∈l
 | [],ks,x=>by simp
 | t::r,ks,x=>by rw[List.foldl_cons,B0q r,C39,zk,or_assoc]
theorem A53:∀ (l ks:List Str),ks.Nodup->(l.foldl A1z ks).Nodup
 | [],ks,h=>h
 | t::r,ks,h=>A53 r _ (B2i h)
theorem B3y {x:Str}:x∈uq l ↔ x∈l:=by unfold uq;rw[B0q];simp
theorem A5x (l:List Str):(uq l).Nodup:=A53 l [] nodup_nil
theorem B5n (l:List Str) (t:Str):uq (l++[t])=A1z (uq l) t:=by unfold uq;rw[List.foldl_append];rfl
theorem B08:∀ (l ks:List Str),(l.foldl A1z ks).length<=ks.length+l.length
 | [],ks=>qp _
 | t::r,ks=>by
  have:=B08 r (A1z ks t);have h2:(A1z ks t).length<=ks.length+1:=by unfold A1z;split<;>simp
  rw[List.foldl_cons,length_cons];lia
theorem A8a (l:List Str):(uq l).length<=l.length:=by have:=B08 l [];simpa [uq] using this
def sel (ss:List (Str × Str)) (sd:Bool) (L:List Str):List (Str × Str):=ss.filter λs=>decide (pk (!sd) s∈L)
def nxt (ss:List (Str × Str)) (sd:Bool) (L:List Str):List Str:=uq ((sel ss sd L).map (pk sd))
theorem Y1 {t:Str}:t∈nxt ss sd L ↔ ∃ s∈ss,pk sd s=t/\pk (!sd) s∈L:=by
 unfold nxt sel;rw[B3y,zg];constructor
 ·rintro ⟨s,hs,rfl⟩;rw[mem_filter,zq] at hs;exact ⟨s,hs.1,rfl,hs.2⟩
 ·rintro ⟨s,h1,rfl,h2⟩;exact ⟨s,mem_filter.mpr ⟨h1,decide_eq_true h2⟩,rfl⟩
structure Lt (ss:List (Str × Str)) (sd:Bool) (L:List Str) (m:Nat):Prop where
 nd:L.Nodup
 last:∀ t,P2 ss sd t->t∈L
 down:∀ t∈nxt ss sd L,t∈L
 stop:m<=L.length->∀ t∈L,t∈nxt ss sd L
theorem Lt.start (ss:List (Str × Str)) (sd:Bool):Lt ss sd (uq (ss.map (pk sd))) ((uq (ss.map (pk sd))).length+1):=by
 refine ⟨A5x _,λt ⟨M,h,c⟩=>?_,λt ht=>?_,λh=>by lia⟩
 ·obtain ⟨s,hs,e,_⟩:=c t h;rw[B3y];exact zg.mpr ⟨s,hs,e⟩
 ·obtain ⟨s,hs,e,_⟩:=Y1.mp ht;rw[B3y];exact zg.mpr ⟨s,hs,e⟩
theorem C8o {m:List Str} (h1:l.Nodup) (h2:∀ x∈l,x∈m) (h3:m.length<=l.length) (hm:m.Nodup):∀ x∈m,x∈l:=by
 induction l generalizing m with
 | nil =>
  intro x hx;have e:m=[]:=List.length_eq_zero_iff.mp (Nat.le_zero.mp h3);rw[e] at hx;cases hx
 | cons a l ih =>
  intro x hx;have ha:=h2 a qu;have hl:=List.length_erase_of_mem ha;rw[nodup_cons] at h1;by_cases z:x=a
  ·rw[z];exact qu
  ·refine qv _ (ih h1.2 (m:=m.erase a) (λy hy=>(List.mem_erase_of_ne (λe:y=a=>h1.1 (by rw[<-e];exact hy))).mpr (h2 y (qv _ hy))) ?_ (hm.erase a) x ((List.mem_erase_of_ne z).mpr hx));rw[length_cons] at h3;lia
theorem Lt.step (h:Lt ss sd L m):Lt ss sd (nxt ss sd L) L.length:=by
 refine ⟨A5x _,λt ht=>?_,λt ht=>?_,λhl t ht=>?_⟩
 ·obtain ⟨M,hm,c⟩:=ht;obtain ⟨s,hs,e,h2⟩:=c t hm;exact Y1.mpr ⟨s,hs,e,h.last _ ⟨M,h2,c⟩⟩
 ·obtain ⟨s,hs,e,h2⟩:=Y1.mp ht;exact Y1.mpr ⟨s,hs,e,h.down _ h2⟩
 ·obtain ⟨s,hs,e,h2⟩:=Y1.mp ht;exact Y1.mpr ⟨s,hs,e,C8o (A5x _) h.down hl h.nd _ h2⟩
theorem Lt.fin (h:Lt ss sd L m) (hl:m<=L.length) (t:Str):t∈L ↔ P2 ss sd t :=
 ⟨λht=>⟨(·∈L),ht,λw hw=>Y1.mp (h.stop hl w hw)⟩,h.last t⟩
theorem X5 {k n:Nat} {bs:List Str} {t:Str}:Q4 k bs n t ↔ P2 (G9 k bs n) true t/\P2 (G9 k bs n) false t:=by
 constructor
 ·rintro ⟨M,h,c⟩;exact ⟨⟨M,h,λw hw=>by obtain ⟨_,u,h1,h2⟩:=c w hw;exact ⟨_,h2,rfl,h1⟩⟩,M,h,λw hw=>by obtain ⟨⟨v,h1,h2⟩,_⟩:=c w hw;exact ⟨_,h2,rfl,h1⟩⟩
 ·rintro ⟨h1,h0⟩;refine ⟨λw=>P2 (G9 k bs n) true w/\P2 (G9 k bs n) false w,⟨h1,h0⟩,λw ⟨⟨M1,a1,c1⟩,M0,a0,c0⟩=>⟨?_,?_⟩⟩
  ·obtain ⟨⟨u,v⟩,s1,s2,s3⟩:=c0 w a0;have s2:u=w:=s2;subst s2;refine ⟨v,⟨⟨λy=>M1 y\/y=v,.inr rfl,λy hy=>?_⟩,M0,s3,c0⟩,s1⟩;rcases hy with hy|rfl
   ·obtain ⟨s,b1,b2,b3⟩:=c1 y hy;exact ⟨s,b1,b2,.inl b3⟩
   ·exact ⟨_,s1,rfl,.inl a1⟩
  ·obtain ⟨⟨u,v⟩,s1,s2,s3⟩:=c1 w a1;have s2:v=w:=s2;subst s2;refine ⟨u,⟨⟨M1,s3,c1⟩,λy=>M0 y\/y=u,.inr rfl,λy hy=>?_⟩,s1⟩;rcases hy with hy|rfl
   ·obtain ⟨s,b1,b2,b3⟩:=c0 y hy;exact ⟨s,b1,b2,.inl b3⟩
   ·exact ⟨_,s1,rfl,.inl a0⟩
theorem B4l {us vs:List Str} (h1:us.Pairwise O7) (h2:vs.Pairwise O7) (h:∀ t,t∈us ↔ t∈vs):us=vs:=by
 have nd:∀ {l:List Str},l.Pairwise O7->l.Nodup:=λh=>List.Pairwise.imp (λ{a b} (g:O7 a b) (z:a=b)=>O7.irr a (by rw[<-z] at g;exact g)) h;exact B0y ((List.perm_ext_iff_of_nodup (nd h1) (nd h2)).mpr h) h1 h2
end M20
namespace M22
open L2 M20
def sT (l:List Nat):Str:=⟨l.toArray⟩
theorem A3c (l:List Nat):(sT l).cps.toList=l:=rfl
theorem C1l (x:Str):sT x.cps.toList=x:=ext rfl
theorem A3t {b x:Str}:has b x=true ↔ b.cps.toList <:+: x.cps.toList:=by
 unfold has;rw[StrLaws.found_iff];constructor
 ·rintro ⟨i,h1,h2⟩;rw[StrLaws.subAt_eq,beq_iff_eq] at h2;exact ⟨x.cps.toList.take i,(x.cps.toList.drop i).drop b.length,by rw[<-h2,append_assoc,take_append_drop,take_append_drop]⟩
 ·rintro ⟨s,t,e⟩;refine ⟨s.length,?_,?_⟩
  ·have:=congrArg List.length e;simp only[length_append,D4] at this;lia
  ·rw[StrLaws.subAt_eq,beq_iff_eq,<-e,append_assoc,List.drop_left,<-D4 b,List.take_left]
theorem A5o {bs:List Str} {x:Str}:fr bs x=true ↔ ∀ b∈bs,¬ b.cps.toList <:+: x.cps.toList:=by
 unfold fr;rw[all_eq_true];constructor
 ·intro h b hb z;have:=h b hb;rw[A3t.mpr z] at this;cases this
 ·intro h b hb;cases e:has b x with
  | false=>rfl
  | true=>exact absurd (A3t.mp e) (h b hb)
theorem B4e {bs:List Str} {x y:Str} (h:fr bs x=true) (s:y.cps.toList <:+: x.cps.toList):fr bs y=true :=
 A5o.mpr λb hb z=>A5o.mp h b hb (z.trans s)
def Ok (k:Nat) (l:List Nat):Prop:=∀ c∈l,c∈A7 k
variable {n:Nat} {u v:Str}
theorem C5a {k:Nat} {bs:List Str} {l:List Nat} (hl:l.length=n+1) (ok:Ok k l) (h:fr bs (sT l)=true):(sT l.dropLast,sT l.tail)∈G9 k bs n:=by
 have h1:1<=(sT l).length:=by rw[<-D4,A3c];lia
 refine P3.mpr ⟨sT l,V1.mpr ⟨by rw[<-D4,A3c];exact hl,ok⟩,h,ext ?_,ext ?_⟩
 ·rw[B34 h1];rfl
 ·rw[X1 h1];rfl
theorem C7k {k:Nat} {bs:List Str} (h:(u,v)∈G9 k bs n):∃ l:List Nat,l.length=n+1/\Ok k l/\fr bs (sT l)=true/\u.cps.toList=l.dropLast/\v.cps.toList=l.tail:=by
 obtain ⟨x,x1,x2,x3,x4⟩:=P3.mp h;obtain ⟨y1,y2⟩:=V1.mp x1;refine ⟨x.cps.toList,by rw[D4];exact y1,y2,by rw[C1l];exact x2,?_,?_⟩
 ·rw[<-x3,B34 (by lia)]
 ·rw[<-x4,X1 (by lia)]
theorem P2.fwd (h:P2 ss true u) (s:(u,v)∈ss):P2 ss true v:=by
 obtain ⟨M,m,c⟩:=h;refine ⟨λt=>M t\/t=v,.inr rfl,λw hw=>?_⟩;rcases hw with hw|rfl
 ·obtain ⟨s',a,b,d⟩:=c w hw;exact ⟨s',a,b,.inl d⟩
 ·exact ⟨_,s,rfl,.inl m⟩
theorem P2.bwd (h:P2 ss false v) (s:(u,v)∈ss):P2 ss false u:=by
 obtain ⟨M,m,c⟩:=h;refine ⟨λt=>M t\/t=u,.inr rfl,λw hw=>?_⟩;rcases hw with hw|rfl
 ·obtain ⟨s',a,b,d⟩:=c w hw;exact ⟨s',a,b,.inl d⟩
 ·exact ⟨_,s,rfl,.inl m⟩
theorem O8 {k:Nat} {bs:List Str} {t:Str} (h:Q4 k bs n t):t.length=n/\Ok k t.cps.toList :=
 V1.mp ((Kp.start k bs n).sub t ((Kp.start k bs n).win t h))
theorem B9w {k:Nat} {bs:List Str} {x:List Nat}:∀ (i:Nat) {t:Str},Q4 k bs n t->x <+: t.cps.toList.drop i->i+x.length<=n->∃ t',Q4 k bs n t'/\x <+: t'.cps.toList
 | 0,t,h,p,_=>⟨t,h,by simpa using p⟩
 | i+1,t,h,p,hl=>by
  obtain ⟨M,m,c⟩:=h;obtain ⟨⟨v,v1,v2⟩,_⟩:=c t m;obtain ⟨l,l1,_,_,l4,l5⟩:=C7k v2;refine B9w i (t:=v) ⟨M,v1,c⟩ ?_ (by lia);rw[l4] at p;rw[l5];have e:(l.tail).drop i=l.drop (i+1):=by rw[<-List.drop_one,List.drop_drop,Nat.add_comm]
  rw[e];refine p.trans ?_;obtain ⟨r,hr⟩:=List.dropLast_prefix l;have:l.dropLast.drop (i+1) <+: l.drop (i+1):=by
   rw[List.dropLast_eq_take];rw[List.drop_take];exact List.take_prefix _ _
  exact this
def sts (k:Nat) (bs:List Str) (n:Nat) (x:Str):Prop :=
 if x.length < n then ∃ t,Q4 k bs n t/\x.cps.toList <+: t.cps.toList
 else fr bs x=true/\∀ j,j+n<=x.length->Q4 k bs n (sT ((x.cps.toList.drop j).take n))
def lws (k:Nat) (bs:List Str) (n:Nat) (x:Str):Prop :=
 if x.length < n then ∃ t,Q4 k bs n t/\has x t=true
 else fr bs x=true/\P2 (G9 k bs n) true (sT (x.cps.toList.take n))/\P2 (G9 k bs n) false (sT (x.cps.toList.drop (x.length - n)))
theorem B0d {k:Nat} {bs:List Str} {x:Str} (ok:Ok k x.cps.toList) (f:fr bs x=true) {j:Nat} (hj:j+1+n<=x.length):(sT ((x.cps.toList.drop j).take n),sT ((x.cps.toList.drop (j+1)).take n))∈G9 k bs n:=by
 have hl:((x.cps.toList.drop j).take (n+1)).length=n+1:=by rw[ja,length_drop,D4];lia
 have:=C5a (k:=k) (bs:=bs) (l:=(x.cps.toList.drop j).take (n+1)) hl (λc hc=>ok c (mem_of_mem_drop (mem_of_mem_take hc))) (B4e f (List.IsInfix.trans (List.take_prefix _ _).isInfix (List.drop_suffix _ _).isInfix));rw[List.dropLast_eq_take,hl,List.take_take,Nat.add_sub_cancel,Nat.min_eq_left (Nat.le_succ n)] at this;have e:((x.cps.toList.drop j).take (n+1)).tail=(x.cps.toList.drop (j+1)).take n:=by
  rw[<-List.drop_one,List.drop_take,List.drop_drop];rfl
 rw[e] at this;exact this
theorem same {k:Nat} {bs:List Str} {x:Str} (ok:Ok k x.cps.toList):sts k bs n x ↔ lws k bs n x:=by
 unfold sts lws;by_cases h:x.length < n
 ·rw[qm h,qm h];constructor
  ·rintro ⟨t,t1,t2⟩;exact ⟨t,t1,A3t.mpr t2.isInfix⟩
  ·rintro ⟨t,t1,t2⟩;obtain ⟨s,r,e⟩:=A3t.mp t2;have hl:=congrArg List.length e;simp only[length_append,D4] at hl;refine B9w s.length t1 ⟨r,by rw[<-e,append_assoc,List.drop_left]⟩ ?_;rw[D4];have:=(O8 t1).1;lia
 ·rw[qo h,qo h];have e0:((x.cps.toList.drop (x.length - n)).take n)=x.cps.toList.drop (x.length - n):=List.take_of_length_le (by rw[length_drop,D4];lia);constructor
  ·rintro ⟨f,a⟩;have a0:=X5.mp (a 0 (by lia));have a1:=X5.mp (a (x.length - n) (by lia));rw[e0] at a1;exact ⟨f,a0.1,a1.2⟩
  ·rintro ⟨f,a,b⟩;refine ⟨f,λj hj=>X5.mpr ⟨?_,?_⟩⟩
   ·clear b
    induction j with
    | zero=>exact a
    | succ j ih=>exact P2.fwd (ih (by lia)) (B0d ok f (by lia))
   ·rw[<-e0] at b;clear a;obtain ⟨m,em⟩:∃ m,j+m=x.length - n:=⟨x.length - n - j,by lia⟩
    induction m generalizing j with
    | zero => have : j = x.length - n := by lia
              rw[this];exact b
    | succ m ih=>exact P2.bwd (ih (j+1) (by lia) (by lia)) (B0d ok f (by lia))
theorem C86 {k:Nat} {bs:List Str} {t:Str} (h:Q4 k bs n t):lws k bs n t:=by
 have hl:=(O8 h).1;unfold lws;rw[qo (by lia),hl,Nat.sub_self,drop_zero,List.take_of_length_le (by rw[D4];lia),C1l];have w:=X5.mp h;refine ⟨?_,w⟩;have:=(mem_filter.mp ((Kp.start k bs n).win t h)).2;exact this
end M22
namespace M23
open L2 M20 M22
abbrev Wd:=List Nat
def sl (v w:Wd):Prop:=v.length < w.length\/(v.length=w.length/\v < w)
theorem A8e:∀ {v w:Wd} {a b:Nat},v.length=w.length->(v++[a] < w++[b] ↔ v < w\/(v=w/\a < b))
 | [],[],a,b,_=>by simp[List.cons_lt_cons_iff]
 | [],_::_,_,_,h=>by cases h
 | _::_,[],_,_,h=>by cases h
 | x::v,y::w,a,b,h=>by
  have h:v.length=w.length:=by simpa using h
  rw[List.cons_append,List.cons_append,List.cons_lt_cons_iff,List.cons_lt_cons_iff,A8e h];constructor
  ·rintro (g|⟨rfl,g|⟨rfl,g⟩⟩)
   ·exact .inl (.inl g)
   ·exact .inl (.inr ⟨rfl,g⟩)
   ·exact .inr ⟨rfl,g⟩
  ·rintro ((g|⟨rfl,g⟩)|⟨e,g⟩)
   ·exact .inl g
   ·exact .inr ⟨rfl,.inl g⟩
   ·injection e with e1 e2
    exact .inr ⟨e1,.inr ⟨e2,g⟩⟩
variable {w v:Wd} {M:List (Str × Wd)} {q p:Str × Wd} {j N n:Nat}
theorem D22 (h:¬ v < w) (g:¬ w < v):v=w:=by
 have h1:w<=v:=h;have h2:v<=w:=g;exact List.le_antisymm h2 h1
theorem A2p (v:Wd):¬ sl v v:=by
 rintro (h|⟨_,h⟩)
 ·lia
 ·exact List.lt_irrefl _ h
theorem A04 {u:Wd} (h:sl u v) (g:sl v w):sl u w:=by
 rcases h with h|⟨h1,h2⟩<;>rcases g with g|⟨g1,g2⟩
 ·exact .inl (by lia)
 ·exact .inl (by lia)
 ·exact .inl (by lia)
 ·exact .inr ⟨by lia,List.lt_trans h2 g2⟩
theorem B38 (h:¬ sl v w) (g:¬ sl w v):v=w:=by
 have e:v.length=w.length:=by
  have a1:¬ v.length < w.length:=λz=>h (.inl z);have a2:¬ w.length < v.length:=λz=>g (.inl z);lia
 exact D22 (λz=>h (.inr ⟨e,z⟩)) λz=>g (.inr ⟨e.symm,z⟩)
theorem A6t {u:Wd} (h:¬ sl v u) (g:¬ sl w v):¬ sl w u:=λz=>by
 by_cases e:sl u v
 ·exact g (A04 z e)
 ·rw[B38 h e] at g;exact g z
theorem B65 (h:sl v w) (a b:Nat):sl (v++[a]) (w++[b]):=by
 rcases h with h|⟨h1,h2⟩
 ·exact .inl (by simp;lia)
 ·exact .inr ⟨by simp;lia,(A8e h1).mpr (.inl h2)⟩
theorem C3a (v:Wd) {a b:Nat} (h:a < b):sl (v++[a]) (v++[b]):=.inr ⟨by simp,(A8e rfl).mpr (.inr ⟨rfl,h⟩)⟩
theorem B50 (h:¬ sl w v) (c:Nat):¬ sl (w++[c]) (v++[c]):=λz=>by
 by_cases e:sl v w
 ·exact A2p _ (A04 z (B65 e c c))
 ·rw[B38 h e] at z;exact A2p _ z
section
variable (cs:List Nat) (ok:Str->Nat->Bool) (nx:Str->Nat->Str)
def go:Str->Wd->Option Str
 | u,[]=>some u
 | u,c::r=>if c∈cs/\ok u c=true then go (nx u c) r else none
theorem A8s:∀ {v w:Wd} {u:Str},go cs ok nx u (v++w)=(go cs ok nx u v).bind λt=>go cs ok nx t w
 | [],_,_=>rfl
 | c::r,w,u=>by
  rw[List.cons_append,go,go];split
  ·exact A8s
  ·rfl
theorem A8x {u v:Str} {c:Nat} (h:go cs ok nx u w=some v) (hc:c∈cs) (o:ok v c=true):go cs ok nx u (w++[c])=some (nx v c):=by
 rw[A8s,h];show go cs ok nx v [c]=_;rw[go,qm ⟨hc,o⟩];rfl
theorem A7t {u v:Str} {c:Nat} (h:go cs ok nx u (w++[c])=some v):∃ t,go cs ok nx u w=some t/\c∈cs/\ok t c=true/\v=nx t c:=by
 rw[A8s] at h;cases e:go cs ok nx u w with
 | none=>rw[e] at h;cases h
 | some t =>
  rw[e] at h;have h:go cs ok nx t [c]=some v:=h;rw[go] at h;split at h
  ·rename_i hh;exact ⟨t,rfl,hh.1,hh.2,(zp h).symm⟩
  ·cases h
variable (can:Str->Bool) (one:Str)
def Pw (w:Wd):Prop:=∃ v,go cs ok nx one w=some v/\can v=true
def A3h (N:Nat):Option Wd->Prop
 | none=>∀ w,¬ Pw cs ok nx can one w
 | some w=>Pw cs ok nx can one w/\w.length < N/\∀ w',Pw cs ok nx can one w'->¬ sl w' w
structure Bf (us:List Str) (L:List (Str × Wd)) (at_:Nat) (ds:List Nat):Prop where
 nd:(L.map Prod.fst).Nodup
 hd:L[0]?=some (one,[])
 path:∀ p∈L,go cs ok nx one p.2=some p.1
 inU:∀ p∈L,p.1∈us
 srt:L.Pairwise λ(p q:Str × Wd)=>sl p.2 q.2
 len:∀ (i:Nat) (p:Str × Wd),L[i]?=some p->p.2.length<=i
 frm:∀ p∈L,p.2=[]\/∃ i q d,L[i]?=some q/\p.2=q.2++[d]/\(i < at_\/(i=at_/\d∈ds))
 cl:∀ (i:Nat) (p:Str × Wd),L[i]?=some p->∀ c,(i < at_/\c∈cs\/i=at_/\c∈ds)->ok p.1 c=true->∃ p'∈L,p'.1=nx p.1 c/\¬ sl (p.2++[c]) p'.2
 no:∀ (i:Nat) (p:Str × Wd),i < at_->L[i]?=some p->can p.1=false
variable {cs ok nx can one} {us:List Str} {L:List (Str × Wd)} {a:Nat} {ds:List Nat}
theorem Bf.start (h:one∈us):Bf cs ok nx can one us [(one,[])] 0 [] where
 nd:=by simp
 hd:=rfl
 path:=λp hp=>by rw[zc.mp hp];rfl
 inU:=λp hp=>by rw[zc.mp hp];exact h
 srt:=by simp
 len:=λi p hp=>by
  match i,hp with
  | 0,hp=>cases hp;exact qp _
 frm:=λp hp=>by rw[zc.mp hp];exact .inl rfl
 cl:=λi p hp c h=>by
  rcases h with h|h
  ·lia
  ·cases h.2
 no:=λi p h=>by lia
theorem Bf.lt (B:Bf cs ok nx can one us L a ds) {i:Nat} (hi:L[i]?=some p) (hj:L[j]?=some q) (h:i < j):sl p.2 q.2:=by
 obtain ⟨h1,rfl⟩:=qh.mp hi;obtain ⟨h2,rfl⟩:=qh.mp hj;exact List.pairwise_iff_getElem.mp B.srt i j h1 h2 h
theorem Bf.gt (B:Bf cs ok nx can one us L a ds) {c:Nat} (hq:L[a]?=some q) (hd:∀ d∈ds,d < c):∀ p∈L,sl p.2 (q.2++[c]):=λp hp=>by
 rcases B.frm p hp with h|⟨i,r,d,h1,h2,h3⟩
 ·rw[h];exact .inl (by simp)
 ·rw[h2];rcases h3 with h3|⟨rfl,h3⟩
  ·exact B65 (B.lt h1 hq h3) _ _
  ·rw[hq] at h1;cases h1;exact C3a _ (hd d h3)
theorem Bf.skip (B:Bf cs ok nx can one us L a ds) {c:Nat} (hq:L[a]?=some q) (hd:∀ d∈ds,d < c) (h:ok q.1 c=true->∃ p'∈L,p'.1=nx q.1 c):Bf cs ok nx can one us L a (ds++[c]) where
 nd:=B.nd
 hd:=B.hd
 path:=B.path
 inU:=B.inU
 srt:=B.srt
 len:=B.len
 frm:=λp hp=>(B.frm p hp).imp id λ⟨i,r,d,h1,h2,h3⟩=>⟨i,r,d,h1,h2,h3.imp id λz=>⟨z.1,qz _ z.2⟩⟩
 cl:=λi p hp d hh o=>by
  rcases hh with hh|⟨rfl,hh⟩
  ·exact B.cl i p hp d (.inl hh) o
  ·rcases zj.mp hh with hh|hh
   ·exact B.cl _ p hp d (.inr ⟨rfl,hh⟩) o
   ·have:d=c:=by simpa using hh
    subst this;rw[hq] at hp;cases hp;obtain ⟨p',m,e⟩:=h o;exact ⟨p',m,e,λz=>A2p _ (A04 (B.gt hq hd p' m) z)⟩
 no:=B.no
theorem Bf.add (B:Bf cs ok nx can one us L a ds) {c:Nat} (hq:L[a]?=some q) (hd:∀ d∈ds,d < c) (hc:c∈cs) (o:ok q.1 c=true) (hn:nx q.1 c∉L.map Prod.fst) (hu:nx q.1 c∈us):Bf cs ok nx can one us (L++[(nx q.1 c,q.2++[c])]) a (ds++[c]):=by
 have al:a < L.length:=(qh.mp hq).1;have up:∀ {i:Nat} {p:Str × Wd},L[i]?=some p->(L++[(nx q.1 c,q.2++[c])])[i]?=some p:=λ{i p} h=>by
  rw[List.getElem?_append_left (qh.mp h).1];exact h
 have dn:∀ {i:Nat} {p:Str × Wd},(L++[(nx q.1 c,q.2++[c])])[i]?=some p->L[i]?=some p\/(i=L.length/\p=(nx q.1 c,q.2++[c])):=λ{i p} h=>by
  by_cases e:i < L.length
  ·rw[List.getElem?_append_left e] at h;exact .inl h
  ·rw[List.getElem?_append_right (by lia)] at h;have:i - L.length=0:=by
    have:=(qh.mp h).1;simp at this;lia
   rw[this] at h;cases h;exact .inr ⟨by lia,rfl⟩
 refine ⟨?_,up B.hd,λp hp=>?_,λp hp=>?_,?_,λi p hp=>?_,λp hp=>?_,λi p hp d hh o'=>?_,λi p hi hp=>?_⟩
 ·rw[map_append,nodup_append];refine ⟨B.nd,by simp,λx hx y hy e=>?_⟩;have:y=nx q.1 c:=by simpa using hy
  rw[e,this] at hx;exact hn hx
 ·rcases zj.mp hp with hp|hp
  ·exact B.path p hp
  ·rw[zc.mp hp];exact A8x cs ok nx (B.path q (zr hq)) hc o
 ·rcases zj.mp hp with hp|hp
  ·exact B.inU p hp
  ·rw[zc.mp hp];exact hu
 ·rw[List.pairwise_append];refine ⟨B.srt,by simp,λx hx y hy=>?_⟩;rw[zc.mp hy];exact B.gt hq hd x hx
 ·rcases dn hp with hp|⟨rfl,rfl⟩
  ·exact B.len i p hp
  ·have:=B.len a q hq;simp;lia
 ·rcases zj.mp hp with hp|hp
  ·exact (B.frm p hp).imp id λ⟨i,r,d,h1,h2,h3⟩=>⟨i,r,d,up h1,h2,h3.imp id λz=>⟨z.1,qz _ z.2⟩⟩
  ·rw[zc.mp hp];exact .inr ⟨a,q,c,up hq,rfl,.inr ⟨rfl,by simp⟩⟩
 ·have hi:L[i]?=some p:=by
   rcases dn hp with hp|⟨rfl,rfl⟩
   ·exact hp
   ·rcases hh with hh|hh<;>lia
  have old:∀ {x:Nat},(i < a/\x∈cs\/i=a/\x∈ds)->ok p.1 x=true->∃ p'∈L++[(nx q.1 c,q.2++[c])],p'.1=nx p.1 x/\¬ sl (p.2++[x]) p'.2:=λhx ox=>by
   obtain ⟨p',m,e1,e2⟩:=B.cl i p hi _ hx ox;exact ⟨p',qz _ m,e1,e2⟩
  rcases hh with hh|⟨rfl,hh⟩
  ·exact old (.inl hh) o'
  ·rcases zj.mp hh with hh|hh
   ·exact old (.inr ⟨rfl,hh⟩) o'
   ·have:d=c:=by simpa using hh
    subst this;rw[hq] at hi;cases hi;exact ⟨_,qw _ (zc.mpr rfl),rfl,A2p _⟩
 ·rcases dn hp with hp|⟨rfl,rfl⟩
  ·exact B.no i p hi hp
  ·lia
theorem Bf.next (B:Bf cs ok nx can one us L a cs) (hq:L[a]?=some q) (h:can q.1=false):Bf cs ok nx can one us L (a+1) [] where
 nd:=B.nd
 hd:=B.hd
 path:=B.path
 inU:=B.inU
 srt:=B.srt
 len:=B.len
 frm:=λp hp=>(B.frm p hp).imp id λ⟨i,r,d,h1,h2,h3⟩=>⟨i,r,d,h1,h2,.inl (by rcases h3 with h3|h3<;>lia)⟩
 cl:=λi p hp c hh o=>by
  rcases hh with ⟨h1,h2⟩|⟨_,h2⟩
  ·by_cases e:i < a
   ·exact B.cl i p hp c (.inl ⟨e,h2⟩) o
   ·exact B.cl i p hp c (.inr ⟨by lia,h2⟩) o
  ·cases h2
 no:=λi p hi hp=>by
  by_cases e:i < a
  ·exact B.no i p e hp
  ·have:i=a:=by lia
   rw[this,hq] at hp;cases hp;exact h
theorem C41 {C:Wd->Prop} (h0:C []) (hs:∀ w c,C w->C (w++[c])) (w:Wd):C w:=by
 have:∀ r:Wd,C r.reverse:=λr=>by
  induction r with
  | nil=>exact h0
  | cons a r ih=>rw[List.reverse_cons];exact hs _ _ ih
 have h:=this w.reverse
 rwa [List.reverse_reverse] at h
theorem Bf.reach (B:Bf cs ok nx can one us L a []) (w:Wd):∀ v,go cs ok nx one w=some v->(∀ q,L[a]?=some q->sl w q.2)->∃ i p,i < a/\L[i]?=some p/\p.1=v/\¬ sl w p.2:=by
 refine C41 (C:=λw=>∀ v,go cs ok nx one w=some v->(∀ q,L[a]?=some q->sl w q.2)->∃ i p,i < a/\L[i]?=some p/\p.1=v/\¬ sl w p.2) (λv h hq=>?_) (λw c ih v h hq=>?_) w
 ·cases h;have:0 < a:=by
   rcases Nat.eq_zero_or_pos a with e|e
   ·exact absurd (hq _ (by rw[e];exact B.hd)) (A2p _)
   ·exact e
  exact ⟨0,_,this,B.hd,rfl,A2p _⟩
 ·obtain ⟨t,h1,h2,h3,rfl⟩:=A7t cs ok nx h;obtain ⟨i,p,g1,g2,rfl,g4⟩:=ih t h1 λq e=>A04 (.inl (by simp)) (hq q e);obtain ⟨p',m,e1,e2⟩:=B.cl i p g2 c (.inl ⟨g1,h2⟩) h3;have k:=A6t e2 (B50 g4 c);obtain ⟨j,hj⟩:=mem_iff_getElem?.mp m;refine ⟨j,p',?_,hj,e1,k⟩;apply Classical.byContradiction;intro z;have al:a < L.length:=by have:=(qh.mp hj).1;lia
  have ha:=zd al;have s:=hq _ ha;by_cases e:j=a
  ·rw[e,ha] at hj;cases hj;exact k s
  ·exact k (A04 s (B.lt ha hj (by lia)))
theorem A45 {l m:List Str} (h1:l.Nodup) (h2:∀ x∈l,x∈m):l.length<=m.length:=by
 induction l generalizing m with
 | nil=>exact zz _
 | cons a l ih =>
  have ha:=h2 a qu;have hl:=List.length_erase_of_mem ha;have hp:=List.length_pos_of_mem ha;rw[nodup_cons] at h1;have:=ih h1.2 (m:=m.erase a) (λy hy=>(List.mem_erase_of_ne (λe:y=a=>h1.1 (by rw[<-e];exact hy))).mpr (h2 y (qv _ hy)));rw[length_cons];lia
theorem Bf.few (B:Bf cs ok nx can one us L a ds):L.length<=us.length:=by
 have:=A45 B.nd λx hx=>by
  obtain ⟨p,hp,rfl⟩:=zg.mp hx;exact B.inU p hp
 rwa [qf] at this
theorem Bf.found (B:Bf cs ok nx can one us L a []) (hq:L[a]?=some q) (h:can q.1=true):A3h cs ok nx can one us.length (some q.2):=by
 refine ⟨⟨q.1,B.path q (zr hq),h⟩,?_,λw ⟨v,h1,h2⟩ z=>?_⟩
 ·have:=B.len a q hq;have:=(qh.mp hq).1;have:=B.few;lia
 ·obtain ⟨i,p,g1,g2,rfl,_⟩:=B.reach w v h1 λr hr=>by rw[hq] at hr;cases hr;exact z
  rw[B.no i p g1 g2] at h2;cases h2
theorem Bf.none (B:Bf cs ok nx can one us L a []) (h:L.length<=a):A3h cs ok nx can one us.length none:=λw ⟨v,h1,h2⟩=>by
 obtain ⟨i,p,g1,g2,rfl,_⟩:=B.reach w v h1 λr hr=>by rw[List.getElem?_eq_none h] at hr;cases hr
 rw[B.no i p g1 g2] at h2;cases h2
structure Ly (k:Nat) (L:List (Str × Wd)):Prop where
 nd:(L.map Prod.fst).Nodup
 mem:∀ p∈L,p.2.length=k/\go cs ok nx one p.2=some p.1/\∀ w,w.length=k->go cs ok nx one w=some p.1->¬ w < p.2
 all:∀ w v,w.length=k->go cs ok nx one w=some v->∃ p∈L,p.1=v
theorem Ly.start:Ly (cs:=cs) (ok:=ok) (nx:=nx) (one:=one) 0 [(one,[])] where
 nd:=by simp
 mem:=λp hp=>by
  rw[zc.mp hp];refine ⟨rfl,rfl,λw hw _ z=>?_⟩;rw[List.length_eq_zero_iff.mp hw] at z;exact List.lt_irrefl _ z
 all:=λw v hw h=>by
  rw[List.length_eq_zero_iff.mp hw] at h;cases h;exact ⟨_,zc.mpr rfl,rfl⟩
def A0b (M:List (Str × Wd)) (t:Str) (w:Wd):List (Str × Wd):=if t∈M.map Prod.fst then M.map (λp=>if p.1=t then (p.1,w) else p) else M++[(t,w)]
theorem C3x (M:List (Str × Wd)) (t:Str) (w:Wd):(A0b M t w).map Prod.fst=if t∈M.map Prod.fst then M.map Prod.fst else M.map Prod.fst++[t]:=by
 unfold A0b;split
 ·rw[map_map];refine List.map_congr_left λp _=>?_;show (if p.1=t then (p.1,w) else p).1=p.1;split<;>rfl
 ·rw[map_append];rfl
theorem C63 {t:Str} (h:(M.map Prod.fst).Nodup):((A0b M t w).map Prod.fst).Nodup:=by
 rw[C3x];split
 ·exact h
 ·rename_i hn;rw[nodup_append];exact ⟨h,by simp,λa ha b hb e=>by rw[zc.mp hb] at e;exact hn (e ▸ ha)⟩
theorem B96 {t:Str} (h:p∈A0b M t w):p=(t,w)\/(p∈M/\p.1≠t):=by
 unfold A0b at h;split at h
 ·obtain ⟨q,hq,e⟩:=zg.mp h;split at e
  ·rename_i he;exact .inl (by rw[<-e,he])
  ·rename_i he;exact .inr (by rw[<-e];exact ⟨hq,he⟩)
 ·rename_i hn;rcases zj.mp h with h|h
  ·exact .inr ⟨h,λe=>hn (e ▸ zg.mpr ⟨p,h,rfl⟩)⟩
  ·exact .inl (zc.mp h)
theorem B6c (M:List (Str × Wd)) (t:Str) (w:Wd):(t,w)∈A0b M t w:=by
 unfold A0b;split
 ·rename_i h;obtain ⟨q,hq,e⟩:=zg.mp h;exact zg.mpr ⟨q,hq,by rw[qm e,e]⟩
 ·simp
theorem C7j {t:Str} (h:p∈M) (hn:p.1≠t):p∈A0b M t w:=by
 unfold A0b;split
 ·exact zg.mpr ⟨p,h,qo hn⟩
 ·exact qz _ h
structure Mk (L:List (Str × Wd)) (j:Nat) (ds:List Nat) (M:List (Str × Wd)):Prop where
 nd:(M.map Prod.fst).Nodup
 mem:∀ m∈M,∃ p∈L,∃ c∈cs,ok p.1 c=true/\m=(nx p.1 c,p.2++[c])
 all:∀ (i:Nat) (p:Str × Wd),L[i]?=some p->∀ c∈cs,(i < j\/i=j/\c∈ds)->ok p.1 c=true->∃ m∈M,m.1=nx p.1 c/\¬ p.2++[c] < m.2
theorem Mk.start:Mk (cs:=cs) (ok:=ok) (nx:=nx) L 0 [] [] where
 nd:=by simp
 mem:=λm hm=>by cases hm
 all:=λi p _ c _ h=>by rcases h with h|h;lia;cases h.2
theorem Mk.next (h:Mk (cs:=cs) (ok:=ok) (nx:=nx) L j ds M) (hd:∀ p:Str × Wd,L[j]?=some p->∀ c∈cs,ok p.1 c=true->c∈ds):Mk (cs:=cs) (ok:=ok) (nx:=nx) L (j+1) [] M where
 nd:=h.nd
 mem:=h.mem
 all:=λi p hp c hc hi o=>by
  rcases hi with hi|hi
  ·by_cases e:i < j
   ·exact h.all i p hp c hc (.inl e) o
   ·have:i=j:=by lia
    subst this;exact h.all i p hp c hc (.inr ⟨rfl,hd p hp c hc o⟩) o
  ·cases hi.2
theorem Mk.put {c:Nat} (h:Mk (cs:=cs) (ok:=ok) (nx:=nx) L j ds M) (hp:L[j]?=some p) (hc:c∈cs) (o:ok p.1 c=true) (hw:∀ m∈M,m.1=nx p.1 c->p.2++[c] < m.2):Mk (cs:=cs) (ok:=ok) (nx:=nx) L j (ds++[c]) (A0b M (nx p.1 c) (p.2++[c])) where
 nd:=C63 h.nd
 mem:=λm hm=>by
  rcases B96 hm with rfl|⟨hm,_⟩
  ·exact ⟨p,zr hp,c,hc,o,rfl⟩
  ·exact h.mem m hm
 all:=λi q hq d hd hi od=>by
  have old:(∃ m∈M,m.1=nx q.1 d/\¬ q.2++[d] < m.2)->∃ m∈A0b M (nx p.1 c) (p.2++[c]),m.1=nx q.1 d/\¬ q.2++[d] < m.2:=λ⟨m,m1,m2,m3⟩=>by
   by_cases e:m.1=nx p.1 c
   ·exact ⟨_,B6c _ _ _,by rw[<-e];exact m2,λz=>m3 (List.lt_trans z (hw m m1 e))⟩
   ·exact ⟨m,C7j m1 e,m2,m3⟩
  rcases hi with hi|⟨rfl,hi⟩
  ·exact old (h.all i q hq d hd (.inl hi) od)
  ·rcases zj.mp hi with hi|hi
   ·exact old (h.all _ q hq d hd (.inr ⟨rfl,hi⟩) od)
   ·have:d=c:=by simpa using hi
    subst this;rw[hp] at hq;cases hq;exact ⟨_,B6c _ _ _,rfl,List.lt_irrefl _⟩
theorem Mk.keep {m:Str × Wd} {c:Nat} (h:Mk (cs:=cs) (ok:=ok) (nx:=nx) L j ds M) (hp:L[j]?=some p) (hm:m∈M) (e:m.1=nx p.1 c) (hw:¬ p.2++[c] < m.2):Mk (cs:=cs) (ok:=ok) (nx:=nx) L j (ds++[c]) M where
 nd:=h.nd
 mem:=h.mem
 all:=λi q hq d hd hi od=>by
  rcases hi with hi|⟨rfl,hi⟩
  ·exact h.all i q hq d hd (.inl hi) od
  ·rcases zj.mp hi with hi|hi
   ·exact h.all _ q hq d hd (.inr ⟨rfl,hi⟩) od
   ·have:d=c:=by simpa using hi
    subst this;rw[hp] at hq;cases hq;exact ⟨m,hm,e,hw⟩
theorem B5x (h:(M.map Prod.fst).Nodup) (hp:p∈M) (hq:q∈M) (e:p.1=q.1):p=q:=by
 induction M with
 | nil=>cases hp
 | cons a r ih =>
  rw[map_cons,nodup_cons] at h;rcases zk.mp hp with rfl|hp'<;>rcases zk.mp hq with rfl|hq'
  ·rfl
  ·exact absurd (zg.mpr ⟨q,hq',e.symm⟩) h.1
  ·exact absurd (zg.mpr ⟨p,hp',e⟩) h.1
  ·exact ih h.2 hp' hq'
theorem Ly.next {k:Nat} (h:Ly (cs:=cs) (ok:=ok) (nx:=nx) (one:=one) k L) (m:Mk (cs:=cs) (ok:=ok) (nx:=nx) L L.length [] M):Ly (cs:=cs) (ok:=ok) (nx:=nx) (one:=one) (k+1) M where
 nd:=m.nd
 mem:=λx hx=>by
  obtain ⟨p,hp,c,hc,o,rfl⟩:=m.mem x hx;obtain ⟨h1,h2,h3⟩:=h.mem p hp;refine ⟨by simp[h1],A8x cs ok nx h2 hc o,λw hw hg z=>?_⟩;have hz:¬ sl w (p.2++[c]):=by
   rcases List.eq_nil_or_concat w with rfl|⟨w',d,rfl⟩
   ·cases hw
   rw[List.concat_eq_append] at hw hg;rw[List.concat_eq_append];have hw':w'.length=k:=by simpa using hw
   obtain ⟨t,g1,g2,g3,g4⟩:=A7t cs ok nx hg;obtain ⟨q,hq,e⟩:=h.all w' t hw' g1;obtain ⟨q1,q2,q3⟩:=h.mem q hq;obtain ⟨i,hi⟩:=mem_iff_getElem?.mp hq;have il:=(qh.mp hi).1;obtain ⟨y,hy,y1,y2⟩:=m.all i q hi d g2 (.inl il) (by rw[e];exact g3);have:y=(nx p.1 c,p.2++[c]):=B5x m.nd hy hx (by rw[y1,e];exact g4.symm);rw[this] at y2;have a1:¬ sl w' q.2:=λz=>by
    rcases z with z|⟨_,z⟩
    ·lia
    ·exact q3 w' hw' (by rw[e];exact g1) z
   have a2:¬ sl (q.2++[d]) (p.2++[c]):=λz=>by
    rcases z with z|⟨_,z⟩
    ·simp at z;lia
    ·exact y2 z
   exact A6t a2 (B50 a1 d)
  exact hz (.inr ⟨by simp[h1,hw],z⟩)
 all:=λw v hw hg=>by
  rcases List.eq_nil_or_concat w with rfl|⟨w',d,rfl⟩
  ·cases hw
  rw[List.concat_eq_append] at hw hg;have hw':w'.length=k:=by simpa using hw
  obtain ⟨t,g1,g2,g3,rfl⟩:=A7t cs ok nx hg;obtain ⟨q,hq,e⟩:=h.all w' t hw' g1;obtain ⟨i,hi⟩:=mem_iff_getElem?.mp hq;have il:=(qh.mp hi).1;obtain ⟨y,hy,y1,_⟩:=m.all i q hi d g2 (.inl il) (by rw[e];exact g3);exact ⟨y,hy,by rw[y1,e]⟩
theorem Ly.found {k:Nat} {r:Option Wd} {w0:Wd} (h:Ly (cs:=cs) (ok:=ok) (nx:=nx) (one:=one) k L) (hr:A3h cs ok nx can one N r) (hk:∀ w,w.length < k->¬ Pw cs ok nx can one w) (h0:∃ p∈L,can p.1=true/\p.2=w0) (hl:∀ p∈L,can p.1=true->¬ p.2 < w0):r=some w0:=by
 obtain ⟨p,hp,c,rfl⟩:=h0;have P0:Pw cs ok nx can one p.2:=⟨p.1,(h.mem p hp).2.1,c⟩;cases r with
 | none=>exact absurd P0 (hr _)
 | some w =>
  obtain ⟨r1,_,r3⟩:=hr;congr 1;refine (B38 (r3 _ P0) λz=>?_).symm;have e:=(h.mem p hp).1;rcases z with z|⟨z1,z2⟩
  ·exact hk w (by lia) r1
  ·obtain ⟨v,v1,v2⟩:=r1;obtain ⟨q,hq,rfl⟩:=h.all w v (by lia) v1;have q1:=hl q hq v2;have q2:=(h.mem q hq).2.2 w (by lia) v1;have:q.2<=w:=q2;exact q1 (List.lt_of_le_of_lt this z2)
theorem Ly.no {k:Nat} (h:Ly (cs:=cs) (ok:=ok) (nx:=nx) (one:=one) k L) (hn:∀ p∈L,can p.1=false) (hk:∀ w,w.length < k->¬ Pw cs ok nx can one w):∀ w,w.length < k+1->¬ Pw cs ok nx can one w:=λw hw P=>by
 by_cases e:w.length < k
 ·exact hk w e P
 ·obtain ⟨v,v1,v2⟩:=P;obtain ⟨p,hp,rfl⟩:=h.all w v (by lia) v1;rw[hn p hp] at v2;cases v2
theorem B3c {r:Option Wd} (hr:A3h cs ok nx can one N r) (hk:∀ w,w.length < N+1->¬ Pw cs ok nx can one w):r=none:=by
 cases r with
 | none=>rfl
 | some w=>exact absurd hr.1 (hk w (by have:=hr.2.1;lia))
end
theorem A4x {u:Str} {c:Nat} (h:1<=u.length):sl1 (u++G8 c)=sl1 u++G8 c:=by
 refine ext ?_;rw[X1 (by rw[R7];lia),M3,M3,X1 h];have:u.cps.toList≠[]:=λz=>by have:=congrArg List.length z;rw[D4] at this;simp at this;lia
 cases hu:u.cps.toList with
 | nil=>exact absurd hu this
 | cons a r=>rfl
theorem behind {k:Nat} {bs:List Str} {u:Str} {c:Nat} (hu:Q4 k bs n u) (hn:1<=n) (h:sts k bs n (u++G8 c)):Q4 k bs n (sl1 u++G8 c):=by
 have hl:=(O8 hu).1;have hx:(u++G8 c).length=n+1:=by rw[R7,hl];rfl
 unfold sts at h;rw[qo (by lia)] at h;have h1:=h.2 1 (by lia);have e:sT (((u++G8 c).cps.toList.drop 1).take n)=sl1 u++G8 c:=by
  rw[<-A4x (by lia)];refine ext ?_;rw[A3c,X1 (by lia),List.drop_one,List.take_of_length_le];rw[List.length_tail,D4];lia
 rw[e] at h1;exact h1
theorem B3z (u:Str) (x:Wd):(u++sT x).cps.toList=u.cps.toList++x:=by rw[M3];rfl
theorem C91 {k:Nat} {bs:List Str} {u:Str} (h:Q4 k bs n u):sts k bs n u:=(same (O8 h).2).mpr (C86 h)
theorem C0x {k:Nat} {bs:List Str} {u:Str} {c:Nat} {r:Wd} (hb:∀ b∈bs,b.length<=n+1) (hn:1<=n) (hu:Q4 k bs n u):sts k bs n (u++sT (c::r)) ↔ sts k bs n (u++G8 c)/\sts k bs n ((sl1 u++G8 c)++sT r):=by
 have hl:=(O8 hu).1;obtain ⟨a,l,ul⟩:∃ a l,u.cps.toList=a::l:=by
  cases e:u.cps.toList with
  | nil=>have:=congrArg List.length e;rw[D4] at this;simp at this;lia
  | cons a l=>exact ⟨a,l,rfl⟩
 have ll:l.length+1=n:=by rw[<-hl,<-D4,ul];rfl
 have s1:(sl1 u).cps.toList=l:=by rw[X1 (by lia),ul];rfl
 have t1:(u++sT (c::r)).cps.toList=a::(l++c::r):=by rw[B3z,ul];rfl
 have t2:(u++G8 c).cps.toList=a::(l++[c]):=by rw[M3,ul];rfl
 have t3:((sl1 u++G8 c)++sT r).cps.toList=l++c::r:=by
  rw[B3z,M3,s1];show l++[c]++r=_;simp
 have l1:(u++sT (c::r)).length=n+1+r.length:=by rw[<-D4,t1];simp;lia
 have l2:(u++G8 c).length=n+1:=by rw[<-D4,t2];simp;lia
 have l3:((sl1 u++G8 c)++sT r).length=n+r.length:=by rw[<-D4,t3];simp;lia
 have pre:a::(l++[c]) <+: a::(l++c::r):=⟨r,by simp⟩;have wu:sT ((a::(l++c::r)).take n)=u:=by
  refine ext ?_;rw[A3c,ul,<-ll,List.take_succ_cons,List.take_left' rfl]
 unfold sts;rw[qo (by lia),qo (by lia),qo (by lia),l1,l2,l3,t1,t2,t3];constructor
 ·rintro ⟨f,w⟩;refine ⟨⟨B4e f (by rw[t1,t2];exact pre.isInfix),λj hj=>?_⟩,B4e f (by rw[t1,t3];exact (List.suffix_cons _ _).isInfix),λj hj=>?_⟩
  ·have h:=w j (by lia);have e:((a::(l++[c])).drop j).take n=((a::(l++c::r)).drop j).take n:=by
    obtain ⟨z,hz⟩:=pre;rw[<-hz,List.drop_append_of_le_length (by simp;lia),List.take_append_of_le_length (by simp;lia)]
   rw[e];exact h
  ·have h:=w (j+1) (by lia);rw[List.drop_succ_cons] at h;exact h
 ·rintro ⟨⟨f,w⟩,g,v⟩;refine ⟨A5o.mpr λb hb' z=>?_,λj hj=>?_⟩
  ·rw[t1,List.infix_cons_iff] at z;rcases z with z|z
   ·refine A5o.mp f b hb' ?_;rw[t2];exact (List.prefix_of_prefix_length_le z pre (by rw[D4];have:=hb b hb';simp;lia)).isInfix
   ·refine A5o.mp g b hb' ?_;rw[t3];exact z
  ·cases j with
   | zero=>rw[drop_zero,wu];exact hu
   | succ j=>rw[List.drop_succ_cons];exact v j (by lia)
open Classical in
noncomputable def okS (k:Nat) (bs:List Str) (n:Nat) (u:Str) (c:Nat):Bool:=decide (sts k bs n (u++G8 c))
def T5 (u:Str) (c:Nat):Str:=sl1 u++G8 c
theorem W7 {k:Nat} {bs:List Str} {u:Str} {c:Nat}:okS k bs n u c=true ↔ sts k bs n (u++G8 c):=by simp[okS]
theorem A9r {k:Nat} {bs:List Str} (hb:∀ b∈bs,b.length<=n+1) (hn:1<=n):∀ {x:Wd} {u:Str},Q4 k bs n u->(∀ c∈x,c∈A7 k)->(sts k bs n (u++sT x) ↔ (go (A7 k) (okS k bs n) T5 u x).isSome=true)
 | [],u,hu,_=>by
  have e:u++sT []=u:=ext (by rw[B3z,append_nil]);rw[e];exact ⟨λ_=>rfl,λ_=>C91 hu⟩
 | c::r,u,hu,hx=>by
  rw[C0x hb hn hu,go];constructor
  ·rintro ⟨h1,h2⟩;rw[qm ⟨hx c qu,W7.mpr h1⟩];exact (A9r hb hn (behind hu hn h1) λd hd=>hx d (qv _ hd)).mp h2
  ·intro h;split at h
   ·rename_i hh;have h1:=W7.mp hh.2;exact ⟨h1,(A9r hb hn (behind hu hn h1) λd hd=>hx d (qv _ hd)).mpr h⟩
   ·cases h
theorem C3t {k:Nat} {bs:List Str} (hn:1<=n):∀ {w:Wd} {u v:Str},Q4 k bs n u->go (A7 k) (okS k bs n) T5 u w=some v->Q4 k bs n v
 | [],u,v,hu,h=>by cases h;exact hu
 | c::r,u,v,hu,h=>by
  rw[go] at h;split at h
  ·rename_i hh;exact C3t hn (behind hu hn (W7.mp hh.2)) h
  ·cases h
theorem C1v {k:Nat} {ds rest:List Nat} {c:Nat} (h:A7 k=ds++c::rest):∀ d∈ds,d < c:=λd hd=>by
 have p:(A7 k).Pairwise (· < ·):=by
  unfold A7;exact pairwise_map.mpr (List.pairwise_lt_range.imp λh=>by lia)
 rw[h,List.pairwise_append] at p;exact p.2.2 d hd c qu
end M23
local macro_rules | `(tactic| walk_at "d") => `(tactic| repeat (first | with_reducible (first | refine DL.E28 ?_ | refine DL.D86 ?_ | refine DL.E25 ?_ | refine DL.E0n ?_ | refine DL.D7x ?_ | refine DL.D1n ?_ | refine DL.D35 ?_ | refine DL.D66 ?_ | refine DL.C5c ?_ | refine DL.D3o ?_ | refine DL.D0n ?_ | refine DL.D46 ?_ | refine DL.C8f rfl rfl ?_ | refine DL.C5w ?_ | refine DL.D3b ?_ | refine DL.D6r ?_ | refine DL.D7u ?_ | refine DL.D6m ?_ | refine DL.D67 ?_ | refine DL.C8p ?_ | refine DL.C66 ?_ | refine DL.D11 ?_ | refine DL.D26 ?_ | refine DL.D4n ?_ | refine DL.C6v ?_ | refine DL.E02 ?_ | refine DL.C7p ?_ | refine DL.D82 ?_ | refine DL.C0e ?_ | refine DL.D2r ?_ | refine DL.C6g ?_ | refine DL.D9t ?_ | refine DL.D58 ?_ | refine DL.D17 ?_ | refine DL.D9q ?_ | refine DL.D2e ?_ | refine DL.D7g ?_ | refine DL.D7l ?_ | refine DL.D8g ?_ | refine DL.E1h ?_ | refine DL.D96 ?_ | refine DL.D9a ?_ | refine DL.D9f ?_ | refine DL.D2m ?_ | refine DL.D2s ?_ | refine DL.D94 ?_ | refine DL.E01 ?_ | refine DL.w_c ?_ | refine DL.E0q ?_ | refine DL.D93 ?_ | refine DL.E1e ?_ | refine DL.D5m ?_ | refine DL.D2c ?_ | refine DL.D53 ?_ | refine DL.D7m ?_ | refine DL.D6w ?_ | refine DL.E03 ?_ | refine DL.D3a ?_ | refine DL.D6s ?_ | refine DL.D9i ?_ | refine DL.E0m ?_ | refine DL.E2g ?_ | refine DL.D6f ?_ | refine DL.D6l ?_ | refine DL.D4d ?_ | refine DL.D1e ?_ | refine DL.w_B ?_ | refine DL.D74 ?_ | refine DL.E22 ?_ | refine DL.w_not ?_ | refine DL.D3n ?_ | refine DL.D7w ?_ | refine DL.D4c ?_ | refine DL.D1x ?_ | refine DL.D4j ?_ | refine DL.C7l ?_ | refine DL.E00 ?_ | refine DL.D5i ?_ | refine DL.D1h ?_ | refine DL.D9x ?_ | refine DL.D9r ?_ | refine DL.C76 ?_ | refine DL.D39 ?_ | refine DL.E1n ?_ | refine DL.D8z ?_ | refine DL.D0k ?_ | refine DL.D1u ?_ | refine DL.D16 ?_ | refine DL.D97 ?_ | refine DL.D4e ?_ | refine DL.D4x ?_ | refine DL.D9y ?_ | refine DL.E13 ?_ | refine DL.C40 ?_ | refine DL.D1d ?_ | refine DL.D8p ?_ | refine DL.C6l ?_ | refine DL.D51 ?_ | refine DL.C6i ?_ | refine DL.D5q ?_ | refine DL.D99 ?_ | refine DL.E29 ?_ | refine DL.E2c ?_ | refine DL.E1a ?_ | refine DL.D80 ?_ | refine DL.D5f ?_ | refine DL.D8x ?_ | refine DL.D8q ?_ | refine DL.C53 ?_ | refine DL.E1j ?_ | refine DL.D5o ?_ | refine DL.D2g ?_ | refine DL.D7y ?_ | refine DL.D9p ?_ | refine DL.D71 ?_ | refine DL.D9b ?_ | refine DL.D8a ?_ | refine DL.D8t ?_ | refine DL.E1p ?_ | refine DL.E1m ?_ | refine DL.E0v ?_ | refine DL.E0x ?_ | refine DL.E20 ?_ | refine DL.E14 ?_ | refine DL.E1t ?_ | refine DL.E1u ?_ | refine DL.E1y ?_ | refine DL.E1c ?_ | refine DL.D92 ?_ | refine DL.D69 ?_ | refine DL.D6i ?_ | refine DL.D9g ?_ | refine DL.D8u ?_ | refine DL.D8w ?_ | refine DL.E1r ?_ | refine DL.E2e ?_ | refine DL.E0t ?_ | refine DL.E2d ?_ | refine DL.E0y ?_ | refine DL.E1l ?_ | refine DL.D8j ?_) | ((with_reducible refine And.intro ?c ?_); (case c => first | exact trivial | exact Nat.le_of_ble_eq_true rfl | decide | (unfold L2.D2o; decide) | (unfold L2.D3r; decide) | exact L2.B0f.ok (.inl ⟨by decide, by decide⟩) | exact L2.B0f.ok (.inr ⟨by decide, by decide⟩) | exact rfl | omega)) | simp only [DL.B3b, DL.B8d, DL.B7b, DL.B70, DL.B8v, DL.C5l, DL.C4b, DL.B7c, DL.B9z, DL.B98, DL.C3h, DL.C2c, DL.C2j, DL.B8p, DL.B6o, DL.B6j, DL.B71, DL.B6p, DL.B6v, DL.C1b, DL.C7x, DL.C1h, DL.C64, DL.C7v, DL.C8e, DL.C74, DL.R6, DL.B7e, DL.B7d, DL.C0c, DL.C2b, DL.D45, DL.two_iD, DL.B7w, DL.B8j, DL.C6d, DL.D5c, DL.D13, DL.B94, DL.C1c, DL.B8u, DL.B3d, DL.D0m, DL.D1y, DL.C8g, DL.C60, DL.C31, DL.C62, DL.B7z, DL.B7k, DL.B6n, DL.B32, DL.C97, DL.C1f, DL.C65, DL.B5g, DL.C7i, DL.D3j, DL.D0o, DL.B4c, DL.B3n, DL.C33, DL.B88, DL.B07, DL.B3u, DL.D47, DL.D1t, DL.C8d, DL.C5f, DL.C0n, DL.B7i, DL.B9s, DL.C3c, DL.B8r, DL.W8, DL.B80, DL.A52, DL.C7s, DL.C6u, List.set_cons_zero, List.set_cons_succ, append_nil, List.nil_append, Bool.and_true, Bool.true_and, Bool.and_self, Bool.not_true, Bool.not_false, DL.B1q, DL.A6m, map_cons, List.map_nil, List.cons_append, List.getElem?_cons_zero, List.getElem?_cons_succ, Option.join_some, Option.map_some, all_cons, List.all_nil]))
local macro_rules | `(tactic| walk_at "sc") => `(tactic| exact ⟨rfl, rfl, rfl, by decide +kernel, rfl, by decide +kernel, by decide +kernel⟩)
namespace K23
open L2 DL
def top (i : Nat) : Stmt := PySem.Challenge.pw_foreverrows_k23_bridges.main.body.getD i (.Pass ⟨0, 0, 0, 0⟩)
structure Blt (mg:Str->Option Value):Prop where
 len:mg "len"=none
 range:mg "range"=none
 list:mg "list"=none
 int:mg "int"=none
 bool:mg "bool"=none
 isinstance:mg "isinstance"=none
 any:mg "any"=none
 all:mg "all"=none
 sorted:mg "sorted"=none
 max:mg "max"=none
 ValueError:mg "ValueError"=none
variable {fd:FuncData} {n c j:Nat} {us:List Str} {s:Str × Str} {L:List (Str × Wd)} {u:Str} {mg:Str->Option Value} {K:W.Frag} {C:List Value->Prop} {h:Heap} {l:W.OpenLaw}
section
variable {P:Program} {w:World} {K:W.Frag} {mg:Str->Option Value} {base:Heap}
def scr (ns:List Int):D:=.dict [(.none,.list (ns.map .int))]
abbrev A0l:Stmt:=top 28
theorem A9e:C0 ["_law_script","_law_k"] ["_law_script","_law_k"] (B1 A0l):=by walk_at "sc"
def A94:W1:=λds Q _=>∃ (ns:List Int) (k:Int),ds=[scr ns,.int k]/\0<=k/\∀ z:Int,Q (.int z) true
theorem A98 {f:Addr} (F:W2 K "_law_cell_at" "_law_cell_at" A0l f fd) (T:Blt mg):I0 P w K mg base Z2 1 f fd ["_law_script","_law_k"] (G6 K A94):=by
 refine ok0 F A9e (λds Q X h=>?_) (λcdv A outer s H E hr=>?_) λds Qd Xd h=>h
 ·obtain ⟨ns,k,rfl,_⟩:=h;rfl
 refine ⟨_,(A1 (D6 (D3 A7x (B0 1) (B3 (A0m (by rfl)) (by rfl) (by exact T.len) (by decide +kernel) (A0 (B0 0) A2)) (E7 _)) (A6 (B4 (J6 (dix (by rfl)) (B0 0) (B0 1) (λ_ _=>rfl)))) B9)
   (A6 (B4 A4))),λds Qd h=>?_⟩
 obtain ⟨ns,k,rfl,hk,q⟩:=h;show (_:L1) _ [some (false,.dict [(.none,.list (ns.map .int))]),some (false,.int k)] _;cbv;refine B6k (λh1=>?_) λ_=>?_
 ·cbv;have hlt:k.toNat < ns.length:=by simp at h1;lia
  refine ⟨.int ns[k.toNat],?_,?_⟩
  ·have:=L5 (xs:=ns.map PyData.int) (j:=k.toNat) (v:=PyData.int ns[k.toNat]) (by simp[hlt]);rw[show ((k.toNat:Nat):Int)=k from Int.toNat_of_nonneg hk] at this;exact this
  ·exact q _
 ·cbv;exact q _
abbrev A8k:Stmt:=top 29
theorem R5:C0 ["_law_script","_law_at","_law_cell","_law_primes","_law_big_here","_law_k","_law_one"] ["_law_script","_law_at"] (B1 A8k):=by walk_at "sc"
def B4j:W1:=λds Q _=>∃ (ns:List Int) (k:Int),ds=[scr ns,.int k]/\0<=k/\∀ z:Int,0<=z->Q (.int z) true
theorem C24 {f:Addr} (F:W2 K "_law_big" "_law_big" A8k f fd) (T:Blt mg) (D_l_cell_at:Df P w K mg base "_law_cell_at" ["_law_script","_law_k"] 1 (G6 K A94)):I0 P w K mg base Z2 2 f fd ["_law_script","_law_at"] (G6 K B4j):=by
 refine ok0 F R5 (λds Q X h=>?_) (λcdv A outer s H E hr=>?_) λds Qd Xd h=>h
 ·obtain ⟨ns,k,rfl,_⟩:=h;rfl
 refine ⟨_,(A1 (B7 2 R5.nd (C7 (by exact D_l_cell_at) (by exact hr.mono (by lia)) (A0 (B0 0) (A0 (B0 1) A2))))
   (A1 (D6 (D3 D43 (B0 2) (A8 B68 A4 A4) (E7 _)) (A6 (B4 (B0 2))) B9)
   (A1 (B7 3 R5.nd (D9 (C0g (by rfl))))
   (A1 (B7 4 R5.nd A4)
   (A1 (G0 PassesOwn.never rfl (K2 (by rfl) (by exact T.range) (A0 A4 A2)) (J9 5 R5.nd) (A1 (B7 6 R5.nd (A8 C3 (A8 C3 (A8 D7 (C7 (by exact D_l_cell_at) (by exact hr.mono (by lia)) (A0 (B0 0) (A0 (A8 C3 (B0 1) (A8 D7 (B0 5) A4)) A2))) (A8 B68 A4 A4)) (A8 T7 A4 (B0 5))) A4))
   (A6 (B7 4 R5.nd (A8 C3 (A8 T7 (B0 4) A4) (A8 D7 (A8 T7 (A8 D7 (A8 C3 (A8 T7 (B0 6) (B0 6)) (A8 T7 A4 (B0 5))) (J6 (dix (by rfl)) (B0 3) (A8 D7 (B0 5) A4) (λ_ _=>rfl))) (A8 C3 (B0 5) A4)) A4))))))
   (A6 (B4 (B0 4)))))))),λds Qd h=>?_⟩
 obtain ⟨ns,k,rfl,hk,q⟩:=h;show (_:L1) _ [some (false,scr ns),some (false,.int k),none,none,none,none,none] _;cbv;refine ⟨ns,k,rfl,hk,λz=>?_⟩;cbv;refine B6k (λh1=>?_) λh1=>?_
 ·cbv;refine q z ?_;have:(0:Int)<=10 ^ Int.toNat 18:=by decide
  simp at h1;lia
 cbv;refine A1e (λi O=>∃ (b:Int) (x y:Option (Bool × D)),O=[some (false,scr ns),some (false,.int k),some (false,.int z),some (false,.tuple [.int 99989,.int 99971,.int 99961,.int 99929,.int 99923,.int 99907,.int 99901,.int 99881,.int 99877]),some (false,.int b),x,y]/\0<=b) ⟨0,_,_,rfl,by decide⟩ ?_ ?_
 ·rintro i O hi ⟨b,x,y,rfl,hb⟩;cbv;have h9:=Int.emod_nonneg (0+(i:Int)) (show (9:Int)≠0 by decide);have h9':=Int.emod_lt_of_pos (0+(i:Int)) (show (0:Int) < 9 by decide);refine ⟨ns,_,rfl,by lia,λc=>?_⟩;cbv;have c1:(10:Int) ^ Int.toNat 18=1000000000000000000:=by decide
  rw[c1];have hi':i < 64:=hi;have h0:=Int.emod_nonneg c (show (1000000000000000000:Int)≠0 by decide);have h1:=Int.emod_lt_of_pos c (show (0:Int) < 1000000000000000000 by decide);refine ⟨B0f.ok (.inl ⟨by lia,by lia⟩),?_⟩;cbv;obtain ⟨m,hm,em⟩:∃ m:Nat,m < 9/\(0+(i:Int)) % 9=(m:Int):=⟨((0+(i:Int)) % 9).toNat,by lia,by lia⟩;obtain ⟨pr,hpr,hpp⟩:∃ pr:Int,[PyData.int 99989,.int 99971,.int 99961,.int 99929,.int 99923,.int 99907,.int 99901,.int 99881,.int 99877][m]?=some (PyData.int pr)/\0 < pr/\pr < 100000:=by
   match m,hm with
   | 0,_=>exact ⟨_,rfl,by decide,by decide⟩
   | 1,_=>exact ⟨_,rfl,by decide,by decide⟩
   | 2,_=>exact ⟨_,rfl,by decide,by decide⟩
   | 3,_=>exact ⟨_,rfl,by decide,by decide⟩
   | 4,_=>exact ⟨_,rfl,by decide,by decide⟩
   | 5,_=>exact ⟨_,rfl,by decide,by decide⟩
   | 6,_=>exact ⟨_,rfl,by decide,by decide⟩
   | 7,_=>exact ⟨_,rfl,by decide,by decide⟩
   | 8,_=>exact ⟨_,rfl,by decide,by decide⟩
  refine ⟨.int pr,by rw[em];exact L5 hpr,?_⟩;cbv;refine ⟨B0f.ok (.inr ⟨by lia,by lia⟩),?_⟩;cbv;refine ⟨_,_,_,rfl,?_⟩;have:=Int.emod_nonneg (((c % 1000000000000000000+7*(0+(i:Int))+1)*(c % 1000000000000000000+7*(0+(i:Int))+1)+31*(0+(i:Int))) % pr*(0+(i:Int)+3)) (show (8191:Int)≠0 by decide);lia
 ·rintro O ⟨b,x,y,rfl,hb⟩;cbv;exact q b hb
def InL (k:Nat) (c:Nat):Prop:=97<=c/\c < 97+k
def Let (k:Nat) (z:Str):Prop:=z.length=k/\∀ c∈z.cps.toList,InL k c
def bD (bs:List Str):D:=.list (bs.map .str)
theorem B40 {k:Nat} (h:k=2\/k=3\/k=4):Let k (Txt.slice (Str.ofString "abcd") none (some (k:Int))):=by
 rcases h with rfl|rfl|rfl
 ·have e:Txt.slice (Str.ofString "abcd") none (some ((2:Nat):Int))=⟨#[97,98]⟩:=by decide +kernel
  rw[e];exact ⟨rfl,by unfold InL;decide⟩
 ·have e:Txt.slice (Str.ofString "abcd") none (some ((3:Nat):Int))=⟨#[97,98,99]⟩:=by decide +kernel
  rw[e];exact ⟨rfl,by unfold InL;decide⟩
 ·have e:Txt.slice (Str.ofString "abcd") none (some ((4:Nat):Int))=⟨#[97,98,99,100]⟩:=by decide +kernel
  rw[e];exact ⟨rfl,by unfold InL;decide⟩
theorem A3w (a b:Str):(a++b).cps.toList=a.cps.toList++b.cps.toList:=by
 show (a.cps++b.cps).toList=_;simp
theorem U3 (a b:Str):(a++b).length=a.length+b.length:=by
 show (a.cps++b.cps).size=_;rw[Array.size_append];rfl
theorem C2i {α:Type} {l:List α} {z:Int} (h:0<=z) (h':z < l.length):∃ c,c∈l/\atI l z=some c:=by
 obtain ⟨j,rfl⟩:∃ j:Nat,z=j:=⟨z.toNat,by lia⟩;have hj:j < l.length:=by lia
 exact ⟨l[j],List.getElem_mem hj,L5 (zd hj)⟩
abbrev A61:Stmt:=top 30
theorem V4:C0 ["_law_big_here","_law_letters","_law_many","_law_word_here","_law_k"] ["_law_big_here","_law_letters","_law_many"] (B1 A61):=by walk_at "sc"
def A4a:W1:=λds Q _=>∃ (b:Int) (z:Str) (k n:Nat),ds=[.int b,.str z,.int n]/\0<=b/\Let k z/\1<=k/\k<=4/\n<=10/\∀ (x:Str) (b':Int),x.length=n->(∀ c∈x.cps.toList,InL k c)->0<=b'->Q (.tuple [.str x,.int b']) true
theorem B8b {f:Addr} (F:W2 K "_law_word" "_law_word" A61 f fd) (T:Blt mg):I0 P w K mg base Z2 1 f fd ["_law_big_here","_law_letters","_law_many"] (G6 K A4a):=by
 refine ok0 F V4 (λds Q X h=>?_) (λcdv A outer s H E hr=>?_) λds Qd Xd h=>h
 ·obtain ⟨b,z,k,n,rfl,_⟩:=h;rfl
 refine ⟨_,(A1 (B7 3 V4.nd C5)
   (A1 (G0 PassesOwn.never rfl (K2 (by rfl) (by exact T.range) (A0 (B0 2) A2)) (J9 4 V4.nd) (A1 (B7 3 V4.nd (A8 C3 (B0 3) (J6 D95 (B0 1) (A8 D7 (B0 0) (B3 N9 (by rfl) (by exact T.len) (by decide +kernel) (A0 (B0 1) A2))) (λ_ _=>rfl))))
   (A6 (B7 0 V4.nd (A8 A2v (B0 0) (B3 N9 (by rfl) (by exact T.len) (by decide +kernel) (A0 (B0 1) A2)))))))
   (A6 (B4 (D9 (A0 (B0 3) (A0 (B0 0) A2))))))),λds Qd h=>?_⟩
 obtain ⟨b,z,k,n,rfl,hb,hz,hk1,hk4,hn,q⟩:=h;show (_:L1) _ [some (false,.int b),some (false,.str z),some (false,.int n),none,none] _;cbv;refine A1e (λi O=>∃ (bb:Int) (x:Str) (y:Option (Bool × D)),O=[some (false,.int bb),some (false,.str z),some (false,.int n),some (false,.str x),y]/\0<=bb/\x.length=i/\∀ c∈x.cps.toList,InL k c) ⟨b,_,_,rfl,hb,rfl,λ_ z=>by cases z⟩ ?_ ?_
 ·rintro i O hi ⟨bb,x,y,rfl,hbb,hx1,hx2⟩;have hzl:=hz.1;have h0:(0:Int) < (z.length:Int):=by lia
  have hi':i < n:=by simpa using hi
  cbv;obtain ⟨c,hc,ec⟩:=C2i (l:=z.cps.toList) (z:=bb % (z.length:Int)) (Int.emod_nonneg _ (Int.ne_of_gt h0)) (by have:=Int.emod_lt_of_pos bb h0;rw[qj];exact this);refine ⟨c,ec,?_⟩;cbv;refine ⟨by have:Str.length ⟨#[c]⟩=1:=rfl;lia,?_⟩;cbv;refine ⟨⟨h0,10,by decide,by lia⟩,_,_,_,rfl,Int.ediv_nonneg hbb (by lia),by rw[U3,hx1];rfl,λd hd=>?_⟩;rw[A3w] at hd;rcases zj.mp hd with hd|hd
  ·exact hx2 d hd
  ·have e:d=c:=by simpa using hd
   rw[e];exact hz.2 c hc
 ·rintro O ⟨bb,x,y,rfl,hbb,hx1,hx2⟩;cbv;exact q _ _ (by rw[hx1];simp) hx2 hbb
abbrev A1j:Stmt:=top 9
theorem B12:C0 ["thing"] ["thing"] (B1 A1j):=by walk_at "sc"
def A4v:W1:=λds Q _=>∃ i:Int,ds=[.int i]/\Q (.bool true) true
theorem B1p {f:Addr} (F:W2 K "is_whole" "is_whole" A1j f fd) (T:Blt mg):I0 P w K mg base Z2 1 f fd ["thing"] (G6 K A4v):=by
 refine ok0 F B12 (λds Q X h=>?_) (λcdv A outer s H E hr=>?_) λds Qd Xd h=>h
 ·obtain ⟨i,rfl,_⟩:=h;rfl
 refine ⟨_,(A6 (B4 (X8 (B5s (by rfl) C7b (by rfl) (by exact T.isinstance) (B0 0) (by rfl) (by exact T.int) (by decide +kernel)) (X7 (A9j (B5s (by rfl) B9u (by rfl) (by exact T.isinstance) (B0 0) (by rfl) (by exact T.bool) (by decide +kernel))))))),λds Qd h=>?_⟩;obtain ⟨i,rfl,q⟩:=h;show (_:L1) _ [some (false,.int i)] _;cbv;rw[qm (by rfl)];cbv;exact q
def Sml (bs:List Str):Prop:=bs.length<=100/\∀ b∈bs,b.length<=100
def W0 (bs:List Str):List Int:=bs.map λb=>(b.length:Int)
def mx2 (ns:List Int):Int:=ns.foldl (λm x=>if x > m then x else m) 2
theorem A4c:∀ (ns:List Int) (m:Int),m<=ns.foldl (λm x=>if x > m then x else m) m/\∀ x∈ns,x<=ns.foldl (λm x=>if x > m then x else m) m
 | [],m=>⟨Int.le_refl _,λ_ z=>by cases z⟩
 | y::r,m=>by
  have h:=A4c r (if y > m then y else m);rw[List.foldl_cons];have h1:m<=(if y > m then y else m):=by split<;>lia
  have h2:y<=(if y > m then y else m):=by split<;>lia
  refine ⟨Int.le_trans h1 h.1,λx hx=>?_⟩;rcases zk.mp hx with rfl|hx
  ·exact Int.le_trans h2 h.1
  ·exact h.2 x hx
theorem A9k:∀ (ns:List Int) (m:Int),ns.foldl (λm x=>if x > m then x else m) m=m\/ns.foldl (λm x=>if x > m then x else m) m∈ns
 | [],m=>.inl rfl
 | y::r,m=>by
  rw[List.foldl_cons];rcases A9k r (if y > m then y else m) with h|h
  ·rw[h];split
   ·exact .inr qu
   ·exact .inl rfl
  ·exact .inr (qv _ h)
def W6 (bs:List Str):Int:=mx2 (W0 bs) - 1
theorem D3i {bs:List Str} {M:Int} (h1:W0 bs=[]->M=1) (h2:W0 bs≠[]->M∈W0 bs/\∀ x∈W0 bs,x<=M):(if 1 > M - 1 then 1 else M - 1)=W6 bs:=by
 unfold W6 mx2;have g:=A4c (W0 bs) 2;have i:=A9k (W0 bs) 2;by_cases e:W0 bs=[]
 ·rw[h1 e,e];rfl
 ·obtain ⟨a,b⟩:=h2 e;have c:=g.2 M a;rcases i with i|i
  ·rw[i] at c ⊢;split<;>lia
  ·have d:=b _ i;have:=g.1;split<;>lia
theorem A7s (bs:List Str):1<=W6 bs:=by
 have:=(A4c (W0 bs) 2).1;unfold W6 mx2;lia
theorem B4d {bs:List Str} {m:Int} (hm:2<=m) (h:∀ b∈bs,(b.length:Int)<=m):W6 bs<=m - 1:=by
 unfold W6 mx2;rcases A9k (W0 bs) 2 with i|i
 ·rw[i];lia
 ·obtain ⟨b,hb,e⟩:=zg.mp i;have:=h b hb;lia
abbrev U9:Stmt:=top 19
theorem A0h:C0 ["bars","longest"] ["bars"] (B1 U9):=by walk_at "sc"
def B4p:W1:=λds Q _=>∃ bs:List Str,ds=[bD bs]/\Sml bs/\Q (.int (W6 bs)) true
theorem A4w {f:Addr} (F:W2 K "plain_width" "plain_width" U9 f fd) (T:Blt mg):I0 P w K mg base Z2 1 f fd ["bars"] (G6 K B4p):=by
 refine ok0 F A0h (λds Q X h=>?_) (λcdv A outer s H E hr=>?_) λds Qd Xd h=>h
 ·obtain ⟨bs,rfl,_⟩:=h;rfl
 refine ⟨_,(A1 (B7 1 A0h.nd (C3d (by rfl) (by rfl) (by rfl) (by exact T.max) (A0 (S9 ["bar"] [] rfl (C2.of (by kernel_rfl)) (D1 (by rfl) (B0 0)) (λ_ _ _ _=>⟨(J9 0 (N2 (by kernel_rfl))),G3,(G4 (by rfl) (by rfl) (B3 N9 (by rfl) (by exact T.len) (by decide +kernel) (A0 (B0 0) A2)))⟩)) A2)))
   (A6 (B4 (B3 (B6f (by rfl) (by rfl)) (by rfl) (by exact T.max) (by decide +kernel) (A0 (A8 N6 (B0 1) A4) (A0 A4 A2)))))),λds Qd h=>?_⟩
 obtain ⟨bs,rfl,hs,q⟩:=h;show (_:L1) _ [some (false,.list (bs.map .str)),none] _;cbv;refine L6 (L:=bs) PyData.str (λb=>.int (b.length:Int)) (λb hb es Q' hl q'=>?_) (by have:=hs.1;lia) ?_
 ·have:=hs.2 b hb;cbv;exact q'
 ·rw[show (bs.map λb=>PyData.int (b.length:Int))=(W0 bs).map PyData.int from by unfold W0;rw[map_map];rfl];cbv;refine ⟨W0 bs,A7b _,λM m1 m2=>?_⟩;cbv;rw[D3i m1 m2];exact q
def GB (k:Int) (b:Str):Prop:=1<=b.length/\b.length<=6/\∀ c∈b.cps.toList,97<=c/\(c:Int) < 97+k
def L4 (k:Int) (bs:List Str):Prop:=(2<=k/\k<=4)/\bs.length<=12/\∀ b∈bs,GB k b
def SIG:List D:=[.str "a",.str "b",.str "c",.str "d"]
theorem D48 {k:Int} (h:2<=k/\k<=4) (c:Nat):inD (.str ⟨#[c]⟩) (A0x SIG none (some k))=decide (97<=c/\(c:Int) < 97+k):=by
 have h3:k=2\/k=3\/k=4:=by lia
 have ea:Str.ofString "a"=⟨#[97]⟩:=by decide +kernel
 have eb:Str.ofString "b"=⟨#[98]⟩:=by decide +kernel
 have ec:Str.ofString "c"=⟨#[99]⟩:=by decide +kernel
 have ed:Str.ofString "d"=⟨#[100]⟩:=by decide +kernel
 have q:∀ x:Nat,(PyData.str ⟨#[x]⟩).eqv (.str ⟨#[c]⟩)=decide (x=c):=λx=>by
  rw[zu];simp[PyData.eqv]
 rcases h3 with rfl|rfl|rfl
 ·show inD _ [.str (Str.ofString "a"),.str (Str.ofString "b")]=_;rw[ea,eb];unfold inD;simp only[any_cons,List.any_nil,q];rw[zu];simp;lia
 ·show inD _ [.str (Str.ofString "a"),.str (Str.ofString "b"),.str (Str.ofString "c")]=_;rw[ea,eb,ec];unfold inD;simp only[any_cons,List.any_nil,q];rw[zu];simp;lia
 ·show inD _ [.str (Str.ofString "a"),.str (Str.ofString "b"),.str (Str.ofString "c"),.str (Str.ofString "d")]=_;rw[ea,eb,ec,ed];unfold inD;simp only[any_cons,List.any_nil,q];rw[zu];simp;lia
theorem O9 {α:Type} (f:α->Bool) (r:List α):A1c (r.map λx=>PyData.bool (f x))=some (r.map f):=by
 induction r with
 | nil=>rfl
 | cons x r ih=>simp[A1c,ih]
theorem B9t (k:Int):(A0x SIG none (some k)).all O6=true:=by
 have h:∀ d∈SIG,O6 d=true:=by intro d hd;simp[SIG] at hd;rcases hd with rfl|rfl|rfl|rfl<;>rfl
 exact all_eq_true.mpr λd hd=>h d (mem_of_mem_drop (mem_of_mem_take hd))
theorem B55 {α:Type} {f:α->Prop} [DecidablePred f] {l:List α}:((l.map λc=>!decide (f c)).any id=true) ↔ ¬ ∀ c∈l,f c:=by
 rw[any_eq_true];constructor
 ·rintro ⟨b,hb,e⟩ h;obtain ⟨c,hc,rfl⟩:=zg.mp hb;have:=h c hc;simp[this] at e
 ·intro h;apply Classical.byContradiction;intro n;refine h λc hc=>?_;apply Classical.byContradiction;intro m;exact n ⟨!decide (f c),zg.mpr ⟨c,hc,rfl⟩,by simp[m]⟩
abbrev S0:Stmt:=top 18
theorem Y3:C0 ["signs","bars","bar"] ["signs","bars"] (B1 S0):=by walk_at "sc"
def B30 (cA:Addr):W1:=λds Q X=>∃ (k:Int) (bs:List Str),ds=[.int k,bD bs]/\Sml bs/\(L4 k bs->Q .none true)/\(¬ L4 k bs->X cA)
theorem A3p {f:Addr} (F:W2 K "require_bars" "require_bars" S0 f fd) (T:Blt mg) (C_NoBars:W4 K mg "NoBars" cA) (G_SIGNS:A9y K mg "SIGNS" SIG) (G_FEWEST_SIGNS:A9h mg "FEWEST_SIGNS" 2) (G_MOST_BARS:A9h mg "MOST_BARS" 12) (G_LONGEST_BAR:A9h mg "LONGEST_BAR" 6) (D_is_whole:Df P w K mg base "is_whole" ["thing"] 1 (G6 K A4v)):I0 P w K mg base (CXE P w base) 2 f fd ["signs","bars"] (G6 K (B30 cA)):=by
 refine okE F Y3 (λds Q X h=>?_) (λcdv A outer s H E hr=>?_)
 ·obtain ⟨k,bs,rfl,_⟩:=h;rfl
 refine ⟨_,(A1 (D6 (dnT (A6s (A4f (A0q (N8 (C7 (by exact D_is_whole) (by exact hr.mono (by lia)) (A0 (B0 0) A2)))) (A3x (A0q (A7e B4w B4w (A27 (by exact G_FEWEST_SIGNS) (by rfl)) (B0 0) (B3 (A0m (by rfl)) (by rfl) (by exact T.len) (by decide +kernel) (A0 (V6 (by exact G_SIGNS) (by rfl)) A2)))))))) (A6 (R3 P4 (by rfl) (by exact C_NoBars) (by rfl) (A0 C5 A2))) B9)
   (A1 (D6 (dnT (D3 B2l (B3 (A0m (by rfl)) (by rfl) (by exact T.len) (by decide +kernel) (A0 (B0 1) A2)) (A27 (by exact G_MOST_BARS) (by rfl)) (E7 _))) (A6 (R3 P4 (by rfl) (by exact C_NoBars) (by rfl) (A0 C5 A2))) B9)
   (A6 (P6 1 (G0 PassesOwn.leaving rfl (D1 (by rfl) (B0 1)) (J9 2 Y3.nd) (A1 (D6 (dnT (A0q (A7e B4w B4w A4 (B3 N9 (by rfl) (by exact T.len) (by decide +kernel) (A0 (B0 2) A2)) (A27 (by exact G_LONGEST_BAR) (by rfl))))) (A6 (R3 P4 (by rfl) (by exact C_NoBars) (by rfl) (A0 C5 A2))) B9)
   (A6 (D6 (dnT (N8 (B3 (A21 (by rfl) (by rfl)) (by rfl) (by exact T.any) (by decide +kernel) (A0 (S9 ["sign"] [("signs",0)] rfl (C2.of (by kernel_rfl)) (A48 (B0 2)) (λ_ _ _ _=>⟨(J9 0 (N2 (by kernel_rfl))),G3,(G4 (by rfl) (by rfl) (X0 (A2u (by rfl)) (B0 0) (R8 (by rfl) (V6 (by exact G_SIGNS) (by rfl)) D5 (C8 (B0 1))) rfl))⟩)) A2)))) (A6 (R3 P4 (by rfl) (by exact C_NoBars) (by rfl) (A0 C5 A2))) B9)))))))),λds Qd Xd h=>?_⟩
 obtain ⟨k,bs,rfl,hs,q,x⟩:=h;show (_:L1) _ [some (false,.int k),some (false,.list (bs.map .str)),none] _;have hl:=hs.1;cbv;refine ⟨k,rfl,?_⟩;cbv;refine M6 (λh1=>?_) λh1=>?_
 rotate_left
 ·cbv;rw[qm trivial];cbv;exact x λc=>by simp at h1;have:=c.1.1;lia
 have h1:2<=k:=by simpa using h1
 cbv;refine M6 (λh2=>?_) λh2=>?_
 ·cbv;exact x λc=>by
   have e4:((SIG.length:Nat):Int)=4:=rfl;simp at h2;have:=c.1.2;lia
 have h2:k<=4:=by
  have e4:((SIG.length:Nat):Int)=4:=rfl;simp at h2;lia
 cbv;refine M6 (λh3=>?_) λh3=>?_
 ·cbv;exact x λc=>by simp at h3;have:=c.2.1;lia
 have h3:bs.length<=12:=by simp at h3;lia
 cbv;refine M5 (λj O=>∃ z:Option (Bool × D),O=[some (false,.int k),some (false,.list (bs.map .str)),z]/\∀ b∈bs.take j,GB k b) ⟨_,rfl,λ_ z=>by cases z⟩ ?_ ?_
 ·rintro j d O hd ⟨z,rfl,hj⟩;obtain ⟨b,hb,rfl⟩:∃ b,bs[j]?=some b/\d=.str b:=by
   rw[qk] at hd;cases e:bs[j]? with
   | none=>rw[e] at hd;cases hd
   | some r=>rw[e] at hd;cases hd;exact ⟨r,rfl,rfl⟩
  have hbm:b∈bs:=mem_iff_getElem?.mpr ⟨j,hb⟩;have hb1:=hs.2 b hbm;cbv;refine M6 (λh4=>?_) λh4=>?_
  rotate_left
  ·cbv;rw[qm trivial];cbv;exact x λc=>by simp at h4;have:=(c.2.2 b hbm).1;lia
  cbv;refine M6 (λh5=>?_) λh5=>?_
  ·cbv;exact x λc=>by simp at h5;have:=(c.2.2 b hbm).2.1;lia
  have h4:1<=b.length:=by simp at h4;lia
  have h5:b.length<=6:=by simp at h5;lia
  cbv;unfold DL.signs;refine L6 (L:=b.cps.toList) (λc=>PyData.str ⟨#[c]⟩) (λc=>.bool (!decide (97<=c/\(c:Int) < 97+k))) (λc hc es Q' hl' q'=>?_) (by rw[qj];have:b.cps.size=b.length:=rfl;lia) ?_
  ·cbv;rw[D48 ⟨h1,h2⟩];exact ⟨⟨rfl,B9t k⟩,hl',trivial,q'⟩
  ·cbv;refine ⟨_,O9 _ _,?_⟩;cbv;refine M6 (λh6=>?_) λh6=>?_
   ·cbv;exact x λc=>B55.mp h6 (c.2.2 b hbm).2.2
   ·have h6:∀ c∈b.cps.toList,97<=c/\(c:Int) < 97+k:=Classical.byContradiction λn=>absurd (B55.mpr n) (by rw[h6];exact qt);cbv;refine ⟨_,rfl,λy hy=>?_⟩;rw[List.take_succ,hb] at hy;rcases zj.mp hy with hy|hy
    ·exact hj y hy
    ·rw[zc.mp hy];exact ⟨h4,h5,h6⟩
 ·rintro O ⟨z,rfl,hj⟩;have hj:∀ b∈bs,GB k b:=λb hb=>hj b (by rw[qf,take_length];exact hb);cbv;exact q ⟨⟨h1,h2⟩,h3,hj⟩
def wds (k:Int) (bs:List Str):Int:=k ^ (W6 bs).toNat
theorem D1i {k:Int} (h:2<=k/\k<=4):∀ i:Nat,i<=5->0<=k ^ i/\k ^ i<=1024:=by
 have h3:k=2\/k=3\/k=4:=by lia
 rcases h3 with rfl|rfl|rfl<;>decide
abbrev A1h:Stmt:=top 16
theorem T4:C0 ["signs","bars","words","place"] ["signs","bars"] (B1 A1h):=by walk_at "sc"
def B2e (cA cN3:Addr):W1:=λds Q X=>∃ (k:Int) (bs:List Str),ds=[.int k,bD bs]/\Sml bs/\(L4 k bs->wds k bs<=128->Q (.bool true) true)/\(¬ L4 k bs->X cA)/\(L4 k bs->¬ wds k bs<=128->X cN3)
theorem B1z {f:Addr} (F:W2 K "vet_bars" "vet_bars" A1h f fd) (T:Blt mg) (C_TooMany:W4 K mg "TooMany" cN3) (G_MOST_WORDS:A9h mg "MOST_WORDS" 128) (D_require_bars:DfE P w K mg base "require_bars" ["signs","bars"] 2 (G6 K (B30 cA))) (D_plain_width:Df P w K mg base "plain_width" ["bars"] 1 (G6 K B4p)):I0 P w K mg base (CXE P w base) 3 f fd ["signs","bars"] (G6 K (B2e cA cN3)):=by
 refine okE F T4 (λds Q X h=>?_) (λcdv A outer s H E hr=>?_)
 ·obtain ⟨k,bs,rfl,_⟩:=h;rfl
 refine ⟨_,(A1 (B0x (A4d (by exact D_require_bars) B4x (by exact hr.mono (by lia)) (A0 (B0 0) (A0 (B0 1) A2))))
   (A1 (dnS (B7 2 T4.nd A4))
   (A1 (dnS (G0 PassesOwn.never rfl (K2 (by rfl) (by exact T.range) (A0 (C7 (by exact D_plain_width) (by exact hr.mono (by lia)) (A0 (B0 1) A2)) A2)) (J9 3 T4.nd) (A6 (B7 2 T4.nd (A8 T7 (B0 2) (B0 0))))))
   (A1 (D6 (dnT (D3 B2l (B0 2) (A27 (by exact G_MOST_WORDS) (by rfl)) (E7 _))) (A6 (R3 P4 (by rfl) (by exact C_TooMany) (by rfl) (A0 C5 A2))) B9)
   (A6 (dnS (B4 K9))))))),λds Qd Xd h=>?_⟩
 obtain ⟨k,bs,rfl,hs,q,x1,x2⟩:=h;show (_:L1) _ [some (false,.int k),some (false,bD bs),none,none] _;cbv;refine ⟨k,bs,rfl,hs,λhg=>?_,λhg=>?_⟩
 rotate_left
 ·exact x1 hg
 have hw:(W6 bs).toNat<=5:=by
  have:=B4d (bs:=bs) (m:=6) (by decide) λb hb=>by have:=(hg.2.2 b hb).2.1;lia
  lia
 cbv;refine ⟨bs,rfl,hs,?_⟩;have hwp:=A7s bs;cbv;refine A1e (λi O=>∃ z:Option (Bool × D),O=[some (false,.int k),some (false,bD bs),some (false,.int (k ^ i)),z]) ⟨_,by rw[Int.pow_zero]⟩ ?_ ?_
 ·rintro i O hi ⟨z,rfl⟩;have:=D1i hg.1 i (by lia);cbv;refine ⟨B0f.ok (.inl ⟨by lia,by lia⟩),?_⟩;cbv;exact ⟨_,by rw[Int.pow_succ]⟩
 ·rintro O ⟨z,rfl⟩;cbv;refine M6 (λh=>?_) λh=>?_
  ·cbv;exact x2 hg (by unfold wds;simp at h;lia)
  ·cbv;exact q hg (by unfold wds;simp at h;lia)
abbrev A1p:Stmt:=top 17
theorem B05:C0 ["signs","bars"] ["signs","bars"] (B1 A1p):=by walk_at "sc"
def B3w (cA cN3:Addr):W1:=λds Q X=>∃ (k:Int) (bs:List Str),ds=[.int k,bD bs]/\Sml bs/\(L4 k bs->wds k bs<=128->Q (.int (W6 bs)) true)/\(¬ L4 k bs->X cA)/\(L4 k bs->¬ wds k bs<=128->X cN3)
theorem B04 {f:Addr} (F:W2 K "width_of" "width_of" A1p f fd) (T:Blt mg) (D_vet_bars:DfE P w K mg base "vet_bars" ["signs","bars"] 3 (G6 K (B2e cA cN3))) (D_plain_width:Df P w K mg base "plain_width" ["bars"] 1 (G6 K B4p)):I0 P w K mg base (CXE P w base) 4 f fd ["signs","bars"] (G6 K (B3w cA cN3)):=by
 refine okE F B05 (λds Q X h=>?_) (λcdv A outer s H E hr=>?_)
 ·obtain ⟨k,bs,rfl,_⟩:=h;rfl
 refine ⟨_,(A1 (B0x (A4d (by exact D_vet_bars) B4x (by exact hr.mono (by lia)) (A0 (B0 0) (A0 (B0 1) A2))))
   (A6 (dnS (B4 (C7 (by exact D_plain_width) (by exact hr.mono (by lia)) (A0 (B0 1) A2)))))),λds Qd Xd h=>?_⟩
 obtain ⟨k,bs,rfl,hs,q,x1,x2⟩:=h;show (_:L1) _ [some (false,.int k),some (false,bD bs)] _;cbv;refine ⟨k,bs,rfl,hs,λhg hw=>?_,x1,x2⟩;cbv;refine ⟨bs,rfl,hs,?_⟩;cbv;exact q hg hw
end
open M20 M22
section
variable {P:Program} {w:World} {K:W.Frag} {mg:Str->Option Value} {base:Heap}
def K3 (k:Nat):Prop:=k=2\/k=3\/k=4
def wD (l:List Str):D:=.list (l.map .str)
theorem A3z {k:Nat} (h:K3 k):A0x SIG none (some (k:Int))=(A7 k).map λc=>PyData.str (G8 c):=by
 have ea:Str.ofString "a"=⟨#[97]⟩:=by decide +kernel
 have eb:Str.ofString "b"=⟨#[98]⟩:=by decide +kernel
 have ec:Str.ofString "c"=⟨#[99]⟩:=by decide +kernel
 have ed:Str.ofString "d"=⟨#[100]⟩:=by decide +kernel
 rcases h with rfl|rfl|rfl
 ·show [PyData.str (Str.ofString "a"),.str (Str.ofString "b")]=_;rw[ea,eb];rfl
 ·show [PyData.str (Str.ofString "a"),.str (Str.ofString "b"),.str (Str.ofString "c")]=_;rw[ea,eb,ec];rfl
 ·show [PyData.str (Str.ofString "a"),.str (Str.ofString "b"),.str (Str.ofString "c"),.str (Str.ofString "d")]=_;rw[ea,eb,ec,ed];rfl
theorem A40 (k:Nat):(A7 k).length=k:=by unfold A7;simp
theorem A1n {k:Nat} (h:K3 k) (hn:n<=6):k ^ n<=4096:=by
 have h1:k ^ n<=4 ^ n:=Nat.pow_le_pow_left (by rcases h with rfl|rfl|rfl<;>decide) n;have h2:4 ^ n<=4 ^ 6:=Nat.pow_le_pow_right (by decide) hn;have h3:4 ^ 6=4096:=by decide
 lia
theorem D05 (k n:Nat):(W k n).flatMap (λx=>((A7 k).map λc=>PyData.str (x++G8 c)))=(W k (n+1)).map PyData.str:=by
 rw[W,List.map_flatMap];congr 1;funext x;rw[map_map];rfl
abbrev A1q:Stmt:=top 22
theorem T3:C0 ["signs","width","words","place"] ["signs","width"] (B1 A1q):=by walk_at "sc"
def A5u:W1:=λds Q _=>∃ (k n:Nat),ds=[.int k,.int n]/\K3 k/\n<=5/\Q (wD (W k n)) true
theorem B0j {f:Addr} (F:W2 K "words_of" "words_of" A1q f fd) (T:Blt mg) (G_SIGNS:A9y K mg "SIGNS" SIG):I0 P w K mg base Z2 1 f fd ["signs","width"] (G6 K A5u):=by
 refine ok0 F T3 (λds Q X h=>?_) (λcdv A outer s H E hr=>?_) λds Qd Xd h=>h
 ·obtain ⟨k,n,rfl,_⟩:=h;rfl
 refine ⟨_,(A1 (B7 2 T3.nd (G5 (A0 C5 A2)))
   (A1 (G0 PassesOwn.never rfl (K2 (by rfl) (by exact T.range) (A0 (B0 1) A2)) (J9 3 T3.nd) (A6 (V9 (i:=2) (hN:=T3.nd) (hyi:=rfl) (hy:=rfl) (hc:=rfl) (own:=["word","sign"]) (cap:=[("signs",0)]) (L:=C2.of (by kernel_rfl)) (hi:=(D1 (by rfl) (B0 2))) (hin:=(λ_ _ _ _=>⟨(J9 0 (N2 (by kernel_rfl))),G3,(C82 (by rfl) (by rfl) (by rfl) (by exact λ_=>rfl) (A46 (by rfl) (R8 (by rfl) (V6 (by exact G_SIGNS) (by rfl)) D5 (C8 (B0 2)))) (J9 1 (N2 (by kernel_rfl))) G3 (G4 (by rfl) (by rfl) (A8 C3 (B0 0) (B0 1))))⟩)))))
   (A6 (B4 (B0 2))))),λds Qd h=>?_⟩
 obtain ⟨k,n,rfl,hk,hn,q⟩:=h;show (_:L1) _ [some (false,.int k),some (false,.int n),none,none] _;cbv;refine A1e (λi O=>∃ x:Option (Bool × D),O=[some (false,.int (k:Int)),some (false,.int (n:Int)),some (true,.list ((W k i).map .str)),x]) ⟨_,by
  have e:Str.ofString ""=⟨#[]⟩:=by decide +kernel
  show [_,_,some (true,PyData.list [PyData.str (Str.ofString "")]),_]=_;rw[e];rfl⟩ ?_ ?_
 ·rintro i O hi ⟨x,rfl⟩;have hi':i < n:=by simpa using hi
  have hp:=A1n hk (n:=i+1) (by lia);rw[<-A7h] at hp;cbv;refine B9g (L:=W k i) PyData.str (λx=>(A7 k).map λc=>PyData.str (x++G8 c)) (λx hx es Q' hl q'=>?_) (by rw[D05,qf];lia) ?_
  ·cbv;rw[A3z hk];rw[qf] at hl;refine C96 (λc:Nat=>PyData.str (G8 c)) (λc=>PyData.str (x++G8 c)) (A7 k) es (λc hc es Q' hl q'=>?_) (by lia) (by exact q');cbv;have:=(V1.mp hx).1;refine ⟨by show x.length+1<=_;lia,?_⟩
   first|exact q'|(cbv;first|exact q'|exact ⟨hl,rfl,q'⟩)
  ·rw[D05];cbv;exact ⟨_,rfl⟩
 ·rintro O ⟨x,rfl⟩;cbv;rw[show (n:Int).toNat=n from rfl];exact q
abbrev A32:Stmt:=top 23
theorem B2u:C0 ["word","bars"] ["word","bars"] (B1 A32):=by walk_at "sc"
def Q3:W1:=λds Q _=>∃ (x:Str) (bs:List Str),ds=[.str x,bD bs]/\bs.length<=100/\Q (.bool (fr bs x)) true
theorem D1w (bs:List Str) (x:Str):(!(bs.map λb=>has b x).any id)=fr bs x:=by
 unfold fr
 induction bs with
 | nil=>rfl
 | cons b r ih=>rw[map_cons,any_cons,all_cons,<-ih];cases has b x<;>simp
theorem B4f {f:Addr} (F:W2 K "is_free" "is_free" A32 f fd) (T:Blt mg):I0 P w K mg base Z2 1 f fd ["word","bars"] (G6 K Q3):=by
 refine ok0 F B2u (λds Q X h=>?_) (λcdv A outer s H E hr=>?_) λds Qd Xd h=>h
 ·obtain ⟨x,bs,rfl,_⟩:=h;rfl
 refine ⟨_,(A6 (B4 (A9j (B3 (A21 (by rfl) (by rfl)) (by rfl) (by exact T.any) (by decide +kernel) (A0 (S9 ["bar"] [("word",0)] rfl (C2.of (by kernel_rfl)) (D1 (by rfl) (B0 1)) (λ_ _ _ _=>⟨(J9 0 (N2 (by kernel_rfl))),G3,(G4 (by rfl) (by rfl) (X0 B54 (B0 0) (B0 1) rfl))⟩)) A2))))),λds Qd h=>?_⟩;obtain ⟨x,bs,rfl,hl,q⟩:=h;show (_:L1) _ [some (false,.str x),some (false,.list (bs.map .str))] _;cbv;refine L6 (L:=bs) PyData.str (λb=>.bool (has b x)) (λb hb es Q' hl q'=>?_) (by lia) ?_
 ·cbv;exact q'
 cbv;refine ⟨_,O9 _ _,?_⟩;cbv;rw[D1w];exact q
def tD (ks:List Str):List (C1 × D):=ks.map λt=>(Sum.inr t,.bool true)
theorem A2k (ks:List Str) (t:Str):(look (tD ks) (Sum.inr t)).isSome=decide (t∈ks):=by
 induction ks with
 | nil=>rfl
 | cons a r ih =>
  unfold look at ih ⊢;unfold tD at ih ⊢;rw[map_cons];by_cases e:a=t
  ·subst e;rw[List.find?_cons_of_pos (by simp)];simp
  ·rw[find?_cons_of_neg (by simpa using e),ih];have:t≠a:=λz=>e z.symm;simp[this]
abbrev M9:Stmt:=top 24
theorem J1:C0 ["signs","bars","kept","word","behind","ahead","follows"] ["signs","bars","kept","word"] (B1 M9):=by walk_at "sc"
def C3l:W1:=λds Q _=>∃ (k:Nat) (bs ks:List Str) (x:Str),ds=[.int k,bD bs,dFD (tD ks),.str x]/\K3 k/\bs.length<=100/\x.length<=100/\Q (.bool (both k bs ks x)) true
theorem A96 {α:Type} (l:List α) (f:α->Bool):(l.map f).any id=l.any f:=by
 induction l with
 | nil=>rfl
 | cons a r ih=>rw[map_cons,any_cons,any_cons,ih];rfl
theorem A0e {f:Addr} (F:W2 K "goes_on_both_ways" "goes_on_both_ways" M9 f fd) (T:Blt mg) (G_SIGNS:A9y K mg "SIGNS" SIG) (D_is_free:Df P w K mg base "is_free" ["word","bars"] 1 (G6 K Q3)):I0 P w K mg base Z2 2 f fd ["signs","bars","kept","word"] (G6 K C3l):=by
 refine ok0 F J1 (λds Q X h=>?_) (λcdv A outer s H E hr=>?_) λds Qd Xd h=>h
 ·obtain ⟨k,bs,ks,x,rfl,_⟩:=h;rfl
 refine ⟨_,(A1 (V9 (i:=4) (hN:=J1.nd) (hyi:=rfl) (hy:=rfl) (hc:=rfl) (own:=["sign"]) (cap:=[("word",3)]) (L:=C2.of (by kernel_rfl)) (hi:=(A46 (by rfl) (R8 (by rfl) (V6 (by exact G_SIGNS) (by rfl)) D5 (C8 (B0 0))))) (hin:=(λ_ _ _ _=>⟨(J9 0 (N2 (by kernel_rfl))),G3,(G4 (by rfl) (by rfl) (A8 C3 (B0 1) (B0 0)))⟩)))
   (A1 (V9 (i:=5) (hN:=J1.nd) (hyi:=rfl) (hy:=rfl) (hc:=rfl) (own:=["sign"]) (cap:=[("word",3)]) (L:=C2.of (by kernel_rfl)) (hi:=(A46 (by rfl) (R8 (by rfl) (V6 (by exact G_SIGNS) (by rfl)) D5 (C8 (B0 0))))) (hin:=(λ_ _ _ _=>⟨(J9 0 (N2 (by kernel_rfl))),G3,(G4 (by rfl) (by rfl) (A8 C3 (B0 0) (B0 1)))⟩)))
   (A1 (B7 6 J1.nd (B3 (A21 (by rfl) (by rfl)) (by rfl) (by exact T.any) (by decide +kernel) (A0 (S9 ["longer"] [("kept",2),("bars",1)] rfl (C2.of (by kernel_rfl)) (D1 (by rfl) (B0 4)) (λ_ _ _ _=>⟨(J9 0 (N2 (by kernel_rfl))),G3,(G4 (by rfl) (by rfl) (X8 (B0b (by exact qq (zh (by decide) _) hr.units) (K1 (D8 (B0 0) (C8 A4) D5)) (B0 1) (by rfl)) (X7 (C7 (by exact D_is_free) (by exact hr.mono (by lia)) (A0 (B0 0) (A0 (B0 2) A2))))))⟩)) A2)))
   (A6 (B4 (X8 (B0 6) (X7 (B3 (A21 (by rfl) (by rfl)) (by rfl) (by exact T.any) (by decide +kernel) (A0 (S9 ["longer"] [("kept",2),("bars",1)] rfl (C2.of (by kernel_rfl)) (D1 (by rfl) (B0 5)) (λ_ _ _ _=>⟨(J9 0 (N2 (by kernel_rfl))),G3,(G4 (by rfl) (by rfl) (X8 (B0b (by exact qq (zh (by decide) _) hr.units) (K1 (D8 (B0 0) D5 (C8 (A8f A4)))) (B0 1) (by rfl)) (X7 (C7 (by exact D_is_free) (by exact hr.mono (by lia)) (A0 (B0 0) (A0 (B0 2) A2))))))⟩)) A2))))))))),λds Qd h=>?_⟩
 obtain ⟨k,bs,ks,x,rfl,hk,hl,hx,q⟩:=h;show (_:L1) _ [some (false,.int k),some (false,bD bs),some (false,dFD (tD ks)),some (false,.str x),none,none,none] _;have hk4:k<=4:=by rcases hk with rfl|rfl|rfl<;>decide
 have hll:=A40 k;cbv;rw[A3z hk];refine L6 (L:=A7 k) (λc=>PyData.str (G8 c)) (λc=>.str (x++G8 c)) (λc hc es Q' hl q'=>?_) (by lia) ?_
 ·cbv;refine ⟨by show x.length+1<=_;lia,?_⟩
  first|exact q'|(cbv;first|exact q'|exact ⟨hl,rfl,q'⟩)
 cbv;rw[A3z hk];refine L6 (L:=A7 k) (λc=>PyData.str (G8 c)) (λc=>.str (G8 c++x)) (λc hc es Q' hl q'=>?_) (by lia) ?_
 ·cbv;refine ⟨by show 1+x.length<=_;lia,?_⟩
  first|exact q'|(cbv;first|exact q'|exact ⟨hl,rfl,q'⟩)
 cbv;refine L6 (L:=A7 k) (λc=>PyData.str (x++G8 c)) (λc=>.bool (decide (sl1 (x++G8 c)∈ks)&&fr bs (x++G8 c))) (λc hc es Q' hl' q'=>?_) (by lia) ?_
 ·have hlc:(x++G8 c).length=x.length+1:=by rw[U3];rfl
  cbv;refine ⟨_,_,rfl,rfl,?_⟩;rw[A2k];cbv;refine M6 (λh1=>?_) λh1=>?_
  ·have h1:decide (sl1 (x++G8 c)∈ks)=true:=h1;rw[h1] at q';cbv;refine ⟨_,bs,rfl,hl,?_⟩;cbv
   first|exact q'|exact ⟨hl',rfl,q'⟩
  ·have h1:decide (sl1 (x++G8 c)∈ks)=false:=h1;rw[h1] at q'
   first|exact q'|exact ⟨hl',trivial,q'⟩
 cbv;refine ⟨_,O9 _ _,?_⟩;rw[A96];cbv;refine M6 (λh6=>?_) λh6=>?_
 rotate_left
 ·have e:both k bs ks x=false:=by unfold both;rw[h6];rfl
  rw[e] at q
  first|exact q|(cbv;exact q)
 cbv;refine L6 (L:=A7 k) (λc=>PyData.str (G8 c++x)) (λc=>.bool (decide (sl0 (G8 c++x)∈ks)&&fr bs (G8 c++x))) (λc hc es Q' hl' q'=>?_) (by lia) ?_
 ·have hlc:(G8 c++x).length=1+x.length:=by rw[U3];rfl
  cbv;refine ⟨_,_,rfl,rfl,?_⟩;rw[A2k];cbv;refine M6 (λh1=>?_) λh1=>?_
  ·have h1:decide (sl0 (G8 c++x)∈ks)=true:=h1;rw[h1] at q';cbv;refine ⟨_,bs,rfl,hl,?_⟩;cbv
   first|exact q'|exact ⟨hl',rfl,q'⟩
  ·have h1:decide (sl0 (G8 c++x)∈ks)=false:=h1;rw[h1] at q'
   first|exact q'|exact ⟨hl',trivial,q'⟩
 cbv;refine ⟨_,O9 _ _,?_⟩;rw[A96];have e:both k bs ks x=(A7 k).any λc=>decide (sl0 (G8 c++x)∈ks)&&fr bs (G8 c++x):=by unfold both;rw[h6];rfl
 rw[e] at q
 first|exact q|(cbv;exact q)
theorem B1d {ks:List Str} (h:ks.Nodup):Q2 [] (ks.map Sum.inr)=tD ks:=by
 have gen:∀ (ls js:List Str),(js++ls).Nodup->Q2 (tD js) (ls.map Sum.inr)=tD (js++ls):=by
  intro ls
  induction ls with
  | nil=>intro js _;rw[append_nil];rfl
  | cons a r ih =>
   intro js hn;rw[map_cons,Q2];have hna:a∉js:=λz=>by
    rw[nodup_append] at hn;exact hn.2.2 a z a qu rfl
   have e:A0z (tD js) (Sum.inr a) (.bool true)=tD (js++[a]):=by
    unfold A0z;rw[qo]
    ·unfold tD;rw[map_append];rfl
    ·intro z;obtain ⟨p,hp,hq⟩:=any_eq_true.mp z;obtain ⟨t,ht,rfl⟩:=zg.mp hp;have:t=a:=by simpa using hq
     exact hna (this ▸ ht)
   rw[e,ih (js++[a]) (by rw[append_assoc];exact hn),append_assoc];rfl
 exact gen ks [] h
theorem A2b (ks:List Str):(tD ks).map (·.1)=ks.map Sum.inr:=by unfold tD;rw[map_map];rfl
theorem A89 (ks:List Str) (g:C1->Bool):(ks.map Sum.inr).filter g=(ks.filter λt=>g (Sum.inr t)).map (Sum.inr:Str->C1):=by
 rw[List.filter_map];rfl
theorem B01:∀ bs:List Str,ndcs (bs.map PyData.str)=true
 | []=>rfl
 | b::r=>by rw[map_cons,ndcs,B01 r];rfl
theorem C34 (bs:List Str):ndc (bD bs)=true:=B01 bs
def kB (f:Str->Bool):C1->Bool
 | .inr t=>f t
 | .inl _=>false
theorem C15 {k:Int} {bs:List Str} (hg:L4 k bs):∃ n:Nat,W6 bs=(n:Int)/\1<=n/\n<=5:=by
 have:=B4d (bs:=bs) (m:=6) (by decide) λb hb=>by have:=(hg.2.2 b hb).2.1;lia
 have:=A7s bs;exact ⟨(W6 bs).toNat,by lia,by lia,by lia⟩
theorem D9j {k:Nat} (hk:K3 k) (h5:n<=5) (h:k ^ n<=128):k ^ n < 128:=by
 match n,h5 with
 | 0,_|1,_|2,_|3,_|4,_|5,_=>rcases hk with rfl|rfl|rfl<;>first|decide|(exfalso;revert h;decide)
abbrev X6:Stmt:=top 21
theorem J5:C0 ["signs","bars","width","kept","settled","still"] ["signs","bars"] (B1 X6):=by walk_at "sc"
def B37 (cA cN3:Addr):W1:=λds Q X=>∃ (k:Int) (bs:List Str),ds=[.int k,bD bs]/\Sml bs/\(L4 k bs->wds k bs<=128->∀ us:List Str,us.Pairwise O7->(∀ t,t∈us ↔ Q4 k.toNat bs (W6 bs).toNat t)->us.length < 128->Q (wD us) true)/\(¬ L4 k bs->X cA)/\(L4 k bs->¬ wds k bs<=128->X cN3)
theorem A6d {f:Addr} (F:W2 K "windows_of" "windows_of" X6 f fd) (T:Blt mg) (D_width_of:DfE P w K mg base "width_of" ["signs","bars"] 4 (G6 K (B3w cA cN3))) (D_words_of:Df P w K mg base "words_of" ["signs","width"] 1 (G6 K A5u)) (D_is_free:Df P w K mg base "is_free" ["word","bars"] 1 (G6 K Q3)) (D_goes_on_both_ways:Df P w K mg base "goes_on_both_ways" ["signs","bars","kept","word"] 2 (G6 K C3l)):I0 P w K mg base (CXE P w base) 5 f fd ["signs","bars"] (G6 K (B37 cA cN3)):=by
 refine okE F J5 (λds Q X h=>?_) (λcdv A outer s H E hr=>?_)
 ·obtain ⟨k,bs,rfl,_⟩:=h;rfl
 refine ⟨_,(A1 (B7 2 J5.nd (A4d (by exact D_width_of) B4x (by exact hr.mono (by lia)) (A0 (B0 0) (A0 (B0 1) A2))))
   (A1 (dnS (B7 3 J5.nd (C56 ["word"] [("bars",1)] rfl (by rfl) (C2.of (by kernel_rfl)) (D1 (by rfl) (C7 (by exact D_words_of) (by exact hr.mono (by lia)) (A0 (B0 0) (A0 (B0 2) A2)))) (λ_ _ _=>⟨A11 0 (N2 (by kernel_rfl)),(A0k (N8 (C7 (by exact D_is_free) (by exact hr.mono (by lia)) (A0 (B0 0) (A0 (B0 1) A2))))),qpv 0⟩))))
   (A1 (dnS (B7 4 J5.nd K9))
   (A1 (dnS (A30 PassesOwn.never (A0q (A6j (by rfl) (B0 4))) (A1 (B2b (i:=5) ["word"] [("signs",0),("bars",1),("kept",3)] J5.nd rfl rfl rfl (by rfl) (C2.of (by kernel_rfl)) (B0 3) (λ_ _ _=>⟨A11 0 (N2 (by kernel_rfl)),(A0k (N8 (C7 (by exact D_goes_on_both_ways) (by exact hr.mono (by lia)) (A0 (B0 1) (A0 (B0 2) (A0 (B0 3) (A0 (B0 0) A2))))))),qpv 0⟩))
   (A1 (B7 4 J5.nd (X0 (O0 (by rfl) (by exact hr.units)) (B3 A0i (by rfl) (by exact T.len) (by decide +kernel) (A0 (B0 5) A2)) (B3 A0i (by rfl) (by exact T.len) (by decide +kernel) (A0 (B0 3) A2)) (E7 _)))
   (A6 (B7 3 J5.nd (B0 5)))))))
   (A6 (dnS (B4 (B3 (B2c (by rfl)) (by rfl) (by exact T.sorted) (by decide +kernel) (A0 (B0 3) A2))))))))),λds Qd Xd h=>?_⟩
 obtain ⟨k,bs,rfl,hs,q,x1,x2⟩:=h;show (_:L1) _ [some (false,.int k),some (false,bD bs),none,none,none,none] _;cbv;refine ⟨k,bs,rfl,hs,λhg hw=>?_,x1,x2⟩;have q:=q hg hw;obtain ⟨n,en,hn1,hn5⟩:=C15 hg;obtain ⟨kk,ek,hk⟩:∃ kk:Nat,k=(kk:Int)/\K3 kk:=⟨k.toNat,by have:=hg.1;lia,by have:=hg.1;unfold K3;lia⟩;have hp:kk ^ n < 128:=by
  refine D9j hk hn5 ?_;unfold wds at hw;rw[en,ek] at hw;have e:((n:Nat):Int).toNat=n:=rfl;rw[e] at hw
  exact_mod_cast hw
 have hW:=A7h kk n;have hb100:bs.length<=100:=hs.1;rw[en,ek] at q;rw[en,ek];have q:∀ us:List Str,us.Pairwise O7->(∀ t,t∈us ↔ Q4 kk bs n t)->us.length < 128->Qd (wD us) true:=q;cbv;refine ⟨kk,n,rfl,hk,hn5,?_⟩;cbv;refine ⟨(W kk n).map Sum.inr,kB (fr bs),[some (false,bD bs)],by rw[map_map];rfl,by rw[qf];lia,⟨rfl,λj y hj=>?_⟩,λt ht Q' hq=>?_,?_⟩
 ·match j,hj with
  | 0,hj=>cases hj;exact ⟨rfl,_,_,_,rfl,rfl,.same _ (C34 bs)⟩
 ·obtain ⟨t',ht',rfl⟩:=zg.mp ht;cbv;refine ⟨t',bs,rfl,hb100,?_⟩;cbv;exact hq
 have e0:(λt=>kB (fr bs) (Sum.inr t))=fr bs:=rfl;rw[A89,e0,B1d (show ((W kk n).filter (fr bs)).Nodup from (A9w kk n).filter _)];cbv;refine ⟨λm O=>∃ (ks:List Str) (sd:Bool) (x:Option (Bool × D)),O=[some (false,.int (kk:Int)),some (false,bD bs),some (false,.int (n:Int)),some (true,K8 (tD ks)),some (false,.bool sd),x]/\Kp kk bs n ks/\ks.length < 128/\(sd=true->∀ t,t∈ks ↔ Q4 kk bs n t)/\m=2*ks.length+(if sd=true then 0 else 1),⟨_,_,false,_,rfl,Kp.start kk bs n,?_,(λz=>by cases z),rfl⟩,?_⟩
 ·have:=length_filter_le (fr bs) (W kk n);show ((W kk n).filter (fr bs)).length < 128;lia
 rintro m O ⟨ks,sd,x,rfl,hK,hl,hd,rfl⟩;cbv;cases sd with
 | true =>
  rw[qo (by decide)];cbv;refine ⟨tD ks,ks,rfl,A2b ks,hK.nd,hl,λus p1 p2=>?_⟩;cbv;exact q us p2 (λt=>(p1.mem_iff).trans (hd rfl t)) (by rw[p1.length_eq];exact hl)
 | false =>
  rw[qm (by decide)];cbv;refine ⟨tD ks,kB (both kk bs ks),[some (false,.int (kk:Int)),some (false,bD bs),some (false,dFD (tD ks))],rfl,by unfold tD;rw[qf];lia,⟨rfl,λj y hj=>?_⟩,λt ht Q' hq=>?_,?_⟩
  ·match j,hj with
   | 0,hj=>cases hj;exact ⟨rfl,_,_,_,rfl,rfl,.same _ rfl⟩
   | 1,hj=>cases hj;exact ⟨rfl,_,_,_,rfl,rfl,.same _ (C34 bs)⟩
   | 2,hj=>cases hj;exact ⟨rfl,_,_,_,rfl,rfl,.dct _⟩
  ·rw[A2b] at ht;obtain ⟨t',ht',rfl⟩:=zg.mp ht;have:=(V1.mp (hK.sub t' ht')).1;cbv;refine ⟨kk,bs,ks,t',rfl,hk,hb100,by lia,?_⟩;cbv;exact hq
  have e0:(λt=>kB (both kk bs ks) (Sum.inr t))=both kk bs ks:=rfl;rw[A2b,A89,e0,B1d (show (ks.filter (both kk bs ks)).Nodup from hK.nd.filter _)];have hKs:=hK.step;have hfl:=length_filter_le (both kk bs ks) ks;have hfin:=hK.fin;have heq:(ks.filter (both kk bs ks)).length=ks.length->ks.filter (both kk bs ks)=ks:=λe=>List.filter_eq_self.mpr (List.length_filter_eq_length_iff.mp e);revert hKs hfl hfin heq;generalize ks.filter (both kk bs ks)=ks';intro hKs hfl hfin heq;have l1:(tD ks').length=ks'.length:=by unfold tD;rw[qf]
  have l2:(tD ks).length=ks.length:=by unfold tD;rw[qf]
  cbv;have eb:(((tD ks').length:Int)==((tD ks).length:Int))=decide (ks'.length=ks.length):=by
   rw[l1,l2,zu,beq_iff_eq,zq];constructor<;>intro h<;>lia
  rw[eb];refine ⟨_,?_,ks',decide (ks'.length=ks.length),_,rfl,hKs,by lia,λz t=>?_,rfl⟩
  ·by_cases z:ks'.length=ks.length
   ·simp[z]
   ·simp[z];lia
  ·have z:ks'.length=ks.length:=by simpa using z
   have:=heq z;subst this;exact hfin z t
def St (k:Int) (bs:List Str):Nat->Prop
 | 0=>L4 k bs/\wds k bs<=128
 | 1=>¬ L4 k bs
 | _=>L4 k bs/\¬ wds k bs<=128
def Asc (b:Str):Prop:=∀ c∈b.cps.toList,c < 128
theorem Asc.ok {b:Str} (h:Asc b):PyData.strOk b=true:=by
 unfold PyData.strOk;rw[Array.all_eq_true_iff_forall_mem];intro c hc;have:=h c (by simpa using hc);simp;lia
theorem B3a:∀ {bs:List Str},(∀ b∈bs,Asc b)->PyData.canLayAll0 (bs.map PyData.str)=true
 | [],_=>rfl
 | b::r,h=>by
  have:=B3a (bs:=r) λx hx=>h x (qv _ hx);simp[PyData.canLayAll0,PyData.canLay0,(h b qu).ok,this]
theorem Y4 {bs:List Str} (h:∀ b∈bs,Asc b):(PyData.list (bs.map PyData.str)).canLay0=true:=by
 have:=B3a h;simpa [PyData.canLay0] using this
theorem A0o (bs:List Str):(PyData.list (bs.map PyData.str)).depth<=32:=by
 have:PyData.depthAll (bs.map PyData.str)=0:=by
  induction bs with
  | nil=>rfl
  | cons b r ih=>simp[PyData.depthAll,PyData.depth,ih]
 show PyData.depthAll _+1<=32;lia
abbrev A2w:Stmt:=top 33
theorem W9:C0 ["_law_bars_here","_law_longest","_law_bar"] ["_law_bars_here"] (B1 A2w):=by walk_at "sc"
def A58:W1:=λds Q _=>∃ bs:List Str,ds=[bD bs]/\Sml bs/\Q (.int (W6 bs)) true
theorem B29 {f:Addr} (F:W2 K "_law_width" "_law_width" A2w f fd) (T:Blt mg):I0 P w K mg base Z2 1 f fd ["_law_bars_here"] (G6 K A58):=by
 refine ok0 F W9 (λds Q X h=>?_) (λcdv A outer s H E hr=>?_) λds Qd Xd h=>h
 ·obtain ⟨bs,rfl,_⟩:=h;rfl
 refine ⟨_,(A1 (B7 1 W9.nd A4)
   (A1 (P6 0 (G0 PassesOwn.never rfl (D1 (by rfl) (B0 0)) (J9 2 W9.nd) (A6 (B7 1 W9.nd (B3 (B6f (by rfl) (by rfl)) (by rfl) (by exact T.max) (by decide +kernel) (A0 (B0 1) (A0 (B3 N9 (by rfl) (by exact T.len) (by decide +kernel) (A0 (B0 2) A2)) A2)))))))
   (A6 (B4 (A8 N6 (B0 1) A4))))),λds Qd h=>?_⟩
 obtain ⟨bs,rfl,hs,q⟩:=h;show (_:L1) _ [some (false,.list (bs.map .str)),none,none] _;cbv;refine M5 (λj O=>∃ z:Option (Bool × D),O=[some (false,.list (bs.map .str)),some (false,.int (mx2 (W0 (bs.take j)))),z]) ⟨_,rfl⟩ ?_ ?_
 ·rintro j d O hd ⟨z,rfl⟩;obtain ⟨b,hb,rfl⟩:∃ b,bs[j]?=some b/\d=.str b:=by
   rw[qk] at hd;cases e:bs[j]? with
   | none=>rw[e] at hd;cases hd
   | some r=>rw[e] at hd;cases hd;exact ⟨r,rfl,rfl⟩
  have:=hs.2 b (mem_iff_getElem?.mpr ⟨j,hb⟩);cbv;have e:mx2 (W0 (bs.take (j+1)))=if (b.length:Int) > mx2 (W0 (bs.take j)) then (b.length:Int) else mx2 (W0 (bs.take j)):=by
   rw[List.take_succ,hb];unfold mx2 W0;rw[map_append,List.foldl_append];rfl
  exact ⟨_,by rw[e]⟩
 ·rintro O ⟨z,rfl⟩;rw[qf,take_length];cbv;exact q
abbrev A2z:Stmt:=top 39
theorem A5l:C0 ["_law_e","_law_others"] ["_law_e"] (B1 A2z):=by walk_at "sc"
def A0c (K:W.Frag) (cG cT cWd cRd cN3 cA:Addr):SpX:=λC Q=>∃ tm nb:Bool,W.kitOne K (.ref C) (.ref cG)=some false/\W.kitOne K (.ref C) (.ref cT)=some false/\W.kitOne K (.ref C) (.ref cWd)=some false/\W.kitOne K (.ref C) (.ref cRd)=some false/\W.kitOne K (.ref C) (.type "ValueError")=some true/\W.kitOne K (.ref C) (.ref cN3)=some tm/\W.kitOne K (.ref C) (.ref cA)=some nb/\nb=!tm/\Q (.bool tm)
theorem B2g {f:Addr} (F:W2 K "_law_class" "_law_class" A2z f fd) (T:Blt mg) (C_NoGrid:W4 K mg "NoGrid" cG) (C_NoTable:W4 K mg "NoTable" cT) (C_NoWord:W4 K mg "NoWord" cWd) (C_NoReader:W4 K mg "NoReader" cRd) (C_TooMany:W4 K mg "TooMany" cN3) (C_NoBars:W4 K mg "NoBars" cA):C3z P w K mg base 1 f fd "_law_e" (A0c K cG cT cWd cRd cN3 cA):=by
 refine okX F A5l λcdv A outer s H E ea cE oe yE hr hA hoe hCE hKE=>?_;refine ⟨_,(A1 (B7 1 A5l.nd (G5 (A0 (T9 (by rfl) (by exact qu) (by exact hoe) (by exact hCE) (by exact hKE) (by rfl) (by exact T.isinstance) (B0 0) (by rfl) (by exact C_NoGrid.mgx)) (A0 (T9 (by rfl) (by exact qu) (by exact hoe) (by exact hCE) (by exact hKE) (by rfl) (by exact T.isinstance) (B0 0) (by rfl) (by exact C_NoTable.mgx)) (A0 (T9 (by rfl) (by exact qu) (by exact hoe) (by exact hCE) (by exact hKE) (by rfl) (by exact T.isinstance) (B0 0) (by rfl) (by exact C_NoWord.mgx)) (A0 (T9 (by rfl) (by exact qu) (by exact hoe) (by exact hCE) (by exact hKE) (by rfl) (by exact T.isinstance) (B0 0) (by rfl) (by exact C_NoReader.mgx)) A2))))))
   (A1 (D6 (A6s (A4f (N8 (B3 (C0i (by rfl) (by exact qu) (by exact hoe) (by exact hA)) (by rfl) (by exact T.any) (by decide +kernel) (A0 (B0 1) A2))) (A4f (A0q (N8 (C3y (n:="ValueError") (by rfl) (by exact qu) (by exact hoe) (by exact hCE) (by exact hKE) (by rfl) (by exact T.isinstance) (B0 0) (by rfl) (by exact T.ValueError) (by decide +kernel)))) (A3x (D3 (O0 (by rfl) (by exact hr.units)) (T9 (by rfl) (by exact qu) (by exact hoe) (by exact hCE) (by exact hKE) (by rfl) (by exact T.isinstance) (B0 0) (by rfl) (by exact C_TooMany.mgx)) (T9 (by rfl) (by exact qu) (by exact hoe) (by exact hCE) (by exact hKE) (by rfl) (by exact T.isinstance) (B0 0) (by rfl) (by exact C_NoBars.mgx)) (E7 _)))))) (A6 (B4 A9x)) B9)
   (A6 (B4 (T9 (by rfl) (by exact qu) (by exact hoe) (by exact hCE) (by exact hKE) (by rfl) (by exact T.isinstance) (B0 0) (by rfl) (by exact C_TooMany.mgx)))))),λQd h=>?_⟩
 obtain ⟨tm,nb,h1,h2,h3,h4,h5,h6,h7,rfl,q⟩:=h;show (_:L1) _ [some (false,opq ea),none] _;cbv;refine ⟨_,h1,?_⟩;cbv;refine ⟨_,h2,?_⟩;cbv;refine ⟨_,h3,?_⟩;cbv;refine ⟨_,h4,?_⟩;cbv;refine ⟨[false,false,false,false],rfl,?_⟩;cbv;rw[qo (by decide)];cbv;refine ⟨_,h5,?_⟩;cbv;refine ⟨_,h6,?_⟩;cbv;refine ⟨_,h7,?_⟩;refine ⟨by simp[PyData.canLay0],by simp[PyData.canLay0],by simp[PyData.depth],?_⟩;rw[show PyData.eqv (.bool tm) (.bool !tm)=false from by cases tm<;>rfl];cbv;rw[qo (by decide)];cbv;refine ⟨_,h6,?_⟩;exact ⟨q,trivial⟩
theorem B7x {k:Nat} (h:k=2\/k=3\/k=4):∀ n:Nat,n+k<=7->(k:Int) ^ n<=128:=by
 intro n hn;rcases h with rfl|rfl|rfl
 ·have:n<=5:=by lia
  match n,this with
  | 0,_|1,_|2,_|3,_|4,_|5,_=>decide
 ·have:n<=4:=by lia
  match n,this with
  | 0,_|1,_|2,_|3,_|4,_=>decide
 ·have:n<=3:=by lia
  match n,this with
  | 0,_|1,_|2,_|3,_=>decide
theorem InL.asc {k:Nat} (h:InL k c) (hk:k<=4):c < 128:=by have:=h.2;lia
abbrev A5h:Stmt:=top 31
theorem J0:C0 ["_law_big_here","_law_signs","_law_most","_law_many","_law_bars_here","_law_k","_law_size","_law_bar"] ["_law_big_here"] (B1 A5h):=by walk_at "sc"
def A9m:W1:=λds Q _=>∃ (b:Int),ds=[.int b]/\0<=b/\∀ (k:Int) (bs:List Str) (b':Int),Sml bs->(∀ x∈bs,Asc x)->St k bs 0->Q (.tuple [.int k,bD bs,.int b']) true
theorem B8m {f:Addr} (F:W2 K "_law_bars" "_law_bars" A5h f fd) (T:Blt mg) (D_l_word:Df P w K mg base "_law_word" ["_law_big_here","_law_letters","_law_many"] 1 (G6 K A4a)):I0 P w K mg base Z2 2 f fd ["_law_big_here"] (G6 K A9m):=by
 refine ok0 F J0 (λds Q X h=>?_) (λcdv A outer s H E hr=>?_) λds Qd Xd h=>h
 ·obtain ⟨b,rfl,_⟩:=h;rfl
 refine ⟨_,(A1 (B7 1 J0.nd (A8 C3 A4 (A8 D7 (B0 0) A4)))
   (A1 (B7 2 J0.nd (A8 C3 A4 (A8 D7 (A8 K7 (B0 0) A4) (A8 N6 A4 (B0 1)))))
   (A1 (B7 3 J0.nd (A8 D7 (A8 K7 (B0 0) A4) A4))
   (A1 (A8t (D6 (D3 B2l (A8 D7 (A8 K7 (B0 0) A4) A4) A4 (E7 _)) (A6 (B7 3 J0.nd (A8 D7 (B0 3) A4))) B9))
   (A1 (B7 0 J0.nd (A8 K7 (B0 0) A4))
   (A1 (B7 4 J0.nd (G5 A2))
   (A1 (G0 PassesOwn.never rfl (K2 (by rfl) (by exact T.range) (A0 (B0 3) A2)) (J9 5 J0.nd) (A1 (B7 6 J0.nd (A8 C3 A4 (A8 D7 (B0 0) (B0 2))))
   (A1 (A8t (D6 (D3 (O0 (by rfl) (by exact hr.units)) (A8 D7 (A8 K7 (B0 0) A4) A4) A4 (E7 _)) (A6 (B7 6 J0.nd (B0 2))) B9))
   (A1 (A43 [7,0] 2 rfl (by rfl) (by rfl) (J8 (A11 7 J0.nd) (J8 (A11 0 J0.nd) A0g)) (by rfl) (by rfl) (C7 (by exact D_l_word) (by exact hr.mono (by lia)) (A0 (A8 K7 (B0 0) A4) (A0 (D8 C5 D5 (C8 (B0 1))) (A0 (B0 6) A2)))))
   (A6 (X2 4 (by rfl) (qpv 4) (B0 7) (by rfl) (by rfl) (by rfl)))))))
   (A6 (B4 (D9 (A0 (B0 1) (A0 (B0 4) (A0 (B0 0) A2))))))))))))),λds Qd h=>?_⟩
 obtain ⟨b,rfl,hb,q⟩:=h;show (_:L1) _ [some (false,.int b),none,none,none,none,none,none,none] _;have h3:=Int.emod_nonneg b (show (3:Int)≠0 by decide);have h3':=Int.emod_lt_of_pos b (show (0:Int) < 3 by decide);obtain ⟨k,ek,hk⟩:∃ k:Nat,2+b % 3=(k:Int)/\(k=2\/k=3\/k=4):=⟨(2+b % 3).toNat,by lia,by lia⟩;have h8:(0:Int) < 8 - (2+b % 3):=by lia
 cbv;rw[ek] at h8 ⊢;obtain ⟨m,em,hm1,hm2⟩:∃ m:Nat,1+b / 3 % (8 - (k:Int))=(m:Int)/\1<=m/\m+k<=8:=by
  have a:=Int.emod_nonneg (b / 3) (Int.ne_of_gt h8);have c:=Int.emod_lt_of_pos (b / 3) h8;exact ⟨(1+b / 3 % (8 - (k:Int))).toNat,by lia,by lia,by lia⟩
 rw[em];refine C50 (λO=>∃ n:Nat,n<=12/\O=[some (false,.int b),some (false,.int (k:Int)),some (false,.int (m:Int)),some (false,.int (n:Int)),none,none,none,none]) (λN hN=>?_) ?_
 ·cbv;refine M6 (λ_=>?_) λ_=>?_
  ·cbv;exact hN _ ⟨(b / 18 % 13 % 5).toNat,by lia,by rw[Int.toNat_of_nonneg (Int.emod_nonneg _ (by decide))]⟩
  ·cbv;exact hN _ ⟨(b / 18 % 13).toNat,by lia,by rw[Int.toNat_of_nonneg (Int.emod_nonneg _ (by decide))]⟩
 rintro O ⟨n,hn,rfl⟩;have hb1:0<=b / 936:=Int.ediv_nonneg hb (by decide);cbv;revert hb1;generalize b / 936=b1;intro hb1;have hm0:(0:Int) < (m:Int):=by lia
 refine A1e (λi O=>∃ (bb:Int) (bs:List Str) (x1 x2 x3:Option (Bool × D)),O=[some (false,.int bb),some (false,.int (k:Int)),some (false,.int (m:Int)),some (false,.int (n:Int)),some (true,.list (bs.map .str)),x1,x2,x3]/\0<=bb/\bs.length=i/\∀ x∈bs,1<=x.length/\x.length<=m/\∀ c∈x.cps.toList,InL k c) ⟨b1,[],_,_,_,rfl,hb1,rfl,λ_ z=>by cases z⟩ ?_ ?_
 ·rintro i O hi ⟨bb,bs,x1,x2,x3,rfl,hbb,hbl,hbs⟩;cbv;have a:=Int.emod_nonneg bb (Int.ne_of_gt hm0);have c:=Int.emod_lt_of_pos bb hm0;refine C50 (λO=>∃ z:Nat,1<=z/\z<=m/\O=[some (false,.int bb),some (false,.int (k:Int)),some (false,.int (m:Int)),some (false,.int (n:Int)),some (true,.list (bs.map .str)),some (false,.int (0+(i:Int))),some (false,.int (z:Int)),x3]) (λN hN=>?_) ?_
  ·cbv;refine M6 (λ_=>?_) λ_=>?_
   ·cbv;exact hN _ ⟨m,hm1,qp _,rfl⟩
   ·cbv;exact hN _ ⟨(1+bb % (m:Int)).toNat,by lia,by lia,by rw[Int.toNat_of_nonneg (by lia)]⟩
  rintro O ⟨z,hz1,hz2,rfl⟩;cbv;refine ⟨bb / 12,_,k,z,rfl,Int.ediv_nonneg hbb (by decide),B40 hk,by lia,by lia,by lia,λx b' hx1 hx2 hb'=>?_⟩;cbv;refine ⟨bs.map .str,rfl,by rw[qf];lia,?_⟩;cbv;refine ⟨b',bs++[x],_,_,_,by rw[map_append];rfl,hb',by rw[length_append,hbl];rfl,λy hy=>?_⟩;rcases zj.mp hy with hy|hy
  ·exact hbs y hy
  ·rw[zc.mp hy,hx1];exact ⟨hz1,hz2,hx2⟩
 ·rintro O ⟨bb,bs,x1,x2,x3,rfl,hbb,hbl,hbs⟩;rw[Int.toNat_natCast] at hbl;cbv;have g:L4 (k:Int) bs:=⟨by lia,by lia,λx hx=>⟨(hbs x hx).1,by have:=(hbs x hx).2.1;lia,λc hc=>by have:=(hbs x hx).2.2 c hc;unfold InL at this;lia⟩⟩;have hw:=B4d (bs:=bs) (m:=8 - (k:Int)) (by lia) λx hx=>by have:=(hbs x hx).2.1;lia
  have hp:=A7s bs;exact q (k:Int) bs bb ⟨by lia,λx hx=>by have:=(hbs x hx).2.1;lia⟩ (λx hx c hc=>((hbs x hx).2.2 c hc).asc (by lia)) ⟨g,B7x hk _ (by lia)⟩
abbrev A4h:Stmt:=top 34
theorem A6u:C0 ["_law_word_here","_law_bars_here","_law_bar"] ["_law_word_here","_law_bars_here"] (B1 A4h):=by walk_at "sc"
theorem B7o {f:Addr} (F:W2 K "_law_free" "_law_free" A4h f fd) (T:Blt mg):I0 P w K mg base Z2 1 f fd ["_law_word_here","_law_bars_here"] (G6 K Q3):=by
 refine ok0 F A6u (λds Q X h=>?_) (λcdv A outer s H E hr=>?_) λds Qd Xd h=>h
 ·obtain ⟨x,bs,rfl,_⟩:=h;rfl
 refine ⟨_,(A1 (P6 1 (G0 PassesOwn.never rfl (D1 (by rfl) (B0 1)) (J9 2 A6u.nd) (A6 (D6 (D3 B54 (B0 2) (B0 0) rfl) (A6 (B4 K9)) B9))))
   (A6 (B4 K9))),λds Qd h=>?_⟩
 obtain ⟨x,bs,rfl,hl,q⟩:=h;show (_:L1) _ [some (false,.str x),some (false,.list (bs.map .str)),none] _;cbv;refine M5 (λj O=>∃ z:Option (Bool × D),O=[some (false,.str x),some (false,.list (bs.map .str)),z]/\∀ b∈bs.take j,has b x=false) ⟨_,rfl,λ_ z=>by cases z⟩ ?_ ?_
 ·rintro j d O hd ⟨z,rfl,hj⟩;obtain ⟨b,hb,rfl⟩:∃ b,bs[j]?=some b/\d=.str b:=by
   rw[qk] at hd;cases e:bs[j]? with
   | none=>rw[e] at hd;cases hd
   | some r=>rw[e] at hd;cases hd;exact ⟨r,rfl,rfl⟩
  cbv;refine M6 (λh1=>?_) λh1=>?_
  ·have e:fr bs x=false:=by
    unfold fr;rw[List.all_eq_false];exact ⟨b,mem_iff_getElem?.mpr ⟨j,hb⟩,by show ¬ (!has b x)=true;rw[show has b x=true from h1];decide⟩
   rw[e] at q;cbv;exact q
  ·cbv;refine ⟨_,rfl,λy hy=>?_⟩;rw[List.take_succ,hb] at hy;rcases zj.mp hy with hy|hy
   ·exact hj y hy
   ·rw[zc.mp hy];exact h1
 ·rintro O ⟨z,rfl,hj⟩;have e:fr bs x=true:=by
   unfold fr;rw[all_eq_true];intro b hb;rw[hj b (by rw[qf,take_length];exact hb)];rfl
  rw[e] at q;cbv;exact q
theorem B58 {k:Nat} (h:K3 k):(Txt.slice (Str.ofString "abcd") none (some (k:Int))).cps.toList=A7 k:=by
 rcases h with rfl|rfl|rfl
 ·have e:Txt.slice (Str.ofString "abcd") none (some ((2:Nat):Int))=⟨#[97,98]⟩:=by decide +kernel
  rw[e];rfl
 ·have e:Txt.slice (Str.ofString "abcd") none (some ((3:Nat):Int))=⟨#[97,98,99]⟩:=by decide +kernel
  rw[e];rfl
 ·have e:Txt.slice (Str.ofString "abcd") none (some ((4:Nat):Int))=⟨#[97,98,99,100]⟩:=by decide +kernel
  rw[e];rfl
abbrev A37:Stmt:=top 35
theorem N4:C0 ["_law_letters","_law_size","_law_words_here","_law_k","_law_longer","_law_word_here"] ["_law_letters","_law_size"] (B1 A37):=by walk_at "sc"
def A2x:W1:=λds Q _=>∃ (k n:Nat) (z:Str),ds=[.str z,.int n]/\z.cps.toList=A7 k/\K3 k/\n<=6/\Q (wD (W k n)) true
theorem A70 {α β:Type} (l:List α) (f:α->List β) {x:α} (h:l[j]?=some x):(l.take (j+1)).flatMap f=(l.take j).flatMap f++f x:=by
 rw[take_add_one,h,List.flatMap_append];simp
theorem B3j {f:Addr} (F:W2 K "_law_words" "_law_words" A37 f fd) (T:Blt mg):I0 P w K mg base Z2 1 f fd ["_law_letters","_law_size"] (G6 K A2x):=by
 refine ok0 F N4 (λds Q X h=>?_) (λcdv A outer s H E hr=>?_) λds Qd Xd h=>h
 ·obtain ⟨k,n,z,rfl,_⟩:=h;rfl
 refine ⟨_,(A1 (B7 2 N4.nd (G5 (A0 C5 A2)))
   (A1 (G0 PassesOwn.never rfl (K2 (by rfl) (by exact T.range) (A0 (B0 1) A2)) (J9 3 N4.nd) (A1 (B7 4 N4.nd (G5 A2))
   (A1 (P6 2 (G0 PassesOwn.never rfl (D1 (by rfl) (B0 2)) (J9 5 N4.nd) (A6 (B7 4 N4.nd (A8 C3 (B0 4) (S9 ["_law_sign"] [("_law_word_here",5)] rfl (C2.of (by kernel_rfl)) (A48 (B0 0)) (λ_ _ _ _=>⟨(J9 0 (N2 (by kernel_rfl))),G3,(G4 (by rfl) (by rfl) (A8 C3 (B0 1) (B0 0)))⟩)))))))
   (A6 (B7 2 N4.nd (B0 4))))))
   (A6 (B4 (B0 2))))),λds Qd h=>?_⟩
 obtain ⟨k,n,z,rfl,hz,hk,hn,q⟩:=h;show (_:L1) _ [some (false,.str z),some (false,.int n),none,none,none,none] _;have hk4:k<=4:=by rcases hk with rfl|rfl|rfl<;>decide
 have hll:=A40 k;cbv;refine A1e (λi O=>∃ (x y u:Option (Bool × D)),O=[some (false,.str z),some (false,.int (n:Int)),some (true,.list ((W k i).map .str)),x,y,u]) ⟨_,_,_,by
  have e:Str.ofString ""=⟨#[]⟩:=by decide +kernel
  show [_,_,some (true,PyData.list [PyData.str (Str.ofString "")]),_,_,_]=_;rw[e];rfl⟩ ?_ ?_
 ·rintro i O hi ⟨x,y,u,rfl⟩;have hi':i < n:=by simpa using hi
  have hp:=A1n hk (n:=i+1) (by lia);rw[<-A7h] at hp;cbv;refine M5 (λj O=>∃ (u:Option (Bool × D)),O=[some (false,.str z),some (false,.int (n:Int)),some (false,.list ((W k i).map .str)),some (false,.int (0+(i:Int))),some (true,.list ((((W k i).take j).flatMap λw=>(A7 k).map λc=>w++G8 c).map .str)),u]) ⟨_,rfl⟩ ?_ ?_
  ·rintro j d O hd ⟨u,rfl⟩;obtain ⟨x,hx,rfl⟩:∃ x,(W k i)[j]?=some x/\d=.str x:=by
    rw[qk] at hd;cases e:(W k i)[j]? with
    | none=>rw[e] at hd;cases hd
    | some r=>rw[e] at hd;cases hd;exact ⟨r,rfl,rfl⟩
   have hxl:=(V1.mp (zr hx)).1;have hsz:(((W k i).take (j+1)).flatMap λw=>(A7 k).map λc=>w++G8 c).length<=(W k (i+1)).length:=by
    rw[W];refine List.Sublist.length_le ?_
    conv=>rhs;rw[<-take_append_drop (j+1) (W k i)]
    rw[List.flatMap_append];exact List.sublist_append_left _ _
   rw[A70 _ _ hx,length_append] at hsz;cbv;unfold DL.signs;rw[hz];refine L6 (L:=A7 k) (λc=>PyData.str ⟨#[c]⟩) (λc=>.str (x++G8 c)) (λc hc es Q' hl q'=>?_) (by lia) ?_
   ·cbv;refine ⟨by show x.length+1<=_;lia,?_⟩
    first|exact q'|(cbv;first|exact q'|exact ⟨hl,rfl,q'⟩)
   cbv;refine ⟨by rw[qf,qf];rw[qf] at hsz;lia,some (false,.str x),?_⟩;have hk2:A01 ((((W k i).take j).flatMap λw=>(A7 k).map λc=>w++G8 c).map PyData.str) (Kd.own [4]) ((A7 k).map λc=>PyData.str (x++G8 c)) (Kd.own [])=Kd.own []:=by
    unfold A01;have e2:((A7 k).map λc=>PyData.str (x++G8 c))=((A7 k).map λc=>x++G8 c).map PyData.str:=by rw[map_map];rfl
    rw[Q7,e2,Q7];rfl
   rw[hk2,A70 _ _ hx,map_append,map_map];rfl
  ·rintro O ⟨u,rfl⟩;rw[qf,take_length];cbv;exact ⟨_,_,_,rfl⟩
 ·rintro O ⟨x,y,u,rfl⟩;cbv;rw[show (n:Int).toNat=n from rfl];exact q
def pD (s:Str × Str):D:=.tuple [.str s.1,.str s.2]
def bI (b:Bool):Int:=if b=true then 1 else 0
theorem C2g (ks:List Str) (t:Str):A0z (tD ks) (Sum.inr t) (.bool true)=tD (A1z ks t):=by
 unfold A0z A1z;by_cases h:t∈ks
 ·rw[qm h,qm]
  ·unfold tD;rw[map_map];refine List.map_congr_left λa _=>?_;show (if (Sum.inr a:C1)=Sum.inr t then ((Sum.inr a:C1),PyData.bool true) else (Sum.inr a,PyData.bool true))=_;split<;>rfl
  ·exact any_eq_true.mpr ⟨(Sum.inr t,.bool true),zg.mpr ⟨t,h,rfl⟩,by simp⟩
 ·rw[qo h,qo]
  ·unfold tD;rw[map_append];rfl
  ·intro z;obtain ⟨p,hp,hq⟩:=any_eq_true.mp z;obtain ⟨a,ha,rfl⟩:=zg.mp hp;have:a=t:=by simpa using hq
   exact h (this ▸ ha)
theorem C28 (s:Str × Str) (sd:Bool):atI [PyData.str s.1,PyData.str s.2] (bI sd)=some (.str (pk sd s)):=by
 cases sd
 ·exact L5 (xs:=[PyData.str s.1,PyData.str s.2]) (j:=0) rfl
 ·exact L5 (xs:=[PyData.str s.1,PyData.str s.2]) (j:=1) rfl
theorem D4l (sd:Bool):1 - bI sd=bI (!sd):=by cases sd<;>rfl
theorem C4j (h:ss[j]?=some s) (f:Str × Str->Str):(ss.take (j+1)).map f=(ss.take j).map f++[f s]:=by
 rw[take_add_one,h,map_append];rfl
theorem B0u (h:ss[j]?=some s) (sd:Bool) (L:List Str):(sel (ss.take (j+1)) sd L).map (pk sd)=if pk (!sd) s∈L then (sel (ss.take j) sd L).map (pk sd)++[pk sd s] else (sel (ss.take j) sd L).map (pk sd):=by
 unfold sel;rw[take_add_one,h,filter_append,map_append];by_cases z:pk (!sd) s∈L
 ·rw[qm z];simp[z]
 ·rw[qo z];simp[z]
abbrev Z8:Stmt:=top 36
theorem J3:C0 ["_law_steps","_law_side","_law_left","_law_step","_law_many","_law_kept"] ["_law_steps","_law_side"] (B1 Z8):=by walk_at "sc"
def A9u:W1:=λds Q _=>∃ (ss:List (Str × Str)) (sd:Bool),ds=[.list (ss.map pD),.int (bI sd)]/\ss.length<=5000/\∀ ks:List Str,ks.Nodup->(∀ t,t∈ks ↔ P2 ss sd t)->ks.length<=5000->Q (K8 (tD ks)) true
theorem A8o {f:Addr} (F:W2 K "_law_lasting" "_law_lasting" Z8 f fd) (T:Blt mg):I0 P w K mg base Z2 1 f fd ["_law_steps","_law_side"] (G6 K A9u):=by
 refine ok0 F J3 (λds Q X h=>?_) (λcdv A outer s H E hr=>?_) λds Qd Xd h=>h
 ·obtain ⟨ss,sd,rfl,_⟩:=h;rfl
 refine ⟨_,(A1 (B7 2 J3.nd A0r)
   (A1 (P6 0 (G0 PassesOwn.never rfl (D1 (by rfl) (B0 0)) (J9 3 J3.nd) (A6 (A2j 2 (by exact qq (zh (by decide) _) hr.units) (qpv 2) (K1 (J6 (dix (by rfl)) (B0 3) (B0 1) (λ_ _=>rfl))) K9))))
   (A1 (B7 4 J3.nd (A8 C3 (B3 A0i (by rfl) (by exact T.len) (by decide +kernel) (A0 (B0 2) A2)) A4))
   (A1 (A30 PassesOwn.never (D3 A7x (B3 A0i (by rfl) (by exact T.len) (by decide +kernel) (A0 (B0 2) A2)) (B0 4) (E7 _)) (A1 (B7 4 J3.nd (B3 A0i (by rfl) (by exact T.len) (by decide +kernel) (A0 (B0 2) A2)))
   (A1 (B7 5 J3.nd A0r)
   (A1 (P6 0 (G0 PassesOwn.never rfl (D1 (by rfl) (B0 0)) (J9 3 J3.nd) (A6 (D6 (B67 (by exact qq (zh (by decide) _) hr.units) (K1 (J6 (dix (by rfl)) (B0 3) (A8 N6 A4 (B0 1)) (λ_ _=>rfl))) (B0 2) (by rfl)) (A6 (A2j 5 (by exact qq (zh (by decide) _) hr.units) (qpv 5) (K1 (J6 (dix (by rfl)) (B0 3) (B0 1) (λ_ _=>rfl))) K9)) B9))))
   (A6 (B7 2 J3.nd (B0 5)))))))
   (A6 (B4 (B0 2))))))),λds Qd h=>?_⟩
 obtain ⟨ss,sd,rfl,hl,q⟩:=h;show (_:L1) _ [some (false,.list (ss.map pD)),some (false,.int (bI sd)),none,none,none,none] _;have get:∀ {j:Nat} {d:D},(ss.map pD)[j]?=some d->∃ s,ss[j]?=some s/\d=.tuple [.str s.1,.str s.2]:=by
  intro j d hd;rw[qk] at hd;cases e:ss[j]? with
  | none=>rw[e] at hd;cases hd
  | some r=>rw[e] at hd;cases hd;exact ⟨r,rfl,rfl⟩
 cbv;refine M5 (λj O=>∃ x:Option (Bool × D),O=[some (false,.list (ss.map pD)),some (false,.int (bI sd)),some (true,K8 (tD (uq ((ss.take j).map (pk sd))))),x,none,none]) ⟨_,rfl⟩ ?_ ?_
 ·rintro j d O hd ⟨x,rfl⟩;obtain ⟨s,hs,rfl⟩:=get hd;have l0:=A8a ((ss.take j).map (pk sd));rw[qf,ja] at l0;have l1:(tD (uq ((ss.take j).map (pk sd)))).length=(uq ((ss.take j).map (pk sd))).length:=by unfold tD;rw[qf]
  cbv;refine ⟨_,C28 s sd,?_⟩;cbv;rw[C2g,C4j hs,B5n]
  first|rfl|exact ⟨_,rfl⟩
 rintro O ⟨x,rfl⟩;rw[qf,take_length];have l0:=A8a (ss.map (pk sd));rw[qf] at l0;have lD:∀ ks:List Str,(tD ks).length=ks.length:=λks=>by unfold tD;rw[qf]
 have L0:=Lt.start ss sd;cbv;rw[lD];refine ⟨λm O=>∃ (ks:List Str) (x y:Option (Bool × D)),O=[some (false,.list (ss.map pD)),some (false,.int (bI sd)),some (true,K8 (tD ks)),x,some (false,.int (m:Int)),y]/\Lt ss sd ks m/\ks.length<=5000,⟨(uq (ss.map (pk sd))).length+1,_,_,_,rfl,L0,by lia⟩,?_⟩;rintro m O ⟨ks,x,y,rfl,hL,hl5⟩;cbv;rw[lD];refine B6k (λh1=>?_) λh1=>?_
 rotate_left
 ·cbv;exact q ks hL.nd (hL.fin (by simp at h1;lia)) hl5
 have h1:ks.length < m:=by simp at h1;lia
 cbv;rw[lD];refine M5 (λj O=>∃ x:Option (Bool × D),O=[some (false,.list (ss.map pD)),some (false,.int (bI sd)),some (true,K8 (tD ks)),x,some (false,.int (ks.length:Int)),some (true,K8 (tD (uq ((sel (ss.take j) sd ks).map (pk sd)))))]) ⟨_,rfl⟩ ?_ ?_
 ·rintro j d O hd ⟨x,rfl⟩;obtain ⟨s,hs,rfl⟩:=get hd;have l0:=A8a ((sel (ss.take j) sd ks).map (pk sd));have l2:(sel (ss.take j) sd ks).length<=(ss.take j).length:=length_filter_le _ _;rw[qf] at l0;rw[ja] at l2;have l1:=lD (uq ((sel (ss.take j) sd ks).map (pk sd)));cbv;rw[D4l];refine ⟨_,C28 s (!sd),?_⟩;cbv;rw[A2k];refine M6 (λh2=>?_) λh2=>?_
  ·have h2:pk (!sd) s∈ks:=of_decide_eq_true h2;cbv;refine ⟨_,C28 s sd,?_⟩;cbv;rw[C2g,B0u hs,qm h2,B5n]
   first|rfl|exact ⟨_,rfl⟩
  ·have h2:¬ pk (!sd) s∈ks:=of_decide_eq_false h2;cbv;exact ⟨_,by rw[B0u hs,qo h2]⟩
 ·rintro O ⟨x,rfl⟩;rw[qf,take_length];have l3:(nxt ss sd ks).length<=5000:=by
   have a:=A8a ((sel ss sd ks).map (pk sd));have b:(sel ss sd ks).length<=ss.length:=length_filter_le _ _;rw[qf] at a;exact zn a (zn b hl)
  cbv;exact ⟨ks.length,h1,nxt ss sd ks,_,_,rfl,hL.step,l3⟩
abbrev A38:Stmt:=top 37
theorem A1b:C0 ["_law_signs","_law_bars_here","_law_steps","_law_word_here"] ["_law_signs","_law_bars_here"] (B1 A38):=by walk_at "sc"
def A5m:W1:=λds Q _=>∃ (k:Int) (bs:List Str),ds=[.int k,bD bs]/\Sml bs/\L4 k bs/\∀ l1 l0:List Str,l1.Nodup->l0.Nodup->(∀ t,t∈l1 ↔ P2 (G9 k.toNat bs (W6 bs).toNat) true t)->(∀ t,t∈l0 ↔ P2 (G9 k.toNat bs (W6 bs).toNat) false t)->l1.length<=5000->l0.length<=5000->Q (.tuple [K8 (tD l1),K8 (tD l0)]) true
theorem B2k {f:Addr} (F:W2 K "_law_world" "_law_world" A38 f fd) (T:Blt mg) (D_l_words:Df P w K mg base "_law_words" ["_law_letters","_law_size"] 1 (G6 K A2x)) (D_l_width:Df P w K mg base "_law_width" ["_law_bars_here"] 1 (G6 K A58)) (D_l_free:Df P w K mg base "_law_free" ["_law_word_here","_law_bars_here"] 1 (G6 K Q3)) (D_l_lasting:Df P w K mg base "_law_lasting" ["_law_steps","_law_side"] 1 (G6 K A9u)):I0 P w K mg base Z2 2 f fd ["_law_signs","_law_bars_here"] (G6 K A5m):=by
 refine ok0 F A1b (λds Q X h=>?_) (λcdv A outer s H E hr=>?_) λds Qd Xd h=>h
 ·obtain ⟨k,bs,rfl,_⟩:=h;rfl
 refine ⟨_,(A1 (B7 2 A1b.nd (G5 A2))
   (A1 (G0 PassesOwn.never rfl (D1 (by rfl) (C7 (by exact D_l_words) (by exact hr.mono (by lia)) (A0 (D8 C5 D5 (C8 (B0 0))) (A0 (A8 C3 (C7 (by exact D_l_width) (by exact hr.mono (by lia)) (A0 (B0 1) A2)) A4) A2)))) (J9 3 A1b.nd) (A6 (D6 (N8 (C7 (by exact D_l_free) (by exact hr.mono (by lia)) (A0 (B0 3) (A0 (B0 1) A2)))) (A6 (X2 2 (by rfl) (qpv 2) (D9 (A0 (D8 (B0 3) D5 (C8 (A8f A4))) (A0 (D8 (B0 3) (C8 A4) D5) A2))) (by rfl) (by rfl) (by rfl))) B9)))
   (A6 (B4 (D9 (A0 (C7 (by exact D_l_lasting) (by exact hr.mono (by lia)) (A0 (B0 2) (A0 A4 A2))) (A0 (C7 (by exact D_l_lasting) (by exact hr.mono (by lia)) (A0 (B0 2) (A0 A4 A2))) A2))))))),λds Qd h=>?_⟩
 obtain ⟨k,bs,rfl,hs,hg,q⟩:=h;show (_:L1) _ [some (false,.int k),some (false,bD bs),none,none] _;obtain ⟨n,en,hn1,hn5⟩:=C15 hg;obtain ⟨kk,ek,hk⟩:∃ kk:Nat,k=(kk:Int)/\K3 kk:=⟨k.toNat,by have:=hg.1;lia,by have:=hg.1;unfold K3;lia⟩;have hb100:bs.length<=100:=hs.1;rw[en,ek] at q;have q:∀ l1 l0:List Str,l1.Nodup->l0.Nodup->(∀ t,t∈l1 ↔ P2 (G9 kk bs n) true t)->(∀ t,t∈l0 ↔ P2 (G9 kk bs n) false t)->l1.length<=5000->l0.length<=5000->Qd (.tuple [K8 (tD l1),K8 (tD l0)]) true:=q;rw[ek];cbv;refine ⟨bs,rfl,hs,?_⟩;rw[en];cbv;refine ⟨kk,n+1,_,rfl,B58 hk,hk,by lia,?_⟩;have hp:=A1n hk (n:=n+1) (by lia);rw[<-A7h] at hp;unfold wD;cbv;refine M5 (λj O=>∃ x:Option (Bool × D),O=[some (false,.int (kk:Int)),some (false,bD bs),some (true,.list (((((W kk (n+1)).take j).filter (fr bs)).map λx=>(sl0 x,sl1 x)).map pD)),x]) ⟨_,rfl⟩ ?_ ?_
 ·rintro j d O hd ⟨x,rfl⟩;obtain ⟨x,hx,rfl⟩:∃ x,(W kk (n+1))[j]?=some x/\d=.str x:=by
   rw[qk] at hd;cases e:(W kk (n+1))[j]? with
   | none=>rw[e] at hd;cases hd
   | some r=>rw[e] at hd;cases hd;exact ⟨r,rfl,rfl⟩
  have hxl:=(V1.mp (zr hx)).1;have l2:=length_filter_le (fr bs) ((W kk (n+1)).take j);rw[ja] at l2;cbv;refine ⟨x,bs,rfl,hb100,?_⟩;cbv;refine M6 (λh2=>?_) λh2=>?_
  ·cbv;refine ⟨_,rfl,by rw[qf,qf];lia,?_⟩;cbv;exact ⟨some (false,.str x),by rw[take_add_one,hx,filter_append];simp[h2,pD,sl0,sl1]⟩
  ·cbv;exact ⟨some (false,.str x),by rw[take_add_one,hx,filter_append];simp[h2]⟩
 ·rintro O ⟨x,rfl⟩;rw[qf,take_length];have e1:(((W kk (n+1)).filter (fr bs)).map λx=>(sl0 x,sl1 x))=G9 kk bs n:=rfl;have hst:(G9 kk bs n).length<=5000:=by
   unfold G9;rw[qf];exact zn (length_filter_le _ _) (by lia)
  rw[e1];cbv;refine ⟨G9 kk bs n,true,rfl,hst,λl1 a1 a2 a3=>?_⟩;cbv;refine ⟨G9 kk bs n,false,rfl,hst,λl0 b1 b2 b3=>?_⟩;cbv;exact q l1 l0 a1 b1 a2 b2 a3 b3
abbrev A05:Stmt:=top 38
theorem A7r:C0 ["_law_world_here"] ["_law_world_here"] (B1 A05):=by walk_at "sc"
def A8h:W1:=λds Q _=>∃ l1 l0:List Str,ds=[.tuple [K8 (tD l1),K8 (tD l0)]]/\l1.Nodup/\l1.length<=5000/\(l1.filter λt=>decide (t∈l0)).length < 128/\∀ us:List Str,us.Pairwise O7->(∀ t,t∈us ↔ t∈l1/\t∈l0)->us.length < 128->Q (wD us) true
theorem A9q {f:Addr} (F:W2 K "_law_windows" "_law_windows" A05 f fd) (T:Blt mg):I0 P w K mg base Z2 1 f fd ["_law_world_here"] (G6 K A8h):=by
 refine ok0 F A7r (λds Q X h=>?_) (λcdv A outer s H E hr=>?_) λds Qd Xd h=>h
 ·obtain ⟨l1,l0,rfl,_⟩:=h;rfl
 refine ⟨_,(A6 (B4 (B3 (A7j (by rfl)) (by rfl) (by exact T.sorted) (by decide +kernel) (A0 (C67 ["_law_word_here"] [("_law_world_here",0)] rfl (by rfl) (C2.of (by kernel_rfl)) (J6 (dix (by rfl)) (B0 0) A4 (λ_ _=>rfl)) (λ_ _ _=>⟨A11 0 (N2 (by kernel_rfl)),(A0k (C30 (by exact qq (zh (by decide) _) hr.units) (K1 (B0 0)) (J6 (dix (by rfl)) (B0 1) A4 (λ_ _=>rfl)) (by rfl))),qpv 0⟩)) A2)))),λds Qd h=>?_⟩;obtain ⟨l1,l0,rfl,n1,h5,h128,q⟩:=h;show (_:L1) _ [some (false,.tuple [K8 (tD l1),K8 (tD l0)])] _;have lD:∀ ks:List Str,(tD ks).length=ks.length:=λks=>by unfold tD;rw[qf]
 cbv;refine ⟨_,L5 (xs:=[K8 (tD l1),K8 (tD l0)]) (j:=0) rfl,?_⟩;cbv;refine ⟨tD l1,kB λt=>decide (t∈l0),[some (false,.tuple [dFD (tD l1),dFD (tD l0)])],rfl,by rw[lD];lia,⟨rfl,λj y hj=>?_⟩,λt ht Q' hq=>?_,?_⟩
 ·match j,hj with
  | 0,hj=>cases hj;exact ⟨rfl,_,_,_,rfl,rfl,.two _ _⟩
 ·rw[A2b] at ht;obtain ⟨t',ht',rfl⟩:=zg.mp ht;have ek:E3 (Sum.inr t')=PyData.str t':=rfl;rw[ek];cbv;refine ⟨_,L5 (xs:=[dFD (tD l1),dFD (tD l0)]) (j:=1) rfl,?_⟩;cbv;refine ⟨_,_,rfl,rfl,?_⟩;rw[A2k];cbv;exact hq
 have e0:(λt=>kB (λt=>decide (t∈l0)) (Sum.inr t))=λt=>decide (t∈l0):=rfl;rw[A2b,A89,e0,map_map];have nf:=n1.filter λt=>decide (t∈l0);cbv;refine ⟨l1.filter λt=>decide (t∈l0),rfl,nf,h128,λus p1 p2=>?_⟩;cbv;refine q us p2 (λt=>?_) (by rw[p1.length_eq];exact h128);rw[p1.mem_iff,mem_filter,zq]
abbrev Z7:Stmt:=top 25
theorem Y2:C0 ["windows","bars","word","width","parts"] ["windows","bars","word"] (B1 Z7):=by walk_at "sc"
structure Wnd (k:Nat) (bs:List Str) (n:Nat) (us:List Str):Prop where
 srt:us.Pairwise O7
 iff:∀ t,t∈us ↔ Q4 k bs n t
 len:us.length < 128
open Classical in
noncomputable def stB (k:Nat) (bs:List Str) (n:Nat) (x:Str):Bool:=decide (sts k bs n x)
def C29:W1:=λds Q _=>∃ (k n:Nat) (us bs:List Str) (x:Str),ds=[wD us,bD bs,.str x]/\Wnd k bs n us/\1<=n/\n<=100/\bs.length<=100/\x.length<=100/\Q (.bool (stB k bs n x)) true
theorem C0a {k:Nat} {bs:List Str} {x:Str} (h:¬ sts k bs n x):stB k bs n x=false:=by
 simp[stB,h]
theorem A92 {k:Nat} {bs:List Str} {x:Str}:stB k bs n x=true ↔ sts k bs n x:=by
 simp[stB]
theorem C71 {k:Nat} {bs:List Str} {x:Str} (W:Wnd k bs n []):¬ sts k bs n x:=by
 have nw:∀ t,¬ Q4 k bs n t:=λt h=>by have:=(W.iff t).mpr h;cases this
 unfold sts;split
 ·rintro ⟨t,h,_⟩;exact nw t h
 ·rintro ⟨_,h⟩;exact nw _ (h 0 (by lia))
theorem C36 {x y:Str}:Txt.startswith x y=true ↔ y.cps.toList <+: x.cps.toList:=by
 unfold Txt.startswith;rw[zb,zq,StrLaws.subAt_eq,beq_iff_eq,drop_zero,<-D4 y];constructor
 ·rintro ⟨_,h⟩;rw[<-h];exact List.take_prefix _ _
 ·intro h;have:=h.length_le;rw[D4,D4] at this;exact ⟨by rw[D4];lia,(List.prefix_iff_eq_take.mp h).symm⟩
theorem B8s {k:Nat} {bs:List Str} {x:Str} (W:Wnd k bs n us) (h:x.length < n):((us.map λt=>Txt.startswith t x).any id)=stB k bs n x:=by
 rw[A96,zu,A92,any_eq_true];unfold sts;rw[qm h];constructor
 ·rintro ⟨t,h1,h2⟩;exact ⟨t,(W.iff t).mp h1,C36.mp h2⟩
 ·rintro ⟨t,h1,h2⟩;exact ⟨t,(W.iff t).mpr h1,C36.mpr h2⟩
def prt (x:Str) (n j:Nat):Str:=sT ((x.cps.toList.drop j).take n)
theorem C7f {α:Type} (l:List α) (f:α->Bool):(l.map f).all id=l.all f:=by
 induction l with
 | nil=>rfl
 | cons a r ih=>rw[map_cons,all_cons,all_cons,ih];rfl
theorem C3o {k:Nat} {bs:List Str} {x:Str} (W:Wnd k bs n us) (h:n<=x.length) (f:fr bs x=true):(((List.range (x.length - n+1)).map λj=>decide (prt x n j∈us)).all id)=stB k bs n x:=by
 rw[C7f,zu,A92,all_eq_true];unfold sts;rw[qo (by lia)];constructor
 ·intro a;refine ⟨f,λj hj=>(W.iff _).mp (of_decide_eq_true (a j (mem_range.mpr (by lia))))⟩
 ·rintro ⟨_,a⟩ j hj;rw[mem_range] at hj;exact decide_eq_true ((W.iff _).mpr (a j (by lia)))
theorem C2v (us:List Str) (t:Str):inD (.str t) (us.map .str)=decide (t∈us):=by
 unfold inD;rw[zu,any_eq_true,zq];constructor
 ·rintro ⟨d,hd,e⟩;obtain ⟨u,hu,rfl⟩:=zg.mp hd;have:u=t:=by simpa [PyData.eqv] using e
  rw[<-this];exact hu
 ·intro h;exact ⟨.str t,zg.mpr ⟨t,h,rfl⟩,by simp[PyData.eqv]⟩
theorem A42 (us:List Str):(us.map PyData.str).all O6=true:=by
 rw[all_eq_true];intro d hd;obtain ⟨u,_,rfl⟩:=zg.mp hd;rfl
theorem B75 {x:Str} (h:j+n<=x.length):Txt.slice x (some ((j:Nat):Int)) (some (((j:Nat):Int)+(n:Int)))=prt x n j:=by
 have:=slice_closesL (x:=x) (i:=(j:Int)) (j:=(j:Int)+n) (by lia) (by lia) (by lia);rw[beq_iff_eq] at this;rw[this];unfold prt sT;congr 3;lia
theorem A8g {f:Addr} (F:W2 K "stands_by" "stands_by" Z7 f fd) (T:Blt mg) (D_is_free:Df P w K mg base "is_free" ["word","bars"] 1 (G6 K Q3)):I0 P w K mg base Z2 2 f fd ["windows","bars","word"] (G6 K C29):=by
 refine ok0 F Y2 (λds Q X h=>?_) (λcdv A outer s H E hr=>?_) λds Qd Xd h=>h
 ·obtain ⟨k,n,us,bs,x,rfl,_⟩:=h;rfl
 refine ⟨_,(A1 (D6 (A0q (A6j (by rfl) (B0 0))) (A6 (B4 K9)) B9)
   (A1 (B7 3 Y2.nd (B3 N9 (by rfl) (by exact T.len) (by decide +kernel) (A0 (J6 (dix (by rfl)) (B0 0) A4 (λ_ _=>rfl)) A2)))
   (A1 (D6 (D3 A7x (B3 N9 (by rfl) (by exact T.len) (by decide +kernel) (A0 (B0 2) A2)) (B0 3) (E7 _)) (A6 (B4 (B3 (A21 (by rfl) (by rfl)) (by rfl) (by exact T.any) (by decide +kernel) (A0 (S9 ["window"] [("word",2)] rfl (C2.of (by kernel_rfl)) (D1 (by rfl) (B0 0)) (λ_ _ _ _=>⟨(J9 0 (N2 (by kernel_rfl))),G3,(G4 (by rfl) (by rfl) (D1f (by rfl) PySem.F.slot_str_startswith PySem.F.type_str_startswith D1k (B0 0) (B0 1)))⟩)) A2)))) B9)
   (A1 (V9 (i:=4) (hN:=Y2.nd) (hyi:=rfl) (hy:=rfl) (hc:=rfl) (own:=["at"]) (cap:=[("word",2),("width",3)]) (L:=C2.of (by kernel_rfl)) (hi:=(K2 (by rfl) (by exact T.range) (A0 (A8 C3 (A8 N6 (B3 N9 (by rfl) (by exact T.len) (by decide +kernel) (A0 (B0 2) A2)) (B0 3)) A4) A2))) (hin:=(λ_ _ _ _=>⟨(J9 0 (N2 (by kernel_rfl))),G3,(G4 (by rfl) (by rfl) (D8 (B0 1) (C8 (B0 0)) (C8 (A8 C3 (B0 0) (B0 2)))))⟩)))
   (A6 (B4 (X8 (C7 (by exact D_is_free) (by exact hr.mono (by lia)) (A0 (B0 2) (A0 (B0 1) A2))) (X7 (B3 (C7u (by rfl) (by rfl)) (by rfl) (by exact T.all) (by decide +kernel) (A0 (S9 ["part"] [("windows",0)] rfl (C2.of (by kernel_rfl)) (D1 (by rfl) (B0 4)) (λ_ _ _ _=>⟨(J9 0 (N2 (by kernel_rfl))),G3,(G4 (by rfl) (by rfl) (X0 (D49 (by rfl)) (B0 0) (B0 1) rfl))⟩)) A2)))))))))),λds Qd h=>?_⟩
 obtain ⟨k,n,us,bs,x,rfl,W,hn1,hn,hb,hx,q⟩:=h;show (_:L1) _ [some (false,.list (us.map .str)),some (false,bD bs),some (false,.str x),none,none] _;cbv;rw[List.isEmpty_map,Bool.not_not];refine M6 (λh0=>?_) λh0=>?_
 ·rw[List.isEmpty_iff] at h0;subst h0;rw[C0a (C71 W)] at q;cbv;exact q
 obtain ⟨u,hu0⟩:∃ u,us[0]?=some u:=by
  cases us with
  | nil=>cases h0
  | cons u r=>exact ⟨u,rfl⟩
 have hul:=(O8 ((W.iff u).mp (zr hu0))).1;cbv;refine ⟨.str u,L5 (xs:=us.map PyData.str) (j:=0) (by rw[qk,hu0];rfl),?_⟩;have hul':u.length<=100:=by lia
 cbv;rw[hul];refine B6k (λh1=>?_) λh1=>?_
 ·have h1:x.length < n:=by simp at h1;lia
  cbv;refine L6 (L:=us) PyData.str (λt=>.bool (Txt.startswith t x)) (λt ht es Q' hl q'=>?_) (by have:=W.len;lia) ?_
  ·cbv;exact q'
  cbv;refine ⟨_,O9 _ _,?_⟩;cbv;rw[B8s W h1];exact q
 have h1:n<=x.length:=by simp at h1;lia
 cbv;rw[show ((x.length:Int) - (n:Int)+1).toNat=x.length - n+1 from by lia];refine L6 (L:=List.range (x.length - n+1)) (λj:Nat=>.int (0+(j:Int))) (λj=>.str (prt x n j)) (λj hj es Q' hl q'=>?_) (by rw[length_range];lia) ?_
 ·have hj:=mem_range.mp hj;cbv;rw[show (0+(j:Int))=(j:Int) from by lia,B75 (by lia)]
  first|exact q'|exact ⟨hl,rfl,q'⟩
 cbv;refine ⟨x,bs,rfl,hb,?_⟩;cbv;refine M6 (λh2=>?_) λh2=>?_
 rotate_left
 ·have e:stB k bs n x=false:=C0a λz=>by
   unfold sts at z;rw[qo (by lia),h2] at z;exact absurd z.1 (by decide)
  rw[e] at q
  first|exact q|(cbv;exact q)
 cbv;refine L6 (L:=List.range (x.length - n+1)) (λj=>.str (prt x n j)) (λj=>.bool (decide (prt x n j∈us))) (λj hj es Q' hl q'=>?_) (by rw[length_range];lia) ?_
 ·cbv;rw[C2v]
  first|exact ⟨⟨rfl,A42 us⟩,hl,trivial,q'⟩|exact ⟨⟨rfl,A42 us⟩,q'⟩
 cbv;refine ⟨_,O9 _ _,?_⟩;cbv;rw[C3o W h1 h2];exact q
end
open M23
section
variable {P:Program} {w:World} {K:W.Frag} {mg:Str->Option Value} {base:Heap}
def esL (L:List (Str × Wd)):List (C1 × D):=L.map λp=>(Sum.inr p.1,.str (sT p.2))
theorem A28 (L:List (Str × Wd)):(esL L).map (·.1)=(L.map Prod.fst).map Sum.inr:=by unfold esL;rw[map_map,map_map];rfl
theorem Q0:∀ {L:List (Str × Wd)} {p:Str × Wd},(L.map Prod.fst).Nodup->p∈L->look (esL L) (.inr p.1)=some (.str (sT p.2))
 | q::r,p,hn,hp=>by
  rw[map_cons,nodup_cons] at hn;show look ((Sum.inr q.1,PyData.str (sT q.2))::esL r) _=_;rcases zk.mp hp with rfl|hp
  ·unfold look;rw[List.find?_cons_of_pos (by simp)];rfl
  ·have hne:q.1≠p.1:=λz=>hn.1 (by rw[z];exact zg.mpr ⟨p,hp,rfl⟩);have e:look ((Sum.inr q.1,PyData.str (sT q.2))::esL r) (.inr p.1)=look (esL r) (.inr p.1):=by
    unfold look;rw[find?_cons_of_neg (by simpa using hne)]
   rw[e];exact Q0 hn.2 hp
theorem A6p:∀ {L:List (Str × Wd)} {t:Str},t∉L.map Prod.fst->look (esL L) (.inr t)=none
 | [],_,_=>rfl
 | q::r,t,h=>by
  rw[map_cons,zk,not_or] at h;show look ((Sum.inr q.1,PyData.str (sT q.2))::esL r) _=_;have e:look ((Sum.inr q.1,PyData.str (sT q.2))::esL r) (.inr t)=look (esL r) (.inr t):=by
   unfold look;rw[find?_cons_of_neg (by simpa using Ne.symm h.1)]
  rw[e];exact A6p h.2
theorem B5v (hn:(L.map Prod.fst).Nodup) (t:Str):(look (esL L) (.inr t)).isSome=decide (t∈L.map Prod.fst):=by
 by_cases h:t∈L.map Prod.fst
 ·obtain ⟨p,hp,rfl⟩:=zg.mp h;rw[Q0 hn hp,decide_eq_true h];rfl
 ·rw[A6p h,decide_eq_false h];rfl
theorem A8p (L:List (Str × Wd)) (t:Str) (w:Wd):A0z (esL L) (.inr t) (.str (sT w))=esL (A0b L t w):=by
 have ha:((esL L).any λp=>decide (p.1=Sum.inr t))=decide (t∈L.map Prod.fst):=by
  rw[zu,any_eq_true,zq];constructor
  ·rintro ⟨p,hp,e⟩;obtain ⟨q,hq,rfl⟩:=zg.mp hp;have:q.1=t:=by simpa using e
   exact zg.mpr ⟨q,hq,this⟩
  ·intro h;obtain ⟨q,hq,e⟩:=zg.mp h;exact ⟨_,zg.mpr ⟨q,hq,rfl⟩,by simp[e]⟩
 unfold A0z A0b;rw[ha];by_cases h:t∈L.map Prod.fst
 ·rw[qm (by simpa using h),qm h];unfold esL;rw[map_map,map_map];refine List.map_congr_left λp _=>?_;show (if (Sum.inr p.1:C1)=Sum.inr t then _ else _)=(Sum.inr (if p.1=t then (p.1,w) else p).1,PyData.str (sT (if p.1=t then (p.1,w) else p).2));by_cases e:p.1=t
  ·rw[qm (by rw[e]),qm e]
  ·rw[qo (λz=>e (by injection z)),qo e]
 ·rw[qo (by simpa using h),qo h];unfold esL;rw[map_append];rfl
theorem C2w {t:Str} {w:Wd} (h:t∉L.map Prod.fst):A0b L t w=L++[(t,w)]:=by unfold A0b;rw[qo h]
theorem A1w (L:List (Str × Wd)):(esL L).length=L.length:=qf _
noncomputable def A3m (k:Nat) (bs:List Str) (n:Nat) (x:Str) (u:Str):Bool:=stB k bs n (u++x)
def B1t:Option Wd->D
 | none=>.none
 | some w=>.str (sT w)
theorem C5r (k:Nat) (bs:List Str) (n:Nat) (u:Str) (c:Nat):okS k bs n u c=stB k bs n (u++G8 c):=rfl
abbrev A56:Stmt:=top 26
theorem M7:C0 ["signs","bars","one","other","windows","words","queue","at","window","sign","behind"] ["signs","bars","one","other"] (B1 A56):=by walk_at "sc"
def C0u (cA cN3 cWd:Addr):W1:=λds Q X=>∃ (k:Int) (bs:List Str) (one other:Str),ds=[.int k,bD bs,.str one,.str other]/\Sml bs/\one.length<=100/\other.length<=100/\(L4 k bs->wds k bs<=128->(¬ (Q4 k.toNat bs (W6 bs).toNat one/\Q4 k.toNat bs (W6 bs).toNat other)->X cWd)/\(Q4 k.toNat bs (W6 bs).toNat one->Q4 k.toNat bs (W6 bs).toNat other->∀ us,Wnd k.toNat bs (W6 bs).toNat us->∀ r,A3h (A7 k.toNat) (okS k.toNat bs (W6 bs).toNat) T5 (A3m k.toNat bs (W6 bs).toNat other) one us.length r->Q (B1t r) true))/\(¬ L4 k bs->X cA)/\(L4 k bs->¬ wds k bs<=128->X cN3)
theorem B7u {f:Addr} (F:W2 K "bridge" "bridge" A56 f fd) (T:Blt mg) (C_NoWord:W4 K mg "NoWord" cWd) (G_SIGNS:A9y K mg "SIGNS" SIG) (D_windows_of:DfE P w K mg base "windows_of" ["signs","bars"] 5 (G6 K (B37 cA cN3))) (D_stands_by:Df P w K mg base "stands_by" ["windows","bars","word"] 2 (G6 K C29)):I0 P w K mg base (CXE P w base) 6 f fd ["signs","bars","one","other"] (G6 K (C0u cA cN3 cWd)):=by
 refine okE F M7 (λds Q X h=>?_) (λcdv A outer s H E hr=>?_)
 ·obtain ⟨k,bs,one,other,rfl,_⟩:=h;rfl
 refine ⟨_,(A1 (B7 4 M7.nd (A4d (by exact D_windows_of) B4x (by exact hr.mono (by lia)) (A0 (B0 0) (A0 (B0 1) A2))))
   (A1 (D6 (dnT (A6s (A4f (D3 (A2u (by rfl)) (B0 2) (B0 4) rfl) (A3x (D3 (A2u (by rfl)) (B0 3) (B0 4) rfl))))) (A6 (R3 P4 (by rfl) (by exact C_NoWord) (by rfl) (A0 C5 A2))) B9)
   (A1 (dnS (B7 5 M7.nd (A71 (B0 2))))
   (A1 (dnS (B7 6 M7.nd (G5 (A0 (B0 2) A2))))
   (A1 (dnS (B7 7 M7.nd A4))
   (A1 (dnS (A30 PassesOwn.never (D3 A7x (B0 7) (B3 (A0m (by rfl)) (by rfl) (by exact T.len) (by decide +kernel) (A0 (B0 6) A2)) (E7 _)) (A1 (B7 8 M7.nd (J6 (dix (by rfl)) (B0 6) (B0 7) (λ_ _=>rfl)))
   (A1 (D6 (N8 (C7 (by exact D_stands_by) (by exact hr.mono (by lia)) (A0 (B0 4) (A0 (B0 1) (A0 (A8 C3 (B0 8) (B0 3)) A2))))) (A6 (B4 (A4l (by exact qq (zh (by decide) _) hr.units) (B0 5) (K1 (B0 8)) (λ_ _=>rfl)))) B9)
   (A1 (G0 PassesOwn.never rfl (A46 (by rfl) (R8 (by rfl) (V6 (by exact G_SIGNS) (by rfl)) D5 (C8 (B0 0)))) (J9 9 M7.nd) (A1 (B7 10 M7.nd (A8 C3 (D8 (B0 8) (C8 A4) D5) (B0 9)))
   (A6 (D6 (A6s (B5z (A4o (by exact qq (zh (by decide) _) hr.units) (K1 (B0 10)) (B0 5) (by rfl)) (B25 (N8 (C7 (by exact D_stands_by) (by exact hr.mono (by lia)) (A0 (B0 4) (A0 (B0 1) (A0 (A8 C3 (B0 8) (B0 9)) A2)))))))) (A1 (A2j 5 (by exact qq (zh (by decide) _) hr.units) (qpv 5) (K1 (B0 10)) (A8 C3 (A4l (by exact qq (zh (by decide) _) hr.units) (B0 5) (K1 (B0 8)) (λ_ _=>rfl)) (B0 9)))
   (A6 (X2 6 (by rfl) (qpv 6) (B0 10) (by rfl) (by rfl) (by rfl)))) B9))))
   (A6 (B9e 7 M7.nd A4 D0s)))))))
   (A6 (dnS (B4 A9x))))))))),λds Qd Xd h=>?_⟩
 obtain ⟨k,bs,one,other,rfl,hs,h1,h2,q,x1,x2⟩:=h;show (_:L1) _ [some (false,.int k),some (false,bD bs),some (false,.str one),some (false,.str other),none,none,none,none,none,none,none] _;cbv;refine ⟨k,bs,rfl,hs,λhg hw us u1 u2 u3=>?_,x1,x2⟩;obtain ⟨n,en,hn1,hn5⟩:=C15 hg;obtain ⟨kk,ek,hk⟩:∃ kk:Nat,k=(kk:Int)/\K3 kk:=⟨k.toNat,by have:=hg.1;lia,by have:=hg.1;unfold K3;lia⟩;obtain ⟨q0,q⟩:=q hg hw;subst ek;rw[en,Int.toNat_natCast] at q q0 u2;have e0:((n:Nat):Int).toNat=n:=rfl;rw[e0] at q q0 u2;have V:Wnd kk bs n us:=⟨u1,u2,u3⟩;have hk4:kk<=4:=by rcases hk with rfl|rfl|rfl<;>decide
 unfold wD;cbv;refine ⟨⟨rfl,A42 us⟩,?_⟩;rw[C2v];cbv;refine M6 (λz=>?_) λz=>?_
 ·cbv;have hx:=q0 λy=>by rw[decide_eq_true ((V.iff one).mpr y.1)] at z;cases z
  first|exact hx|exact ⟨by decide,hx⟩
 have w1:Q4 kk bs n one:=(V.iff one).mp (by simpa using z);cbv;refine ⟨⟨rfl,A42 us⟩,?_⟩;rw[C2v];cbv;refine M6 (λz=>?_) λz=>?_
 ·cbv;have hx:=q0 λy=>by rw[decide_eq_true ((V.iff other).mpr y.2)] at z;cases z
  first|exact hx|exact ⟨by decide,hx⟩
 have w2:Q4 kk bs n other:=(V.iff other).mp (by simpa using z);have q:=q w1 w2 us V;have ol:=(O8 w2).1;cbv;refine ⟨.inr one,rfl,?_⟩;cbv;refine ⟨λm O=>∃ (L:List (Str × Wd)) (a:Nat) (x8 x9 x10:Option (Bool × D)),O=[some (false,.int (kk:Int)),some (false,bD bs),some (false,.str one),some (false,.str other),some (true,.list (us.map .str)),some (true,K8 (esL L)),some (true,.list ((L.map Prod.fst).map .str)),some (false,.int (a:Int)),x8,x9,x10]/\Bf (A7 kk) (okS kk bs n) T5 (A3m kk bs n other) one us L a []/\a<=L.length/\m=us.length - a,⟨_,[(one,[])],0,_,_,_,by
  have e:Str.ofString ""=sT []:=by decide +kernel
  rw[e];rfl,Bf.start ((V.iff one).mpr w1),zz _,rfl⟩,?_⟩
 rintro m O ⟨L,a,x8,x9,x10,rfl,B,hal,rfl⟩;have fw:=B.few;cbv;rw[qf,qf];refine B6k (λha=>?_) λha=>?_
 rotate_left
 ·have ha:L.length<=a:=by simp at ha;lia
  cbv;exact q none (B.none ha)
 have ha:a < L.length:=by simp at ha;lia
 obtain ⟨p,hp⟩:∃ p,L[a]?=some p:=⟨_,zd ha⟩;have hpm:=zr hp;have pu:=B.inU p hpm;have pw:=(V.iff p.1).mp pu;have pl:=(O8 pw).1;cbv;refine ⟨.str p.1,L5 (j:=a) (by rw[qk,qk,hp];rfl),?_⟩;cbv;refine ⟨kk,n,us,bs,p.1++other,rfl,V,hn1,by lia,hs.1,by rw[R7];lia,?_⟩;cbv;refine M6 (λhc=>?_) λhc=>?_
 ·cbv;refine .inl ⟨_,.inr p.1,_,rfl,rfl,Q0 B.nd hpm,?_⟩;cbv;exact q (some p.2) (B.found hp hc)
 cbv;rw[A3z hk];refine M5 (λj O=>∃ (L':List (Str × Wd)) (x9 x10:Option (Bool × D)),O=[some (false,.int (kk:Int)),some (false,bD bs),some (false,.str one),some (false,.str other),some (true,.list (us.map .str)),some (true,K8 (esL L')),some (true,.list ((L'.map Prod.fst).map .str)),some (false,.int (a:Int)),some (false,.str p.1),x9,x10]/\Bf (A7 kk) (okS kk bs n) T5 (A3m kk bs n other) one us L' a ((A7 kk).take j)/\L'[a]?=some p) ⟨L,_,_,rfl,B,hp⟩ ?_ ?_
 ·rintro j d O hd ⟨L',x9,x10,rfl,B',hp'⟩;obtain ⟨c,hc,rfl⟩:∃ c,(A7 kk)[j]?=some c/\d=.str (G8 c):=by
   rw[qk] at hd;cases e:(A7 kk)[j]? with
   | none=>rw[e] at hd;cases hd
   | some r=>rw[e] at hd;cases hd;exact ⟨r,rfl,rfl⟩
  have hcm:=zr hc;have etk:(A7 kk).take (j+1)=(A7 kk).take j++[c]:=by rw[take_add_one,hc];rfl
  have hlt:∀ d∈(A7 kk).take j,d < c:=C1v (rest:=(A7 kk).drop (j+1)) (by
   obtain ⟨h1,h2⟩:=qh.mp hc;rw[<-h2,<-List.drop_eq_getElem_cons h1,take_append_drop])
  have fw':=B'.few;rw[etk];cbv;have el:(Txt.slice p.1 (some 1) none)=sl1 p.1:=rfl;rw[el];have sl:=Txt.slice_le p.1 (some 1) none;rw[el] at sl;refine ⟨by show (sl1 p.1).length+1<=_;lia,?_⟩;cbv;rw[B5v B'.nd];have en:sl1 p.1++G8 c=T5 p.1 c:=rfl;rw[en];refine M6 (λhn=>?_) λhn=>?_
  ·have hn:T5 p.1 c∉L'.map Prod.fst:=by simpa using hn
   cbv;refine ⟨by show p.1.length+1<=_;lia,?_⟩;cbv;refine ⟨kk,n,us,bs,p.1++G8 c,rfl,V,hn1,by lia,hs.1,by rw[R7];show p.1.length+1<=_;lia,?_⟩;cbv;refine M6 (λho=>?_) λho=>?_
   ·have hpl:p.2.length<=a:=B'.len a p hp';have spl:(sT p.2).length=p.2.length:=by rw[<-D4,A3c]
    cbv;refine .inl ⟨_,.inr p.1,_,rfl,rfl,Q0 B'.nd (zr hp'),?_⟩;cbv;refine ⟨by rw[spl];show p.2.length+1<=_;lia,?_⟩;have ea:sT p.2++G8 c=sT (p.2++[c]):=ext (by rw[M3];rfl);rw[ea];cbv;refine ⟨by rw[A1w];lia,?_⟩;rw[A8p,C2w hn];cbv;refine D04 rfl (by rw[qf,qf];lia) ?_;cbv;have ow:okS kk bs n p.1 c=true:=ho;refine ⟨L'++[(T5 p.1 c,p.2++[c])],some (false,.str (G8 c)),some (false,.str (T5 p.1 c)),?_,B'.add hp' hlt hcm ow hn ((V.iff _).mpr (behind pw hn1 (W7.mp ow))),?_⟩
    ·rw[map_append,map_append];rfl
    ·rw[List.getElem?_append_left (qh.mp hp').1];exact hp'
   ·cbv;exact ⟨L',_,_,rfl,B'.skip hp' hlt (λo=>by rw[C5r,ho] at o;cases o),hp'⟩
  ·have hn:T5 p.1 c∈L'.map Prod.fst:=by simpa using hn
   cbv;exact ⟨L',_,_,rfl,B'.skip hp' hlt (λ_=>by obtain ⟨q,hq,e⟩:=zg.mp hn;exact ⟨q,hq,e⟩),hp'⟩
 ·rintro O ⟨L',x9,x10,rfl,B',hp'⟩;rw[qf,take_length] at B';have fw':=B'.few;have hl':=(qh.mp hp').1;cbv;refine ⟨_,_,rfl,?_⟩;cbv;refine ⟨1,rfl,?_⟩;exact ⟨us.length - (a+1),by lia,L',a+1,_,_,_,rfl,B'.next hp' hc,by lia,rfl⟩
theorem A2f {k:Nat} (hk:k<=4) (h:c∈A7 k):c < 128:=by
 unfold A7 at h;obtain ⟨i,hi,rfl⟩:=zg.mp h;rw[mem_range] at hi;lia
theorem B51 {k:Nat} {bs:List Str} {t:Str} (hk:k<=4) (h:Q4 k bs n t):Asc t:=λc hc=>A2f hk ((O8 h).2 c hc)
structure Wld (k:Nat) (bs:List Str) (n:Nat) (l1 l0:List Str):Prop where
 nd:l1.Nodup
 bk:∀ t,t∈l1 ↔ P2 (G9 k bs n) true t
 on:∀ t,t∈l0 ↔ P2 (G9 k bs n) false t
 s1:l1.length<=5000
 s0:l0.length<=5000
 sm:(l1.filter λt=>decide (t∈l0)).length < 128
 k3:K3 k
 wd:W6 bs=(n:Int)
 n1:1<=n
 n5:n<=5
 sb:Sml bs
def E1g (l1 l0:List Str):D:=.tuple [K8 (tD l1),K8 (tD l0)]
theorem Wld.win {k:Nat} {bs:List Str} (W:Wld k bs n l1 l0) (t:Str):(t∈l1/\t∈l0) ↔ Q4 k bs n t:=by rw[X5,W.bk,W.on]
theorem Wld.wnd {k:Nat} {bs:List Str} (W:Wld k bs n l1 l0) (h1:us.Pairwise O7) (h2:∀ t,t∈us ↔ t∈l1/\t∈l0) (h3:us.length < 128):Wnd k bs n us:=⟨h1,λt=>(h2 t).trans (W.win t),h3⟩
noncomputable def stp (k:Nat) (bs:List Str) (n:Nat) (u:Str) (cs:List Nat):List D:=(cs.filter λc=>okS k bs n u c).map λc=>.tuple [.str (G8 c),.str (T5 u c)]
theorem C5x {k:Nat} {bs:List Str} {l1:List Str} (b2:∀ t,t∈l0 ↔ P2 (G9 k bs n) false t) (hn:1<=n) (hu:Q4 k bs n u) (hc:c∈A7 k):(decide (T5 u c∈l0)&&fr bs (u++G8 c))=okS k bs n u c:=by
 have hl:=(O8 hu).1;have hx:(u++G8 c).length=n+1:=by rw[R7,hl];rfl
 have ok:Ok k (u++G8 c).cps.toList:=λd hd=>by
  rw[M3] at hd;rcases zj.mp hd with hd|hd
  ·exact (O8 hu).2 d hd
  ·have:d=c:=by simpa [G8] using hd
   rw[this];exact hc
 rw[zu,zb,zq,b2,W7,same ok];unfold lws;rw[qo (by lia)];have e1:sT ((u++G8 c).cps.toList.take n)=u:=by
  refine ext ?_;rw[A3c,M3,List.take_left' (by rw[D4];exact hl)]
 have e2:sT ((u++G8 c).cps.toList.drop ((u++G8 c).length - n))=T5 u c:=by
  refine ext ?_;rw[A3c,hx,show n+1 - n=1 from by lia,List.drop_one,<-X1 (by lia),A4x (by lia)];rfl
 rw[e1,e2];exact ⟨λh=>⟨h.2,(X5.mp hu).1,h.1⟩,λh=>⟨h.2.2,h.1⟩⟩
abbrev A1k:Stmt:=top 40
theorem T6:C0 ["_law_bars_here","_law_lasting_here","_law_letters","_law_word_here","_law_found","_law_sign","_law_there"] ["_law_bars_here","_law_lasting_here","_law_letters","_law_word_here"] (B1 A1k):=by walk_at "sc"
def B44:W1:=λds Q _=>∃ (k n:Nat) (l0 bs:List Str) (z u:Str),ds=[bD bs,K8 (tD l0),.str z,.str u]/\(∀ t,t∈l0 ↔ P2 (G9 k bs n) false t)/\z.cps.toList=A7 k/\k<=4/\1<=n/\n<=5/\Sml bs/\Q4 k bs n u/\Q (.list (stp k bs n u (A7 k))) true
theorem C01 {k:Nat} {bs:List Str} {cs:List Nat} (h:cs[j]?=some c):stp k bs n u (cs.take (j+1))=stp k bs n u (cs.take j)++(if okS k bs n u c=true then [.tuple [.str (G8 c),.str (T5 u c)]] else []):=by
 unfold stp;rw[take_add_one,h];simp only[Option.toList_some,filter_append,map_append,List.filter_cons,List.filter_nil];split<;>rfl
theorem C7a (k n:Nat) (bs:List Str) (u:Str) (cs:List Nat):(stp k bs n u cs).length<=cs.length:=by
 unfold stp;rw[qf];exact length_filter_le _ _
theorem B27 {f:Addr} (F:W2 K "_law_behind" "_law_behind" A1k f fd) (T:Blt mg) (D_l_free:Df P w K mg base "_law_free" ["_law_word_here","_law_bars_here"] 1 (G6 K Q3)):I0 P w K mg base Z2 2 f fd ["_law_bars_here","_law_lasting_here","_law_letters","_law_word_here"] (G6 K B44):=by
 refine ok0 F T6 (λds Q X h=>?_) (λcdv A outer s H E hr=>?_) λds Qd Xd h=>h
 ·obtain ⟨k,n,l0,bs,z,u,rfl,_⟩:=h;rfl
 refine ⟨_,(A1 (B7 4 T6.nd (G5 A2))
   (A1 (P6 2 (G0 PassesOwn.never rfl (A48 (B0 2)) (J9 5 T6.nd) (A1 (B7 6 T6.nd (D8 (A8 C3 (B0 3) (B0 5)) (C8 A4) D5))
   (A6 (D6 (A6s (B5z (B67 (by exact qq (zh (by decide) _) hr.units) (K1 (B0 6)) (B0 1) (by rfl)) (B25 (N8 (C7 (by exact D_l_free) (by exact hr.mono (by lia)) (A0 (A8 C3 (B0 3) (B0 5)) (A0 (B0 0) A2))))))) (A6 (X2 4 (by rfl) (qpv 4) (D9 (A0 (B0 5) (A0 (B0 6) A2))) (by rfl) (by rfl) (by rfl))) B9)))))
   (A6 (B4 (B0 4))))),λds Qd h=>?_⟩
 obtain ⟨k,n,l0,bs,z,u,rfl,b2,hz,hk4,hn1,hn5,hs,hu,q⟩:=h;have hl:=(O8 hu).1;show (_:L1) _ [some (false,bD bs),some (false,K8 (tD l0)),some (false,.str z),some (false,.str u),none,none,none] _;cbv;unfold DL.signs;rw[hz];refine M5 (λj O=>∃ x5 x6:Option (Bool × D),O=[some (false,bD bs),some (false,K8 (tD l0)),some (false,.str z),some (false,.str u),some (true,.list (stp k bs n u ((A7 k).take j))),x5,x6]) ⟨_,_,rfl⟩ ?_ ?_
 ·rintro j d O hd ⟨x5,x6,rfl⟩;obtain ⟨c,hc,rfl⟩:∃ c,(A7 k)[j]?=some c/\d=.str (G8 c):=by
   rw[qk] at hd;cases e:(A7 k)[j]? with
   | none=>rw[e] at hd;cases hd
   | some r=>rw[e] at hd;cases hd;exact ⟨r,rfl,rfl⟩
  have hcm:=zr hc;have hjl:j < k:=by have:=(qh.mp hc).1;rw[A40] at this;exact this
  have hsl:=C7a k n bs u ((A7 k).take j);rw[ja] at hsl;have hx:(u++G8 c).length=n+1:=by rw[R7,hl];rfl
  have el:(Txt.slice (u++G8 c) (some 1) none)=T5 u c:=A4x (by lia);rw[C01 hc,<-C5x (l1:=l0) b2 hn1 hu hcm];cbv;refine ⟨by rw[hl];show n+1<=_;lia,?_⟩;cbv;rw[el];cbv;rw[A2k];refine M6 (λh1=>?_) λh1=>?_
  ·have h1:decide (T5 u c∈l0)=true:=h1;cbv;refine ⟨by rw[hl];show n+1<=_;lia,?_⟩;cbv;refine ⟨u++G8 c,bs,rfl,hs.1,?_⟩;cbv;refine M6 (λh2=>?_) λh2=>?_
   ·rw[h1,h2,Bool.and_self,qm rfl];cbv;refine D04 rfl (by lia) ?_;cbv;exact ⟨_,_,rfl⟩
   ·simp only[h2,Bool.and_false,zo,if_false,append_nil];cbv;exact ⟨_,_,rfl⟩
  ·have h1:decide (T5 u c∈l0)=false:=h1;simp only[h1,Bool.false_and,zo,if_false,append_nil];cbv;exact ⟨_,_,rfl⟩
 ·rintro O ⟨x5,x6,rfl⟩;rw[qf,take_length];cbv;exact q
abbrev A9s:Stmt:=top 41
theorem A4e:C0 ["_law_signs","_law_bars_here","_law_world_here","_law_net_here","_law_word_here"] ["_law_signs","_law_bars_here","_law_world_here"] (B1 A9s):=by walk_at "sc"
noncomputable def P8 (k n:Nat) (bs us:List Str):List (C1 × D):=us.map λu=>(.inr u,.list (stp k bs n u (A7 k)))
noncomputable def B7g (k n:Nat) (bs us:List Str):D:=clD (P8 k n bs us)
def B36:W1:=λds Q _=>∃ (k n:Nat) (l1 l0 bs:List Str),ds=[.int k,bD bs,E1g l1 l0]/\Wld k bs n l1 l0/\∀ us:List Str,Wnd k bs n us->Q (B7g k n bs us) false
theorem C1t {f:Addr} (F:W2 K "_law_net" "_law_net" A9s f fd) (T:Blt mg) (D_l_windows:Df P w K mg base "_law_windows" ["_law_world_here"] 1 (G6 K A8h)) (D_l_behind:Df P w K mg base "_law_behind" ["_law_bars_here","_law_lasting_here","_law_letters","_law_word_here"] 2 (G6 K B44)):I0 P w K mg base Z2 3 f fd ["_law_signs","_law_bars_here","_law_world_here"] (G6 K B36):=by
 refine ok0 F A4e (λds Q X h=>?_) (λcdv A outer s H E hr=>?_) λds Qd Xd h=>h
 ·obtain ⟨k,n,l1,l0,bs,rfl,_⟩:=h;rfl
 refine ⟨_,(A1 (B7 3 A4e.nd A0r)
   (A1 (B4h (A8z PassesOwn.never rfl (DI.q (D1 (by rfl) (C7 (by exact D_l_windows) (by exact hr.mono (by lia)) (A0 (B0 2) A2)))) (A11 4 A4e.nd) (B1u (B0p (by exact qq (zh (by decide) _) hr.units) (qpv 3) (qpv 4) (DE.q (C7 (by exact D_l_behind) (by exact hr.mono (by lia)) (A0 (B0 1) (A0 (J6 (dix (by rfl)) (B0 2) A4 (λ_ _=>rfl)) (A0 (D8 C5 D5 (C8 (B0 0))) (A0 (B0 4) A2)))))) rfl))))
   (A6 (B4 (B0 3))))),λds Qd h=>?_⟩
 obtain ⟨k,n,l1,l0,bs,rfl,W,q⟩:=h;show (_:L1) _ [some (false,.int (k:Int)),some (false,bD bs),some (false,.tuple [K8 (tD l1),K8 (tD l0)]),none,none] _;cbv;refine ⟨l1,l0,rfl,W.nd,W.s1,W.sm,λus u1 u2 u3=>?_⟩;have V:=W.wnd u1 u2 u3;cbv;refine ⟨us,λu=>.list (stp k bs n u (A7 k)),by first|trivial|rfl,by first|rfl|trivial,List.Pairwise.imp (λ{a b} (g:O7 a b) (z:a=b)=>O7.irr a (by rw[<-z] at g;exact g)) u1,by lia,trivial,⟨by decide,Nat.le_of_ble_eq_true rfl⟩,λt ht=>?_,?_⟩
 ·cbv;refine ⟨_,L5 (xs:=[K8 (tD l1),K8 (tD l0)]) (j:=1) rfl,?_⟩;cbv;refine ⟨k,n,l0,bs,_,t,rfl,W.on,B58 W.k3,(by rcases W.k3 with rfl|rfl|rfl<;>decide),W.n1,W.n5,W.sb,(V.iff t).mp ht,?_⟩;exact ⟨rfl,rfl⟩
 cbv;exact q us V
theorem A74 {x:Str} {l u:Option Int} (h:c∈(Txt.slice x l u).cps.toList):c∈x.cps.toList:=by
 unfold Txt.slice at h;split at h
 ·exact h
 ·simp only[List.mem_filterMap] at h;obtain ⟨i,_,e⟩:=h;obtain ⟨hi,rfl⟩:=zl.mp e;simp
theorem C9j {n:Int} (h1:1<=n) (h6:n<=6):MulOk (Str.ofString "a") n/\((Txt.mul (Str.ofString "a") n).length:Int)=n/\Asc (Txt.mul (Str.ofString "a") n):=by
 have c:n=1\/n=2\/n=3\/n=4\/n=5\/n=6:=by lia
 rcases c with rfl|rfl|rfl|rfl|rfl|rfl<;>(refine ⟨?_,?_,?_⟩<;>first|(unfold MulOk;decide +kernel)|decide +kernel|(unfold Asc;decide +kernel))
theorem D2t {k:Nat} (hk:k=2\/k=3\/k=4) {i:Int} (h0:0<=i) (h4:i < 4):(Txt.slice (Str.ofString "cdeA z-") (some ((k:Int) - 2)) none).length<=100/\∃ c,atI (Txt.slice (Str.ofString "cdeA z-") (some ((k:Int) - 2)) none).cps.toList i=some c/\c < 128/\¬ (97<=c/\(c:Int) < 97+k):=by
 have c4:i=0\/i=1\/i=2\/i=3:=by lia
 rcases hk with rfl|rfl|rfl
 ·have e:Txt.slice (Str.ofString "cdeA z-") (some (((2:Nat):Int) - 2)) none=⟨#[99,100,101,65,32,122,45]⟩:=by decide +kernel
  rw[e];refine ⟨by decide,?_⟩;rcases c4 with rfl|rfl|rfl|rfl<;>exact ⟨_,rfl,by decide,by decide⟩
 ·have e:Txt.slice (Str.ofString "cdeA z-") (some (((3:Nat):Int) - 2)) none=⟨#[100,101,65,32,122,45]⟩:=by decide +kernel
  rw[e];refine ⟨by decide,?_⟩;rcases c4 with rfl|rfl|rfl|rfl<;>exact ⟨_,rfl,by decide,by decide⟩
 ·have e:Txt.slice (Str.ofString "cdeA z-") (some (((4:Nat):Int) - 2)) none=⟨#[101,65,32,122,45]⟩:=by decide +kernel
  rw[e];refine ⟨by decide,?_⟩;rcases c4 with rfl|rfl|rfl|rfl<;>exact ⟨_,rfl,by decide,by decide⟩
theorem A82 {k:Int} {bs:List Str} {b:Str} (hb:b∈bs) (h:¬ GB k b):St k bs 1:=λg=>h (g.2.2 b hb)
theorem A8n {a b:Str} (h:Asc a) (h':Asc b):Asc (a++b):=λc hc=>by
 rw[A3w] at hc;rcases zj.mp hc with hc|hc
 ·exact h c hc
 ·exact h' c hc
abbrev A93:Stmt:=top 32
theorem O1:C0 ["_law_big_here","_law_signs","_law_way","_law_bar","_law_rest","_law_size","_law_spot","_law_odd"] ["_law_big_here"] (B1 A93):=by walk_at "sc"
def B4n:W1:=λds Q _=>∃ (b:Int),ds=[.int b]/\0<=b/\∀ (k:Int) (bs:List Str) (m:Bool),Sml bs->(∀ x∈bs,Asc x)->St k bs (if m=true then 2 else 1)->Q (.tuple [.int k,bD bs,.bool m]) true
theorem C2u {f:Addr} (F:W2 K "_law_bad" "_law_bad" A93 f fd) (T:Blt mg) (D_l_word:Df P w K mg base "_law_word" ["_law_big_here","_law_letters","_law_many"] 1 (G6 K A4a)):I0 P w K mg base Z2 2 f fd ["_law_big_here"] (G6 K B4n):=by
 refine ok0 F O1 (λds Q X h=>?_) (λcdv A outer s H E hr=>?_) λds Qd Xd h=>h
 ·obtain ⟨b,rfl,_⟩:=h;rfl
 refine ⟨_,(A1 (B7 1 O1.nd (A8 C3 A4 (A8 D7 (B0 0) A4)))
   (A1 (B7 2 O1.nd (A8 D7 (A8 K7 (B0 0) A4) A4))
   (A1 (A43 [3,4] 2 rfl (by rfl) (by rfl) (J8 (A11 3 O1.nd) (J8 (A11 4 O1.nd) A0g)) (by rfl) (by rfl) (C7 (by exact D_l_word) (by exact hr.mono (by lia)) (A0 (A8 K7 (B0 0) A4) (A0 (D8 C5 D5 (C8 (B0 1))) (A0 (A8 N6 A4 (B0 1)) A2)))))
   (A1 (D6 (D3 (O0 (by rfl) (by exact hr.units)) (B0 2) A4 (E7 _)) (A1 (B7 1 O1.nd (A8 C3 A4 (A8 D7 (B0 4) A4)))
   (A1 (B7 5 O1.nd (A8 N6 A4 (A8 T7 (A8 N6 (B0 1) A4) (A8 D7 (A8 K7 (B0 4) A4) A4))))
   (A6 (B4 (D9 (A0 (B0 1) (A0 (G5 (A0 (J6 (dix (by rfl)) (C7 (by exact D_l_word) (by exact hr.mono (by lia)) (A0 (A8 K7 (B0 4) A4) (A0 (D8 C5 D5 (C8 (B0 1))) (A0 (B0 5) A2)))) A4 (λ_ _=>rfl)) A2)) (A0 K9 A2)))))))) B9)
   (A1 (D6 (D3 (O0 (by rfl) (by exact hr.units)) (B0 2) A4 (E7 _)) (A6 (B4 (D9 (A0 (J6 (dix (by rfl)) (D9 (A0 A4 (A0 A4 (A0 A4 (A0 (A8f A4) A2))))) (A8 D7 (B0 4) A4) (λ_ _=>rfl)) (A0 (G5 A2) (A0 K9 A2)))))) B9)
   (A1 (D6 (D3 (O0 (by rfl) (by exact hr.units)) (B0 2) A4 (E7 _)) (A6 (B4 (D9 (A0 (B0 1) (A0 (G5 (A0 (B0 3) (A0 (A8 C3 (B0 3) (A8 A5y C5 (A8 N6 (B0 1) A4))) A2))) (A0 K9 A2)))))) B9)
   (A1 (D6 (D3 (O0 (by rfl) (by exact hr.units)) (B0 2) A4 (E7 _)) (A6 (B4 (D9 (A0 (B0 1) (A0 (G5 (A0 (B0 3) (A0 C5 (A0 (B0 3) A2)))) (A0 K9 A2)))))) B9)
   (A1 (D6 (D3 (O0 (by rfl) (by exact hr.units)) (B0 2) A4 (E7 _)) (A6 (B4 (D9 (A0 (B0 1) (A0 (S9 ["_law_k"] [("_law_bar",3)] rfl (C2.of (by kernel_rfl)) (K2 (by rfl) (by exact T.range) (A0 A4 A2)) (λ_ _ _ _=>⟨(J9 0 (N2 (by kernel_rfl))),G3,(G4 (by rfl) (by rfl) (B0 1))⟩)) (A0 K9 A2)))))) B9)
   (A1 (B7 6 O1.nd (A8 D7 (A8 K7 (B0 4) A4) (B3 N9 (by rfl) (by exact T.len) (by decide +kernel) (A0 (B0 3) A2))))
   (A1 (B7 7 O1.nd (A8 C3 (A8 C3 (D8 (B0 3) D5 (C8 (B0 6))) (J6 D95 (D8 C5 (C8 (A8 N6 (B0 1) A4)) D5) (A8 D7 (B0 4) A4) (λ_ _=>rfl))) (D8 (B0 3) (C8 (A8 C3 (B0 6) A4)) D5)))
   (A6 (B4 (D9 (A0 (B0 1) (A0 (G5 (A0 (B0 3) (A0 (B0 7) (A0 (A8 A5y C5 (A8 N6 A4 (A8 T7 (A8 D7 (A8 K7 (B0 4) A4) A4) A4))) A2)))) (A0 K9 A2)))))))))))))))),λds Qd h=>?_⟩
 obtain ⟨b,rfl,hb,q⟩:=h;show (_:L1) _ [some (false,.int b),none,none,none,none,none,none,none] _;have h3:=Int.emod_nonneg b (show (3:Int)≠0 by decide);have h3':=Int.emod_lt_of_pos b (show (0:Int) < 3 by decide);obtain ⟨k,ek,hk⟩:∃ k:Nat,2+b % 3=(k:Int)/\(k=2\/k=3\/k=4):=⟨(2+b % 3).toNat,by lia,by lia⟩;cbv;rw[ek];obtain ⟨n,en,hn⟩:∃ n:Nat,8 - (k:Int)=(n:Int)/\n+k=8:=⟨8 - k,by lia,by lia⟩;rw[en];refine ⟨_,_,k,n,rfl,Int.ediv_nonneg hb (by decide),B40 hk,by lia,by lia,by lia,λx r hx1 hx2 hr0=>?_⟩;have hxa:Asc x:=λc hc=>(hx2 c hc).asc (by lia);cbv;refine M6 (λhw=>?_) λhw=>?_
 ·have r2:r % 2=0\/r % 2=1:=by lia
  have r3:r / 2 % 2=0\/r / 2 % 2=1:=by lia
  obtain ⟨k2,z,ek2,ez,hz⟩:∃ k2 z:Nat,3+r % 2=(k2:Int)/\6 - ((k2:Int) - 3)*(r / 2 % 2)=(z:Int)/\(k2=3/\z=6\/k2=4/\z=6\/k2=4/\z=5):=by
   rcases r2 with e|e<;>rcases r3 with e'|e'<;>rw[e,e']
   ·exact ⟨3,6,rfl,rfl,.inl ⟨rfl,rfl⟩⟩
   ·exact ⟨3,6,rfl,rfl,.inl ⟨rfl,rfl⟩⟩
   ·exact ⟨4,6,rfl,rfl,.inr (.inl ⟨rfl,rfl⟩)⟩
   ·exact ⟨4,5,rfl,rfl,.inr (.inr ⟨rfl,rfl⟩)⟩
  cbv;rw[ek2];refine ⟨B0f.ok (.inl ⟨by lia,by lia⟩),?_⟩;cbv;rw[ez];refine ⟨_,_,k2,z,rfl,Int.ediv_nonneg hr0 (by decide),B40 (by lia),by lia,by lia,by lia,λy r' hy1 hy2 _=>?_⟩;cbv;refine ⟨.str y,rfl,?_⟩;cbv;have hwid:W6 [y]=(z:Int) - 1:=by
   unfold W6 mx2 W0;simp only[map_cons,List.map_nil,List.foldl_cons,List.foldl_nil,hy1];rw[qm (by lia)]
  refine q (k2:Int) [y] true ⟨Nat.le_of_ble_eq_true rfl,λb hb=>by rw[zc.mp hb];lia⟩ (λb hb=>by rw[zc.mp hb];exact λc hc=>(hy2 c hc).asc (by lia)) ⟨⟨by lia,Nat.le_of_ble_eq_true rfl,λb hb=>by rw[zc.mp hb];exact ⟨by lia,by lia,λc hc=>by have:=hy2 c hc;unfold InL at this;lia⟩⟩,?_⟩;unfold wds;rw[hwid];rcases hz with ⟨rfl,rfl⟩|⟨rfl,rfl⟩|⟨rfl,rfl⟩<;>decide
 cbv;refine M6 (λhw=>?_) λhw=>?_
 ·cbv;have c4:r % 4=0\/r % 4=1\/r % 4=2\/r % 4=3:=by lia
  rcases c4 with e|e|e|e<;>(rw[e];refine ⟨_,rfl,?_⟩;cbv;exact q _ [] false ⟨by decide,λ_ z=>by cases z⟩ (λ_ z=>by cases z) (λg=>by have:=g.1;lia))
 cbv;refine M6 (λhw=>?_) λhw=>?_
 ·cbv;obtain ⟨m1,m2,m3⟩:=C9j (n:=(k:Int) - 1) (by lia) (by lia);refine ⟨m1,?_⟩;revert m2 m3;generalize Txt.mul (Str.ofString "a") ((k:Int) - 1)=y;intro m2 m3;cbv;refine q (k:Int) [x,x++y] false ⟨Nat.le_of_ble_eq_true rfl,λb hb=>?_⟩ (λb hb=>?_) (A82 (b:=x++y) (by simp) λg=>?_)
  ·simp only[zk,List.not_mem_nil,or_false] at hb;rcases hb with rfl|rfl
   ·lia
   ·rw[U3];lia
  ·simp only[zk,List.not_mem_nil,or_false] at hb;rcases hb with rfl|rfl
   ·exact hxa
   ·exact A8n hxa m3
  ·have:=g.2.1;rw[U3] at this;lia
 cbv;refine M6 (λhw=>?_) λhw=>?_
 ·cbv;refine q (k:Int) [x,Str.ofString "",x] false ⟨Nat.le_of_ble_eq_true rfl,λb hb=>?_⟩ (λb hb=>?_) (A82 (b:=Str.ofString "") (by simp) λg=>absurd g.1 (by decide +kernel))
  ·simp only[zk,List.not_mem_nil,or_false] at hb;rcases hb with rfl|rfl|rfl
   ·lia
   ·decide +kernel
   ·lia
  ·simp only[zk,List.not_mem_nil,or_false] at hb;rcases hb with rfl|rfl|rfl
   ·exact hxa
   ·unfold Asc;decide +kernel
   ·exact hxa
 cbv;refine M6 (λhw=>?_) λhw=>?_
 ·cbv;refine L6 (L:=List.range 13) (λx:Nat=>.int (0+(x:Int))) (λ_=>.str x) (λi hi es Q' hl q'=>?_) (by decide) ?_
  ·cbv;exact q'
  ·cbv;refine q (k:Int) ((List.range 13).map λ_=>x) false ⟨(by rw[qf,length_range];decide),λb hb=>?_⟩ (λb hb=>?_) (λg=>absurd g.2.1 (by rw[qf,length_range];decide))
   ·obtain ⟨_,_,rfl⟩:=zg.mp hb;lia
   ·obtain ⟨_,_,rfl⟩:=zg.mp hb;exact hxa
 have hxp:(0:Int) < (x.length:Int):=by lia
 cbv;obtain ⟨o1,c,o2,o3,o4⟩:=D2t hk (i:=r % 4) (by lia) (by lia);refine ⟨by lia,c,o2,?_⟩;have e1:Str.length ⟨#[c]⟩=1:=rfl;have s1:=Txt.slice_le x none (some (r / 4 % (x.length:Int)));have t1:∀ d∈(Txt.slice x none (some (r / 4 % (x.length:Int)))).cps.toList,d∈x.cps.toList:=λd hd=>A74 hd;revert s1 t1;generalize Txt.slice x none (some (r / 4 % (x.length:Int)))=A;intro s1 t1;cbv;have s2:=Txt.slice_le x (some (r / 4 % (x.length:Int)+1)) none;have t2:∀ d∈(Txt.slice x (some (r / 4 % (x.length:Int)+1)) none).cps.toList,d∈x.cps.toList:=λd hd=>A74 hd;revert s2 t2;generalize Txt.slice x (some (r / 4 % (x.length:Int)+1)) none=B;intro s2 t2;have lo:(A++{ cps:=#[c] }++B).length<=100:=by rw[U3,U3,e1];lia
 have ao:Asc (A++{ cps:=#[c] }++B):=A8n (A8n (λd hd=>hxa d (t1 d hd)) λd hd=>by
  have:d=c:=by simpa using hd
  lia) λd hd=>hxa d (t2 d hd)
 have bo:¬ GB (k:Int) (A++{ cps:=#[c] }++B):=λg=>o4 (g.2.2 c (by rw[A3w,A3w];simp));refine ⟨by rw[U3,e1];lia,?_⟩;revert lo ao bo;generalize A++{ cps:=#[c] }++B=o;intro lo ao bo;cbv;have r5:r / 32 % 2=0\/r / 32 % 2=1:=by lia
 obtain ⟨m1,m2,m3⟩:=C9j (n:=6 - r / 32 % 2*3) (by lia) (by lia);refine ⟨m1,?_⟩;have m2':(Txt.mul (Str.ofString "a") (6 - r / 32 % 2*3)).length<=100:=by lia
 revert m2' m3;generalize Txt.mul (Str.ofString "a") (6 - r / 32 % 2*3)=y;intro m3 m2';cbv;have fin:∀ bs:List Str,bs.length=3->(∀ b∈bs,b=x\/b=o\/b=y)->o∈bs->Qd (.tuple [.int (k:Int),bD bs,.bool false]) true:=λbs hl hm ho=>q (k:Int) bs false ⟨by lia,λb hb=>by rcases hm b hb with rfl|rfl|rfl<;>lia⟩ (λb hb=>by
  rcases hm b hb with rfl|rfl|rfl
  ·exact hxa
  ·exact ao
  ·exact m3) (A82 ho bo)
 exact fin [x,o,y] rfl (by simp) (by simp)
noncomputable abbrev goS (k:Nat) (bs:List Str) (n:Nat) (u:Str) (x:Wd):Option Str:=M23.go (A7 k) (okS k bs n) T5 u x
theorem A0v {k:Nat} {bs:List Str}:∀ {us:List Str} {u:Str},u∈us->look (P8 k n bs us) (.inr u)=some (.list (stp k bs n u (A7 k)))
 | a::r,u,h=>by
  show look ((Sum.inr a,PyData.list (stp k bs n a (A7 k)))::P8 k n bs r) _=_;by_cases e:a=u
  ·subst e;unfold look;rw[List.find?_cons_of_pos (by simp)];rfl
  ·have e2:look ((Sum.inr a,PyData.list (stp k bs n a (A7 k)))::P8 k n bs r) (.inr u)=look (P8 k n bs r) (.inr u):=by
    unfold look;rw[find?_cons_of_neg (by simpa using e)]
   rw[e2];exact A0v ((zk.mp h).resolve_left λz=>e z.symm)
theorem A7f {k:Nat} {bs:List Str}:∀ {us:List Str} {u:Str},u∉us->look (P8 k n bs us) (.inr u)=none
 | [],_,_=>rfl
 | a::r,u,h=>by
  rw[zk,not_or] at h;show look ((Sum.inr a,PyData.list (stp k bs n a (A7 k)))::P8 k n bs r) _=_;have e2:look ((Sum.inr a,PyData.list (stp k bs n a (A7 k)))::P8 k n bs r) (.inr u)=look (P8 k n bs r) (.inr u):=by
   unfold look;rw[find?_cons_of_neg (by simpa using Ne.symm h.1)]
  rw[e2];exact A7f h.2
theorem C57 {l:List Nat} (hn:l.Nodup) {f:Nat->Bool} (hc:c∈l):(l.filter f).filter (λd=>decide (d=c))=if f c=true then [c] else []:=by
 induction l with
 | nil=>cases hc
 | cons a r ih =>
  rw[nodup_cons] at hn;by_cases e:a=c
  ·subst e;have hr:(r.filter f).filter (λd=>decide (d=a))=[]:=List.filter_eq_nil_iff.mpr λd hd=>by
    have:=(mem_filter.mp hd).1;simp;rintro rfl;exact hn.1 this
   by_cases hf:f a=true
   ·rw[List.filter_cons_of_pos hf,List.filter_cons_of_pos (by simp),hr,qm hf]
   ·rw[List.filter_cons_of_neg hf,hr,qo hf]
  ·have hc':c∈r:=(zk.mp hc).resolve_left λz=>e z.symm;rw[<-ih hn.2 hc'];by_cases hf:f a=true
   ·rw[List.filter_cons_of_pos hf,List.filter_cons_of_neg (by simpa using e)]
   ·rw[List.filter_cons_of_neg hf]
theorem D4r (k:Nat):(A7 k).Nodup:=by
 unfold A7;exact pairwise_map.mpr (List.Pairwise.imp (λ{a b} h z=>h (by lia)) List.nodup_range)
theorem C5b (c d:Nat):PyData.eqv (.str (G8 c)) (.str (G8 d))=decide (c=d):=by
 rw[zu];simp[PyData.eqv,G8]
theorem B69 (h:c < 128):(PyData.str (G8 c)).canLay0=true:=by
 have:=B3a (bs:=[G8 c]) λt ht d hd=>by
  rw[zc.mp ht] at hd;have:d=c:=by simpa [G8] using hd
  lia
 simpa [PyData.canLayAll0] using this
theorem B4z (l:List Str):PyData.eqv (.list (l.map .str)) (.list [])=l.isEmpty:=by
 cases l with
 | nil=>rfl
 | cons a r=>rfl
abbrev A8w:Stmt:=top 42
theorem A25:C0 ["_law_net_here","_law_window","_law_word_here","_law_sign","_law_some"] ["_law_net_here","_law_window","_law_word_here"] (B1 A8w):=by walk_at "sc"
def B43:W1:=λds Q _=>∃ (k n:Nat) (bs us:List Str) (u x:Str),ds=[B7g k n bs us,.str u,.str x]/\k<=4/\1<=n/\n<=5/\Wnd k bs n us/\Q4 k bs n u/\Ok k x.cps.toList/\x.length<=100/\Q (.bool (goS k bs n u x.cps.toList).isSome) true
theorem C4k {f:Addr} (F:W2 K "_law_can" "_law_can" A8w f fd) (T:Blt mg):I0 P w K mg base Z2 1 f fd ["_law_net_here","_law_window","_law_word_here"] (G6 K B43):=by
 refine ok0 F A25 (λds Q X h=>?_) (λcdv A outer s H E hr=>?_) λds Qd Xd h=>h
 ·obtain ⟨k,n,bs,us,u,x,rfl,_⟩:=h;rfl
 refine ⟨_,(A1 (P6 2 (G0 PassesOwn.never rfl (A48 (B0 2)) (J9 3 A25.nd) (A1 (V9 (i:=4) (hN:=A25.nd) (hyi:=rfl) (hy:=rfl) (hc:=rfl) (own:=["_law_step"]) (cap:=[("_law_sign",3)]) (L:=C2.of (by kernel_rfl)) (hi:=(D1 (by rfl) (A6g (by exact qq (zh (by decide) _) hr.units) (B0 0) (K1 (B0 1)) (λ_ _=>rfl)))) (hin:=(λ_ _ _ _=>⟨(J9 0 (N2 (by kernel_rfl))),(A0k (D3 (O0 (by rfl) (by exact hr.units)) (J6 (dix (by rfl)) (B0 0) A4 (λ_ _=>rfl)) (B0 1) (E7 _))),(G4 (by rfl) (by rfl) (J6 (dix (by rfl)) (B0 0) A4 (λ_ _=>rfl)))⟩)))
   (A1 (D6 (D3 (O0 (by rfl) (by exact hr.units)) (B0 4) (G5 A2) (E7 _)) (A6 (B4 K9)) B9)
   (A6 (B7 1 A25.nd (J6 (dix (by rfl)) (B0 4) A4 (λ_ _=>rfl))))))))
   (A6 (B4 K9))),λds Qd h=>?_⟩
 obtain ⟨k,n,bs,us,u,x,rfl,hk4,hn1,hn5,V,hu,hx,hxl,q⟩:=h;show (_:L1) _ [some (false,B7g k n bs us),some (false,.str u),some (false,.str x),none,none] _;cbv;unfold DL.signs;refine M5 (λj O=>∃ (v:Str) (x3 x4:Option (Bool × D)),O=[some (false,B7g k n bs us),some (false,.str v),some (false,.str x),x3,x4]/\Q4 k bs n v/\goS k bs n u (x.cps.toList.take j)=some v) ⟨u,_,_,rfl,hu,rfl⟩ ?_ ?_
 ·rintro j d O hd ⟨v,x3,x4,rfl,hv,hg⟩;obtain ⟨c,hc,rfl⟩:∃ c,x.cps.toList[j]?=some c/\d=.str (G8 c):=by
   rw[qk] at hd;cases e:x.cps.toList[j]? with
   | none=>rw[e] at hd;cases hd
   | some r=>rw[e] at hd;cases hd;exact ⟨r,rfl,rfl⟩
  have hcm:=hx c (zr hc);have etk:x.cps.toList.take (j+1)=x.cps.toList.take j++[c]:=by rw[take_add_one,hc];rfl
  have eall:x.cps.toList=x.cps.toList.take (j+1)++x.cps.toList.drop (j+1):=(take_append_drop _ _).symm;have vl:=(O8 hv).1;cbv;refine ⟨P8 k n bs us,.inr v,_,rfl,rfl,A0v ((V.iff v).mpr hv),trivial,?_⟩;cbv;unfold stp;refine B5k (L:=(A7 k).filter (okS k bs n v)) (λc'=>PyData.tuple [.str (G8 c'),.str (T5 v c')]) (λc'=>.str (T5 v c')) (λc'=>decide (c'=c)) (λc' hc' es Q' hl q'=>?_) (by have:=length_filter_le (okS k bs n v) (A7 k);rw[A40] at this;lia) ?_
  ·have hcc:=(mem_filter.mp hc').1;cbv;refine ⟨_,L5 (xs:=[PyData.str (G8 c'),.str (T5 v c')]) (j:=0) rfl,?_⟩;cbv;refine ⟨⟨B69 (A2f hk4 hcc),B69 (A2f hk4 hcm),by simp[PyData.depth]⟩,?_⟩;rw[C5b];cbv;refine M6 (λh2=>?_) λh2=>?_
   ·have h2:decide (c'=c)=true:=h2;rw[qm h2] at q';cbv;refine ⟨_,L5 (xs:=[PyData.str (G8 c'),.str (T5 v c')]) (j:=1) rfl,?_⟩;cbv
    first|exact q'|exact ⟨hl,rfl,q'⟩
   ·have h2:decide (c'=c)=false:=h2;rw[qo (by rw[h2];decide)] at q';exact q'
  rw[C57 (D4r k) hcm];cases ho:okS k bs n v c with
  | true =>
   have hv':=behind hv hn1 (W7.mp ho);rw[qm rfl];cbv;refine ⟨⟨Y4 (bs:=[T5 v c]) λt ht=>by rw[zc.mp ht];exact B51 hk4 hv',by simp[PyData.canLay0,PyData.canLayAll0],A0o [T5 v c]⟩,?_⟩;rw[show PyData.eqv (PyData.list [PyData.str (T5 v c)]) (PyData.list [])=false from rfl];cbv;rw[qo (show ¬ id false=true by decide)];cbv;refine ⟨_,L5 (xs:=[PyData.str (T5 v c)]) (j:=0) rfl,?_⟩;cbv;refine ⟨T5 v c,_,_,rfl,hv',?_⟩;rw[etk];exact A8x _ _ _ hg hcm ho
  | false =>
   rw[qo qt];cbv;rw[show PyData.eqv (PyData.list []) (PyData.list [])=true from rfl,qm (show id true=true from rfl)];cbv;have e:(goS k bs n u x.cps.toList).isSome=false:=by
    rw[eall,etk];unfold goS;rw[append_assoc,A8s,show M23.go (A7 k) (okS k bs n) T5 u (x.cps.toList.take j)=some v from hg];show (M23.go (A7 k) (okS k bs n) T5 v (c::x.cps.toList.drop (j+1))).isSome=false;rw[M23.go,qo (by rw[ho];simp)];rfl
   rw[e] at q;exact q
 ·rintro O ⟨v,x3,x4,rfl,hv,hg⟩;rw[qf,take_length] at hg;rw[hg] at q;cbv;exact q
def D2v (f:Str->Bool):C1->Bool
 | .inl _=>false
 | .inr t=>f t
def B4o (L:List (Str × Wd)):C1->Str
 | .inl _=>⟨#[]⟩
 | .inr t=>match look (esL L) (.inr t) with
  | some (.str z)=>z
  | _=>⟨#[]⟩
theorem B0g {p:Str × Wd} (hn:(L.map Prod.fst).Nodup) (hp:p∈L):B4o L (.inr p.1)=sT p.2:=by
 show (match look (esL L) (.inr p.1) with
  | some (.str z)=>z
  | _=>⟨#[]⟩)=_
 rw[Q0 hn hp]
theorem C0b {k:Nat} {bs:List Str}:∀ {x:Wd} {u v:Str},goS k bs n u x=some v->∀ c∈x,c∈A7 k
 | [],_,_,_,_,hc=>by cases hc
 | d::r,u,v,h,c,hc=>by
  unfold goS at h;rw[M23.go] at h;split at h
  ·rename_i hh;rcases zk.mp hc with rfl|hc
   ·exact hh.1
   ·exact C0b h c hc
  ·cases h
theorem C5v (L:List (Str × Wd)) (hn:(L.map Prod.fst).Nodup) (f:Str->Bool):((((esL L).map (·.1)).filter (D2v f)).map λk=>PyData.str (B4o L k))=((L.filter λp=>f p.1).map λp=>sT p.2).map PyData.str:=by
 rw[A28,List.filter_map,map_map,List.filter_map,map_map,map_map];have e:(D2v f ∘ Sum.inr) ∘ Prod.fst=λp:Str × Wd=>f p.1:=rfl;rw[e];refine List.map_congr_left λp hp=>?_;show PyData.str (B4o L (.inr p.1))=_;rw[B0g hn (mem_filter.mp hp).1];rfl
theorem C8z {k:Nat} {bs:List Str} {one:Str} {i:Nat} (h:Ly (cs:=A7 k) (ok:=okS k bs n) (nx:=T5) (one:=one) i L) (f:Str->Bool):((L.filter λp=>f p.1).map λp=>sT p.2).Nodup:=by
 have hn:L.Nodup:=(pairwise_map.mp h.nd).imp λg e=>g (congrArg Prod.fst e);have h2:=hn.filter λp=>f p.1;refine pairwise_map.mpr (List.Pairwise.imp_of_mem ?_ h2);intro p q hp hq hne e;have e2:p.2=q.2:=by have:=congrArg (λx:Str=>x.cps.toList) e;simpa [sT] using this
 have h3:=(h.mem p (mem_filter.mp hp).1).2.1;have h4:=(h.mem q (mem_filter.mp hq).1).2.1;rw[e2,h4] at h3;exact hne (Prod.ext (zp h3).symm e2)
theorem D5g {k:Nat} {bs:List Str} {one:Str} {i:Nat} (h:Ly (cs:=A7 k) (ok:=okS k bs n) (nx:=T5) (one:=one) i L) (hn1:1<=n) (V:Wnd k bs n us) (w1:Q4 k bs n one):L.length<=us.length/\∀ p∈L,Q4 k bs n p.1:=by
 have hw:∀ p∈L,Q4 k bs n p.1:=λp hp=>C3t hn1 w1 (h.mem p hp).2.1;have:=M23.A45 h.nd (m:=us) λx hx=>by
  obtain ⟨p,hp,rfl⟩:=zg.mp hx;exact (V.iff _).mpr (hw p hp)
 rw[qf] at this;exact ⟨this,hw⟩
theorem D56 {k:Nat} {bs:List Str} {M:List (Str × Wd)} {ds:List Nat} (h:Mk (cs:=A7 k) (ok:=okS k bs n) (nx:=T5) L j ds M) (hn1:1<=n) (V:Wnd k bs n us) (lw:∀ p∈L,Q4 k bs n p.1):M.length<=us.length:=by
 have:=M23.A45 h.nd (m:=us) λx hx=>by
  obtain ⟨m,hm,rfl⟩:=zg.mp hx;obtain ⟨p,hp,c,hc,o,rfl⟩:=h.mem m hm;exact (V.iff _).mpr (behind (lw p hp) hn1 (W7.mp o))
 rwa [qf] at this
theorem A9c:∀ {l:List D},(∀ d∈l,ndc d=true)->ndcs l=true
 | [],_=>rfl
 | d::r,h=>by rw[ndcs,h d qu,A9c λx hx=>h x (qv _ hx)];rfl
theorem C54 (k n:Nat) (bs us:List Str):ndcs (((P8 k n bs us).map λp=>(E3 p.1,p.2)).map Prod.snd)=true:=by
 refine A9c λd hd=>?_;obtain ⟨x,hx,rfl⟩:=zg.mp hd;obtain ⟨y,hy,rfl⟩:=zg.mp hx;obtain ⟨u,hu,rfl⟩:=zg.mp hy;show ndcs (stp k bs n u (A7 k))=true;refine A9c λd hd=>?_;obtain ⟨c,_,rfl⟩:=zg.mp hd;rfl
abbrev A7z:Stmt:=top 43
theorem N3:C0 ["_law_net_here","_law_one","_law_other","_law_layer","_law_k","_law_good","_law_later","_law_window","_law_sign","_law_there","_law_word_here"] ["_law_net_here","_law_one","_law_other"] (B1 A7z):=by walk_at "sc"
def B47:W1:=λds Q _=>∃ (k n:Nat) (bs us:List Str) (one other:Str) (r:Option Wd),ds=[B7g k n bs us,.str one,.str other]/\k<=4/\1<=n/\n<=5/\(∀ b∈bs,b.length<=n+1)/\Wnd k bs n us/\Q4 k bs n one/\Q4 k bs n other/\A3h (A7 k) (okS k bs n) T5 (A3m k bs n other) one us.length r/\Q (B1t r) true
theorem B9n {f:Addr} (F:W2 K "_law_due" "_law_due" A7z f fd) (T:Blt mg) (D_l_can:Df P w K mg base "_law_can" ["_law_net_here","_law_window","_law_word_here"] 1 (G6 K B43)):I0 P w K mg base Z2 2 f fd ["_law_net_here","_law_one","_law_other"] (G6 K B47):=by
 refine ok0 F N3 (λds Q X h=>?_) (λcdv A outer s H E hr=>?_) λds Qd Xd h=>h
 ·obtain ⟨k,n,bs,us,one,other,r,rfl,_⟩:=h;rfl
 refine ⟨_,(A1 (B7 3 N3.nd (A71 (B0 1)))
   (A1 (G0 PassesOwn.never rfl (K2 (by rfl) (by exact T.range) (A0 (A8 C3 (B3 B9r (by rfl) (by exact T.len) (by decide +kernel) (A0 (B0 0) A2)) A4) A2)) (J9 4 N3.nd) (A1 (B7 5 N3.nd (B3 (A7j (by rfl)) (by rfl) (by exact T.sorted) (by decide +kernel) (A0 (C8v ["_law_window"] [("_law_net_here",0),("_law_other",2),("_law_layer",3)] rfl (by rfl) (C2.of (by kernel_rfl)) (B0 3) (λ_ _ _=>⟨A11 0 (N2 (by kernel_rfl)),(A0k (N8 (C7 (by exact D_l_can) (by exact hr.mono (by lia)) (A0 (B0 1) (A0 (B0 0) (A0 (B0 2) A2)))))),(A7c (by exact qq (zh (by decide) _) hr.units) (B0 3) (K1 (B0 0)) (λ_ _=>rfl))⟩)) A2)))
   (A1 (D6 (D3 (A9d (by rfl) (by exact hr.units)) (B0 5) (G5 A2) (E7 _)) (A6 (B4 (J6 (dix (by rfl)) (B0 5) A4 (λ_ _=>rfl)))) B9)
   (A1 (B7 6 N3.nd A0r)
   (A1 (B97 3 PassesOwn.never rfl (qpv 3) (J9 7 N3.nd) (A6 (P6 0 (G0 PassesOwn.never rfl (D1 (by rfl) (A6g (by exact qq (zh (by decide) _) hr.units) (B0 0) (K1 (B0 7)) (λ_ _=>rfl))) (A86 2 (by rfl) (by rfl) (Q6 (J9 8 N3.nd) (Q6 (J9 9 N3.nd) A4s)) (by rfl) (by rfl)) (A1 (B7 10 N3.nd (A8 C3 (A7c (by exact qq (zh (by decide) _) hr.units) (B0 3) (K1 (B0 7)) (λ_ _=>rfl)) (B0 8)))
   (A6 (D6 (A6s (A4f (A4o (by exact qq (zh (by decide) _) hr.units) (K1 (B0 9)) (B0 6) (by rfl)) (A3x (D3 C7d (B0 10) (A4l (by exact qq (zh (by decide) _) hr.units) (B0 6) (K1 (B0 9)) (λ_ _=>rfl)) (E7 _))))) (A6 (A2j 6 (by exact qq (zh (by decide) _) hr.units) (qpv 6) (K1 (B0 9)) (B0 10))) B9)))))))
   (A6 (B7 3 N3.nd (B0 6))))))))
   (A6 (B4 A9x)))),λds Qd h=>?_⟩
 obtain ⟨k,n,bs,us,one,other,r,rfl,hk4,hn1,hn5,hbl,V,w1,w2,hr',q⟩:=h;have l2:=O8 w2;have hcan:∀ u,Q4 k bs n u->(goS k bs n u other.cps.toList).isSome=A3m k bs n other u:=λu hu=>by
  rw[zu];unfold A3m;rw[A92];have:=A9r hbl hn1 hu (x:=other.cps.toList) l2.2;rw[C1l] at this;exact this.symm
 show (_:L1) _ [some (false,clD (P8 k n bs us)),some (false,.str one),some (false,.str other),none,none,none,none,none,none,none,none] _;cbv;refine ⟨.inr one,rfl,?_⟩;have e00:(K8 [((Sum.inr one:C1),PyData.str (Str.ofString ""))])=K8 (esL [(one,[])]):=by
  have e:Str.ofString ""=sT []:=by decide +kernel
  rw[e];rfl
 rw[e00];have enl:(P8 k n bs us).length=us.length:=qf _;have hul:=V.len;cbv;rw[enl]
 skip
 rw[show ((us.length:Int)+1).toNat=us.length+1 from by lia];refine A1e (λi O=>∃ (L:List (Str × Wd)) (x4 x5 x6 x7 x8 x9 x10:Option (Bool × D)),O=[some (false,clD (P8 k n bs us)),some (false,.str one),some (false,.str other),some (true,K8 (esL L)),x4,x5,x6,x7,x8,x9,x10]/\Ly (cs:=A7 k) (ok:=okS k bs n) (nx:=T5) (one:=one) i L/\∀ w:Wd,w.length < i->¬ Pw (A7 k) (okS k bs n) T5 (A3m k bs n other) one w) ⟨_,_,_,_,_,_,_,_,rfl,Ly.start,λw h=>absurd h (Nat.not_lt_zero _)⟩ ?_ ?_
 ·rintro i O hi ⟨L,x4,x5,x6,x7,x8,x9,x10,rfl,Y,hk⟩;obtain ⟨fw,lw⟩:=D5g Y hn1 V w1;have lwd:∀ p∈L,Ok k p.2:=λp hp=>C0b (Y.mem p hp).2.1;cbv;refine ⟨esL L,D2v λu=>(goS k bs n u other.cps.toList).isSome,B4o L,[some (false,clD (P8 k n bs us)),some (false,.str other),some (false,dFD (esL L))],rfl,by rw[A1w];lia,⟨rfl,λj y hj=>?_⟩,λt ht Q' hq=>?_,λt ht hg=>?_,?_⟩
  ·match j,hj with
   | 0,hj=>cases hj;exact ⟨rfl,_,_,_,rfl,rfl,.dcl _ (C54 k n bs us)⟩
   | 1,hj=>cases hj;exact ⟨rfl,_,_,_,rfl,rfl,.same _ rfl⟩
   | 2,hj=>cases hj;exact ⟨rfl,_,_,_,rfl,rfl,.dct _⟩
  ·rw[A28] at ht;obtain ⟨u,hu,rfl⟩:=zg.mp ht;obtain ⟨p,hp,rfl⟩:=zg.mp hu;cbv;exact ⟨k,n,bs,us,p.1,other,rfl,hk4,hn1,hn5,V,lw p hp,l2.2,by lia,hq⟩
  ·rw[A28] at ht;obtain ⟨u,hu,rfl⟩:=zg.mp ht;obtain ⟨p,hp,rfl⟩:=zg.mp hu;cbv;exact ⟨.inr p.1,rfl,esL L,.inr p.1,_,rfl,rfl,Q0 Y.nd hp,by rw[B0g Y.nd hp]⟩
  rw[C5v L Y.nd];have tl:((L.filter λp=>(goS k bs n p.1 other.cps.toList).isSome).map λp=>sT p.2).length < 128:=by
   rw[qf];have:=length_filter_le (λp:Str × Wd=>(goS k bs n p.1 other.cps.toList).isSome) L;lia
  have tn:=C8z Y λu=>(goS k bs n u other.cps.toList).isSome;have tm:∀ x,x∈((L.filter λp=>(goS k bs n p.1 other.cps.toList).isSome).map λp=>sT p.2) ↔ ∃ p∈L,A3m k bs n other p.1=true/\sT p.2=x:=λx=>by
   rw[zg];constructor
   ·rintro ⟨p,hp,e⟩;rw[mem_filter] at hp;exact ⟨p,hp.1,by rw[<-hcan _ (lw p hp.1)];exact hp.2,e⟩
   ·rintro ⟨p,hp,c,e⟩;exact ⟨p,mem_filter.mpr ⟨hp,by show (goS k bs n p.1 other.cps.toList).isSome=true;rw[hcan _ (lw p hp)];exact c⟩,e⟩
  revert tl tn tm;generalize (L.filter λp=>(goS k bs n p.1 other.cps.toList).isSome).map (λp=>sT p.2)=ts;intro tl tn tm;cbv;refine ⟨ts,rfl,tn,tl,λvs p1 p2=>?_⟩;have vm:∀ x,x∈vs ↔ ∃ p∈L,A3m k bs n other p.1=true/\sT p.2=x:=λx=>p1.mem_iff.trans (tm x);have va:∀ x∈vs,Asc x:=λx hx=>by
   obtain ⟨p,hp,_,rfl⟩:=(vm x).mp hx;exact λc hc=>A2f hk4 (lwd p hp c hc)
  cbv;refine ⟨⟨Y4 va,by simp[PyData.canLay0,PyData.canLayAll0],A0o _⟩,?_⟩;rw[B4z];cbv;refine M6 (λhv=>?_) λhv=>?_
  ·obtain ⟨t0,rest,rfl⟩:∃ t0 rest,vs=t0::rest:=by
    cases vs with
    | nil=>cases hv
    | cons a b=>exact ⟨a,b,rfl⟩
   cbv;refine ⟨.str t0,L5 (xs:=(t0::rest).map PyData.str) (j:=0) rfl,?_⟩;obtain ⟨p,hp,hc,e⟩:=(vm t0).mp qu;have er:=Y.found hr' hk ⟨p,hp,hc,rfl⟩ λp' hp' hc' z=>by
    have hm:=(vm (sT p'.2)).mpr ⟨p',hp',hc',rfl⟩;rcases zk.mp hm with e'|hm
    ·have:p'.2=p.2:=by have:=congrArg (λx:Str=>x.cps.toList) (e'.trans e.symm);simpa [sT] using this
     rw[this] at z;exact List.lt_irrefl _ z
    ·have:=(List.pairwise_cons.mp p2).1 _ hm;rw[<-e] at this;exact List.lt_irrefl _ (List.lt_trans this z)
   rw[er] at q;cbv;rw[<-e];exact q
  have hno:∀ p∈L,A3m k bs n other p.1=false:=λp hp=>by
   have hv:vs=[]:=by simpa using hv
   cases hc:A3m k bs n other p.1 with
   | false=>rfl
   | true =>
    have:=(vm _).mpr ⟨p,hp,hc,rfl⟩;rw[hv] at this;cases this
  cbv;refine C6n (es:=esL L) rfl (λj O=>∃ (M:List (Str × Wd)) (x4 x5 x7 x8 x9 x10:Option (Bool × D)),O=[some (false,clD (P8 k n bs us)),some (false,.str one),some (false,.str other),some (false,dFD (esL L)),x4,x5,some (true,K8 (esL M)),x7,x8,x9,x10]/\Mk (cs:=A7 k) (ok:=okS k bs n) (nx:=T5) L j [] M) ⟨[],_,_,_,_,_,_,rfl,Mk.start⟩ ?_ ?_
  ·rintro j key O hkey ⟨M,x4,x5,x7,x8,x9,x10,rfl,mk⟩;obtain ⟨p,hpj,rfl⟩:∃ p,L[j]?=some p/\key=.inr p.1:=by
    rw[A28,qk,qk] at hkey;cases e:L[j]? with
    | none=>rw[e] at hkey;cases hkey
    | some r=>rw[e] at hkey;cases hkey;exact ⟨r,rfl,rfl⟩
   have hpm:=zr hpj;have hpl:=(Y.mem p hpm).1;have spl:(sT p.2).length=p.2.length:=by rw[<-D4,A3c]
   have pwl:=(O8 (lw p hpm)).1;cbv;refine ⟨.inr p.1,rfl,P8 k n bs us,.inr p.1,_,rfl,rfl,A0v ((V.iff _).mpr (lw p hpm)),trivial,?_⟩;cbv;unfold stp;refine M5 (λa O=>∃ (M:List (Str × Wd)) (x4 x5 x8 x9 x10:Option (Bool × D)),O=[some (false,clD (P8 k n bs us)),some (false,.str one),some (false,.str other),some (false,dFD (esL L)),x4,x5,some (true,K8 (esL M)),some (false,.str p.1),x8,x9,x10]/\Mk (cs:=A7 k) (ok:=okS k bs n) (nx:=T5) L j (((A7 k).filter λc=>okS k bs n p.1 c).take a) M) ⟨M,_,_,_,_,_,rfl,mk⟩ ?_ ?_
   ·rintro a d O hd ⟨M,x4,x5,x8,x9,x10,rfl,mk⟩;obtain ⟨c,hc,rfl⟩:∃ c,((A7 k).filter λc=>okS k bs n p.1 c)[a]?=some c/\d=.tuple [.str (G8 c),.str (T5 p.1 c)]:=by
     rw[qk] at hd;cases e:((A7 k).filter λc=>okS k bs n p.1 c)[a]? with
     | none=>rw[e] at hd;cases hd
     | some r=>rw[e] at hd;cases hd;exact ⟨r,rfl,rfl⟩
    obtain ⟨hcm,ho⟩:=mem_filter.mp (zr hc);have etk:((A7 k).filter λc=>okS k bs n p.1 c).take (a+1)=((A7 k).filter λc=>okS k bs n p.1 c).take a++[c]:=by rw[take_add_one,hc];rfl
    have mf:=D56 mk hn1 V lw;have ea:sT p.2++G8 c=sT (p.2++[c]):=ext (by rw[M3];rfl);rw[etk];cbv;refine ⟨esL L,.inr p.1,_,rfl,rfl,Q0 Y.nd hpm,?_⟩;cbv;refine ⟨by rw[spl];show p.2.length+1<=_;lia,?_⟩;rw[ea];cbv;rw[B5v mk.nd];refine M6 (λhn=>?_) λhn=>?_
    ·have hn:T5 p.1 c∉M.map Prod.fst:=by simpa using hn
     rw[qm trivial];cbv;refine ⟨by rw[A1w];lia,?_⟩;rw[A8p];cbv;exact ⟨A0b M (T5 p.1 c) (p.2++[c]),_,_,_,_,_,rfl,mk.put hpj hcm ho λm hm e=>absurd (zg.mpr ⟨m,hm,e⟩) hn⟩
    ·have hn:T5 p.1 c∈M.map Prod.fst:=by simpa using hn
     obtain ⟨m,hm,em⟩:=zg.mp hn;cbv;refine .inl ⟨_,.inr (T5 p.1 c),_,rfl,rfl,(by rw[<-em];exact Q0 mk.nd hm),?_⟩;cbv;refine M6 (λhlt=>?_) λhlt=>?_
     ·have hlt:p.2++[c] < m.2:=of_decide_eq_true hlt;cbv;refine ⟨by rw[A1w];lia,?_⟩;rw[A8p];cbv;exact ⟨A0b M (T5 p.1 c) (p.2++[c]),_,_,_,_,_,rfl,mk.put hpj hcm ho λm' hm' e=>by rw[M23.B5x mk.nd hm' hm (e.trans em.symm)];exact hlt⟩
     ·have hlt:¬ p.2++[c] < m.2:=of_decide_eq_false hlt;cbv;exact ⟨M,_,_,_,_,_,rfl,mk.keep hpj hm em hlt⟩
   ·rintro O ⟨M,x4,x5,x8,x9,x10,rfl,mk⟩;rw[qf,take_length] at mk;exact ⟨M,_,_,_,_,_,_,rfl,mk.next λp' hp' c hc o=>by
     rw[hpj] at hp';cases hp';exact mem_filter.mpr ⟨hc,o⟩⟩
  ·rintro O ⟨M,x4,x5,x7,x8,x9,x10,rfl,mk⟩;rw[A1w] at mk;cbv;exact ⟨M,_,_,_,_,_,_,_,rfl,Y.next mk,Y.no hno hk⟩
 ·rintro O ⟨L,x4,x5,x6,x7,x8,x9,x10,rfl,Y,hk⟩;rw[B3c hr' hk] at q;cbv;exact q
abbrev A59:Stmt:=top 44
theorem A6q:C0 ["_law_signs","_law_bars_here","_law_one","_law_other","_law_e"] ["_law_signs","_law_bars_here","_law_one","_law_other"] (B1 A59):=by walk_at "sc"
def B1c (b:Bool):D:=.tuple [.str "refused",.bool b]
def noD:D:=.tuple [.str "no word",.bool true]
def A3f (r:Option Wd):D:=.tuple [.str "told",B1t r]
def A9b:W1:=λds Q _=>∃ (k:Int) (bs:List Str) (one other:Str),ds=[.int k,bD bs,.str one,.str other]/\Sml bs/\one.length<=100/\other.length<=100/\(St k bs 0->(¬ (Q4 k.toNat bs (W6 bs).toNat one/\Q4 k.toNat bs (W6 bs).toNat other)->Q noD true)/\(Q4 k.toNat bs (W6 bs).toNat one->Q4 k.toNat bs (W6 bs).toNat other->∀ us,Wnd k.toNat bs (W6 bs).toNat us->∀ r,A3h (A7 k.toNat) (okS k.toNat bs (W6 bs).toNat) T5 (A3m k.toNat bs (W6 bs).toNat other) one us.length r->Q (A3f r) true))/\(St k bs 1->Q (B1c false) true)/\(St k bs 2->Q (B1c true) true)
theorem B3p {f:Addr} (F:W2 K "_law_told" "_law_told" A59 f fd) (T:Blt mg) (C_RowError:W4 K mg "RowError" cE0) (C_NoBars:W4 K mg "NoBars" cA) (C_TooMany:W4 K mg "TooMany" cN3) (C_NoWord:W4 K mg "NoWord" cWd) (fitA:A1f K cA cE0) (fitN:A1f K cN3 cE0) (fitW:A1f K cWd cWd) (nofA:A1y K cA cWd) (nofN:A1y K cN3 cWd) (exkA:ExK K cA) (exkN:ExK K cN3) (exkW:ExK K cWd) (i_z:W.kitAny K (.ref cWd) [.ref cN3,.ref cA]=some false) (i_o:W.kitOne K (.ref cWd) (.ref cE0)=some true) (i_a:W.kitOne K (.ref cA) (.ref cG)=some false) (i_b:W.kitOne K (.ref cA) (.ref cT)=some false) (i_c:W.kitOne K (.ref cA) (.ref cWd)=some false) (i_d:W.kitOne K (.ref cA) (.ref cRd)=some false) (i_e:W.kitOne K (.ref cA) (.type "ValueError")=some true) (i_f:W.kitOne K (.ref cA) (.ref cN3)=some false) (i_g:W.kitOne K (.ref cA) (.ref cA)=some true) (i_h:W.kitOne K (.ref cN3) (.ref cG)=some false) (i_i:W.kitOne K (.ref cN3) (.ref cT)=some false) (i_j:W.kitOne K (.ref cN3) (.ref cWd)=some false) (i_k:W.kitOne K (.ref cN3) (.ref cRd)=some false) (i_l:W.kitOne K (.ref cN3) (.type "ValueError")=some true) (i_m:W.kitOne K (.ref cN3) (.ref cN3)=some true) (i_n:W.kitOne K (.ref cN3) (.ref cA)=some false)
  (D_l_class:DfX P w K mg base "_law_class" "_law_e" 1 (A0c K cG cT cWd cRd cN3 cA)) (D_bridge:DfE P w K mg base "bridge" ["signs","bars","one","other"] 6 (G6 K (C0u cA cN3 cWd))):I0 P w K mg base Z2 7 f fd ["_law_signs","_law_bars_here","_law_one","_law_other"] (G6 K A9b):=by
 have xA:∀ Q:D->Prop,Q (.bool false)->A0c K cG cT cWd cRd cN3 cA cA Q:=λQ h=>⟨false,true,i_a,i_b,i_c,i_d,i_e,i_f,i_g,rfl,h⟩;have xN:∀ Q:D->Prop,Q (.bool true)->A0c K cG cT cWd cRd cN3 cA cN3 Q:=λQ h=>⟨true,false,i_h,i_i,i_j,i_k,i_l,i_m,i_n,rfl,h⟩;refine ok0 F A6q (λds Q X h=>?_) (λcdv A outer s H E hr=>?_) λds Qd Xd h=>h
 ·obtain ⟨k,bs,one,other,rfl,_⟩:=h;rfl
 refine ⟨_,(A6 (C4f 4 (by rfl) (by rfl) ⟨rfl,rfl,rfl⟩ A6q.nd (by rfl) (by exact C_NoWord.mgx) (by rfl) (by exact C_RowError.mgx) (B95 (C95 (C0j C5 (C3m (by exact D_bridge) ⟨rfl,rfl,rfl⟩ (by exact hr.mono (by lia)) (A0 (B0 0) (A0 (B0 1) (A0 (B0 2) (A0 (B0 3) A2)))))))) (λea oe cE yE hoe hCE hKE=>(A6 (B4 (D9 (A0 C5 (A0 (X8 (A9j (C14 [cN3,cA] (by rfl) (by exact qw _ qu) (by exact hoe) (by exact hCE) (by exact hKE) (by rfl) (by exact T.isinstance) (B0 4) (by exact (K0 (A8r (by rfl) (by exact C_TooMany.mgx)) (K0 (A8r (by rfl) (by exact C_NoBars.mgx)) T8))) (by exact Nat.le_of_ble_eq_true rfl))) (X7 (T9 (by rfl) (by exact qw _ qu) (by exact hoe) (by exact hCE) (by exact hKE) (by rfl) (by exact T.isinstance) (B0 4) (by rfl) (by exact C_RowError.mgx)))) A2)))))) (λea oe cE yE hoe hCE hKE=>(A6 (B4 (D9 (A0 C5 (A0 (C5u (by exact D_l_class) (by rfl) (by exact ⟨(hr.mono (j:=1) (by lia)).dp,(hr.mono (j:=1) (by lia)).un⟩) (by exact qw _ qu) (by rfl) (by exact hoe) (by exact hCE) (by exact hKE) (B0 4) ⟨rfl,rfl⟩) A2)))))))),λds Qd h=>?_⟩;obtain ⟨k,bs,one,other,rfl,hs,h1,h2,q0,q1,q2⟩:=h;show (_:L1) _ [some (false,.int k),some (false,bD bs),some (false,.str one),some (false,.str other),none] _;cbv;refine ⟨k,bs,one,other,rfl,hs,h1,h2,λhg hw=>?_,λhg=>?_,λhg hw=>?_⟩
 ·obtain ⟨p1,p2⟩:=q0 ⟨hg,hw⟩;refine ⟨λhn=>?_,λw1 w2 us V r hr'=>?_⟩
  ·refine ⟨⟨_,C_NoWord⟩,exkW,.inl ⟨fitW,λea=>?_⟩⟩;cbv;refine ⟨false,i_z,?_⟩;cbv;refine ⟨_,_,rfl,rfl,true,i_o,?_⟩;exact ⟨by decide,p1 hn⟩
  ·have:=p2 w1 w2 us V r hr';cbv;cases r with
   | none=>exact this
   | some w=>exact this
 ·refine ⟨⟨_,C_NoBars⟩,exkA,.inr ⟨nofA,fitA,λea=>?_⟩⟩;cbv;refine xA _ ?_;exact ⟨by decide,q1 hg⟩
 ·refine ⟨⟨_,C_TooMany⟩,exkN,.inr ⟨nofN,fitN,λea=>?_⟩⟩;cbv;refine xN _ ?_;exact ⟨by decide,q2 ⟨hg,hw⟩⟩
theorem A0s (b:Bool):(B1c b).canLay0=true:=by
 have a:PyData.strOk (Str.ofString "refused")=true:=by decide +kernel
 simp[B1c,PyData.canLay0,PyData.canLayAll0,a]
theorem A6i (b:Bool):(B1c b).depth<=32:=by simp[B1c,PyData.depth,PyData.depthAll]
theorem B2x:noD.canLay0=true:=by
 have a:PyData.strOk (Str.ofString "no word")=true:=by decide +kernel
 simp[noD,PyData.canLay0,PyData.canLayAll0,a]
theorem C19:noD.depth<=32:=by simp[noD,PyData.depth,PyData.depthAll]
theorem B9y {r:Option Wd} (h:∀ w,r=some w->∀ c∈w,c < 128):(A3f r).canLay0=true:=by
 have a:PyData.strOk (Str.ofString "told")=true:=by decide +kernel
 cases r with
 | none=>simp[A3f,B1t,PyData.canLay0,PyData.canLayAll0,a]
 | some w =>
  have b:PyData.strOk (sT w)=true:=Asc.ok (b:=sT w) λc hc=>h w rfl c hc;simp[A3f,B1t,PyData.canLay0,PyData.canLayAll0,a,b]
theorem B4g (r:Option Wd):(A3f r).depth<=32:=by cases r<;>simp[A3f,B1t,PyData.depth,PyData.depthAll]
theorem D41 {k:Int} {bs:List Str} (hs:Sml bs) (hst:St k bs 0) (a1:l1.Nodup) (a2:∀ t,t∈l1 ↔ P2 (G9 k.toNat bs (W6 bs).toNat) true t) (b2:∀ t,t∈l0 ↔ P2 (G9 k.toNat bs (W6 bs).toNat) false t) (a3:l1.length<=5000) (b3:l0.length<=5000):Wld k.toNat bs (W6 bs).toNat l1 l0/\∀ b∈bs,b.length<=(W6 bs).toNat+1:=by
 have hg:=hst.1;obtain ⟨n,en,hn1,hn5⟩:=C15 hg;obtain ⟨kk,rfl,hk⟩:∃ kk:Nat,k=(kk:Int)/\K3 kk:=⟨k.toNat,by have:=hg.1;lia,by have:=hg.1;unfold K3;lia⟩;have hp:kk ^ n < 128:=by
  refine D9j hk hn5 ?_;have hw:=hst.2;unfold wds at hw;rw[en] at hw;have e:((n:Nat):Int).toNat=n:=rfl;rw[e] at hw
  exact_mod_cast hw
 have enn:(W6 bs).toNat=n:=by lia
 rw[enn,Int.toNat_natCast] at a2 b2;rw[enn,Int.toNat_natCast];have wi:∀ t,(t∈l1/\t∈l0) ↔ Q4 kk bs n t:=λt=>by rw[X5,a2,b2]
 refine ⟨⟨a1,a2,b2,a3,b3,?_,hk,en,hn1,hn5,hs⟩,λb hb=>?_⟩
 ·refine qq (M23.A45 (a1.filter _) (m:=W kk n) λt ht=>?_) (by rw[A7h];exact hp);rw[mem_filter,zq] at ht;exact (Kp.start kk bs n).sub t ((Kp.start kk bs n).win t ((wi t).mp ht))
 ·have:=(A4c (W0 bs) 2).2 (b.length:Int) (zg.mpr ⟨b,hb,rfl⟩);unfold W6 mx2 at en;lia
def Dw (k:Int) (bs:List Str):Bool->Prop
 | false=>¬ L4 k bs
 | true=>L4 k bs/\¬ wds k bs<=128
theorem D6p {k:Int} {bs:List Str} {m:Bool} (h:St k bs (if m=true then 2 else 1)):Dw k bs m:=by
 cases m with
 | false=>exact h
 | true=>exact h
theorem C1n (cs:List Nat) (ok:Str->Nat->Bool) (nx:Str->Nat->Str) (can:Str->Bool) (one:Str) (N:Nat) (r:Option Wd) (h:A3h cs ok nx can one N r):∀ w,r=some w->∀ c∈w,c∈cs:=λw e c hc=>by
 subst e;obtain ⟨⟨v,hv,_⟩,_⟩:=h;have:∀ {x:Wd} {u v:Str},M23.go cs ok nx u x=some v->∀ c∈x,c∈cs:=by
  intro x
  induction x with
  | nil=>intro u v _ c hc;cases hc
  | cons d r ih =>
   intro u v h c hc;rw[M23.go] at h;split at h
   ·rename_i hh;rcases zk.mp hc with rfl|hc
    ·exact hh.1
    ·exact ih h c hc
   ·cases h
 exact this hv c hc
theorem C1k (k n:Nat) (bs us:List Str):A73 (P8 k n bs us)=us.map PyData.str:=by
 unfold P8 A73;rw[map_map];rfl
theorem C8j {i:Int} (h0:0<=i) (h5:i < 5) {b7:Str} (hb:b7.length<=100) (ha:Asc b7):∃ o:Str,atI [PyData.str (Str.ofString "a"),.str (Str.ofString ""),.str b7,.str (Str.ofString "abab"),.str (Str.ofString "dcba")] i=some (.str o)/\o.length<=100:=by
 have c:i=0\/i=1\/i=2\/i=3\/i=4:=by lia
 rcases c with rfl|rfl|rfl|rfl|rfl
 ·exact ⟨_,rfl,by decide +kernel⟩
 ·exact ⟨_,rfl,by decide +kernel⟩
 ·exact ⟨_,rfl,hb⟩
 ·exact ⟨_,rfl,by decide +kernel⟩
 ·exact ⟨_,rfl,by decide +kernel⟩
theorem C4l {A B:List D} {k l:Kd} (h:flats A=true) (g:flats B=true):A01 A k B l=.own []:=by unfold A01;rw[h,g];rfl
abbrev A26:Stmt:=top 45
theorem K5:C0 ["_law_script","_law_signs","_law_bars_here","_law_big_here","_law_handed","_law_net_here","_law_windows_here","_law_pick","_law_odd","_law_odds","_law_one","_law_other","_law_first","_law_last","_law_less","_law_bad_here","_law_many"] ["_law_script"] (B1 A26):=by walk_at "sc"
def B5t:W1:=λds Q _=>∃ (ns:List Int),ds=[scr ns]/\∀ o,Q (.bool true) o
def A2g (K:W.Frag):Sp:=λvs H Q _=>∃ (a:Addr) (ns:List Int),vs=[.ref a]/\O5 K H a (ns.map V.int)/\∀ H',Q (.bl true) H'
theorem D42 {vs:List V} {Q:VK} {E:XK} (h:A2g K vs H Q E):G6 K B5t vs H Q E:=by
 obtain ⟨a,ns,rfl,hS,q⟩:=h;refine ⟨[scr ns],λd _=>d=.bool true,Xf,.cons (.scr ns hS) .nil,⟨ns,rfl,λ_=>rfl⟩,λd o v H' e _ r=>?_,λ_ _ z _=>z.elim⟩;subst e;have hv:Dn K H' v (.bool true):=by
  cases o with
  | true=>obtain ⟨ms,h1,_⟩:=r;exact h1.den
  | false=>exact r
 cases hv;exact q H'
theorem D5n {f:Addr} (F:W2 K "law" "law" A26 f fd) (T:Blt mg) (D_l_big:Df P w K mg base "_law_big" ["_law_script","_law_at"] 2 (G6 K B4j)) (D_l_bars:Df P w K mg base "_law_bars" ["_law_big_here"] 2 (G6 K A9m)) (D_l_world:Df P w K mg base "_law_world" ["_law_signs","_law_bars_here"] 2 (G6 K A5m)) (D_l_net:Df P w K mg base "_law_net" ["_law_signs","_law_bars_here","_law_world_here"] 3 (G6 K B36)) (D_l_due:Df P w K mg base "_law_due" ["_law_net_here","_law_one","_law_other"] 2 (G6 K B47)) (D_l_bad:Df P w K mg base "_law_bad" ["_law_big_here"] 2 (G6 K B4n)) (D_l_told:Df P w K mg base "_law_told" ["_law_signs","_law_bars_here","_law_one","_law_other"] 7 (G6 K A9b)):I0 P w K mg base Z2 8 f fd ["_law_script"] (A2g K):=by
 refine I0.imp (sp:=G6 K B5t) ?_ λ_ _ _ _ h=>D42 h;refine ok0 F K5 (λds Q X h=>?_) (λcdv A outer s H E hr=>?_) λds Qd Xd h=>h
 ·obtain ⟨ns,rfl,_⟩:=h;rfl
 refine ⟨_,(A1 (A43 [1,2,3] 3 rfl (by rfl) (by rfl) (J8 (A11 1 K5.nd) (J8 (A11 2 K5.nd) (J8 (A11 3 K5.nd) A0g))) (by rfl) (by rfl) (C7 (by exact D_l_bars) (by exact hr.mono (by lia)) (A0 (C7 (by exact D_l_big) (by exact hr.mono (by lia)) (A0 (B0 0) (A0 A4 A2))) A2)))
   (A1 (B7 4 K5.nd (A1t (B0n (by rfl)) (by rfl) (by exact T.list) (by decide +kernel) (A0 (B0 2) A2)))
   (A1 (B7 5 K5.nd (C7 (by exact D_l_net) (by exact hr.mono (by lia)) (A0 (B0 1) (A0 (B0 2) (A0 (C7 (by exact D_l_world) (by exact hr.mono (by lia)) (A0 (B0 1) (A0 (B0 2) A2))) A2)))))
   (A1 (B7 6 K5.nd (A1t (B91 (by rfl)) (by rfl) (by exact T.list) (by decide +kernel) (A0 (B0 5) A2)))
   (A1 (B7 7 K5.nd (C7 (by exact D_l_big) (by exact hr.mono (by lia)) (A0 (B0 0) (A0 A4 A2))))
   (A1 (B7 8 K5.nd (J6 (dix (by rfl)) (G5 (A0 C5 (A0 C5 (A0 (A8 A5y C5 A4) (A0 C5 (A0 C5 A2)))))) (A8 D7 (B0 7) A4) (λ_ _=>rfl)))
   (A1 (A8t (D6 (B1m (by exact qq (zh (by decide) _) hr.units) (K1 (B0 8)) (B0 5) (by rfl)) (A1 (B7 9 K5.nd (A8 C3 (A8 C3 (G5 (A0 (D9 (A0 (B0 8) (A0 (B0 8) A2))) A2)) (S9 ["_law_word_here"] [("_law_odd",8)] rfl (C2.of (by kernel_rfl)) (D1 (by rfl) (A6y (by rfl) (B0 6) D5 (C8 A4))) (λ_ _ _ _=>⟨(J9 0 (N2 (by kernel_rfl))),G3,(G4 (by rfl) (by rfl) (D9 (A0 (B0 1) (A0 (B0 0) A2))))⟩))) (S9 ["_law_word_here"] [("_law_odd",8)] rfl (C2.of (by kernel_rfl)) (D1 (by rfl) (A6y (by rfl) (B0 6) D5 (C8 A4))) (λ_ _ _ _=>⟨(J9 0 (N2 (by kernel_rfl))),G3,(G4 (by rfl) (by rfl) (D9 (A0 (B0 0) (A0 (B0 1) A2))))⟩))))
   (A6 (P6 9 (G0 PassesOwn.never rfl (D1 (by rfl) (B0 9)) (A86 2 (by rfl) (by rfl) (Q6 (J9 10 K5.nd) (Q6 (J9 11 K5.nd) A4s)) (by rfl) (by rfl)) (A6 (D6 (D3 (A9d (by rfl) (by exact hr.units)) (C7 (by exact D_l_told) (by exact hr.mono (by lia)) (A0 (B0 1) (A0 (B0 4) (A0 (B0 10) (A0 (B0 11) A2))))) (D9 (A0 C5 (A0 K9 A2))) (E7 _)) (A6 (B4 K9)) B9)))))) B9))
   (A1 (A8t (D6 (D3 (A9d (by rfl) (by exact hr.units)) (B0 6) (G5 A2) (E7 _)) (A1 (B7 10 K5.nd (J6 (dix (by rfl)) (B0 6) (A8 D7 (A8 A2v (B0 7) A4) (B3 (A0m (by rfl)) (by rfl) (by exact T.len) (by decide +kernel) (A0 (B0 6) A2))) (λ_ _=>rfl)))
   (A1 (B7 11 K5.nd (J6 (dix (by rfl)) (B0 6) (A8 D7 (A8 A2v (B0 7) A4) (B3 (A0m (by rfl)) (by rfl) (by exact T.len) (by decide +kernel) (A0 (B0 6) A2))) (λ_ _=>rfl)))
   (A6 (G0 PassesOwn.never rfl (D1 (by rfl) (G5 (A0 (D9 (A0 (B0 10) (A0 (B0 11) A2))) (A0 (D9 (A0 (B0 11) (A0 (B0 10) A2))) (A0 (D9 (A0 (B0 10) (A0 (B0 11) A2))) A2))))) (A86 2 (by rfl) (by rfl) (Q6 (J9 12 K5.nd) (Q6 (J9 13 K5.nd) A4s)) (by rfl) (by rfl)) (A6 (D6 (D3 (A9d (by rfl) (by exact hr.units)) (C7 (by exact D_l_told) (by exact hr.mono (by lia)) (A0 (B0 1) (A0 (B0 4) (A0 (B0 12) (A0 (B0 13) A2))))) (D9 (A0 C5 (A0 (C7 (by exact D_l_due) (by exact hr.mono (by lia)) (A0 (B0 5) (A0 (B0 12) (A0 (B0 13) A2)))) A2))) (E7 _)) (A6 (B4 K9)) B9)))))) B9))
   (A1 (D6 (D3 (O0 (by rfl) (by exact hr.units)) (A8 D7 (B0 3) A4) A4 (E7 _)) (A1 (A43 [14,15,16] 3 rfl (by rfl) (by rfl) (J8 (A11 14 K5.nd) (J8 (A11 15 K5.nd) (J8 (A11 16 K5.nd) A0g))) (by rfl) (by rfl) (C7 (by exact D_l_bad) (by exact hr.mono (by lia)) (A0 (C7 (by exact D_l_big) (by exact hr.mono (by lia)) (A0 (B0 0) (A0 A4 A2))) A2)))
   (A6 (B4 (X8 (X0 (O0 (by rfl) (by exact hr.units)) (C7 (by exact D_l_told) (by exact hr.mono (by lia)) (A0 (B0 14) (A0 (A1t (B0n (by rfl)) (by rfl) (by exact T.list) (by decide +kernel) (A0 (B0 15) A2)) (A0 C5 (A0 C5 A2))))) (D9 (A0 C5 (A0 (B0 16) A2))) (E7 _)) (X7 (X0 (O0 (by rfl) (by exact hr.units)) (B0 4) (B0 2) (E7 _))))))) B9)
   (A6 (B4 (X0 (O0 (by rfl) (by exact hr.units)) (B0 4) (B0 2) (E7 _))))))))))))),λds Qd h=>?_⟩
 obtain ⟨ns,rfl,q⟩:=h;show (_:L1) _ [some (false,scr ns),none,none,none,none,none,none,none,none,none,none,none,none,none,none,none,none] _;cbv;refine ⟨ns,0,rfl,by lia,λz hz=>?_⟩;cbv;refine ⟨z,rfl,hz,λk bs b' hs ha hst=>?_⟩;have f1:∀ b,flat (bD b)=false:=λ_=>rfl;cbv;simp only[f1,Bool.not_false];unfold bD;cbv;refine ⟨k,bs,rfl,hs,hst.1,λl1 l0 a1 b1 a2 b2 a3 b3=>?_⟩;obtain ⟨W,hbl⟩:=D41 hs hst a1 a2 b2 a3 b3;obtain ⟨kk,rfl⟩:∃ kk:Nat,k=(kk:Int):=⟨k.toNat,by have:=hst.1.1;lia⟩;rw[Int.toNat_natCast] at W;obtain ⟨n,en,hn1,hn5⟩:=C15 hst.1;have en':(W6 bs).toNat=n:=by lia
 rw[en'] at W hbl;cbv;refine ⟨kk,n,l1,l0,bs,rfl,W,λus V=>?_⟩;unfold B7g;have fN:flat (clD (P8 kk n bs us))=false:=rfl;have eD:∀ (a b c d e:Option (Bool × D)) (x:D) (r:C4),flat x=false->setK (a::b::c::d::e::none::r) 5 x Kd.mix=(frz (a::b::c::d::e::none::r)).set 5 (some (false,x)):=λa b c d e x r h=>by unfold setK;rw[h];rfl
 cbv;rw[eD _ _ _ _ _ _ _ fN];cbv;rw[C1k];cbv;refine ⟨ns,1,rfl,by lia,λz1 hz1=>?_⟩;cbv;refine ⟨by unfold MulOk;decide +kernel,?_⟩;cbv;obtain ⟨o,eo,ol⟩:=C8j (i:=z1 % 5) (b7:=Txt.mul (Str.ofString "b") 7) (by lia) (by lia) (by decide +kernel) (by unfold Asc;decide +kernel);refine ⟨.str o,eo,?_⟩;cbv;have hul:=V.len;have hlb:=hs.1;have hk4:kk<=4:=by have:=hst.1.1;lia
 have uA:∀ t∈us,Asc t:=λt ht=>B51 hk4 ((V.iff t).mp ht);refine C50 (λO=>∃ x9 x10 x11:Option (Bool × D),O=[some (false,scr ns),some (false,.int (kk:Int)),some (false,.list (bs.map .str)),some (false,.int b'),some (false,.list (bs.map .str)),some (false,clD (P8 kk n bs us)),some (true,.list (us.map .str)),some (false,.int z1),some (false,.str o),x9,x10,x11,none,none,none,none,none]) (λN hN=>?_) ?_
 ·cbv;refine ⟨P8 kk n bs us,.inr o,rfl,rfl,?_⟩;by_cases ho:o∈us
  ·rw[A0v ho];cbv;rw[qo (by simp)];cbv;exact hN _ ⟨_,_,_,rfl⟩
  rw[A7f ho];cbv;rw[qm (show (!(none:Option D).isSome)=true from rfl)];have nw:¬ Q4 kk bs n o:=λz=>ho ((V.iff o).mpr z);have uw:∀ t∈us.take 1,t.length<=100:=λt ht=>by
   have:=(O8 ((V.iff t).mp (mem_of_mem_take ht))).1;lia
  have ecut:DL.A0x (us.map PyData.str) none (some 1)=(us.take 1).map PyData.str:=by
   cases us with
   | nil=>rfl
   | cons a r=>rfl
  cbv;rw[ecut];refine L6 (L:=us.take 1) PyData.str (λt=>PyData.tuple [.str o,.str t]) (λt ht es Q' hl q'=>?_) (by rw[ja];lia) ?_
  ·cbv;exact q'
  cbv;refine ⟨by rw[qf,ja];show 1+_<=_;lia,?_⟩;cbv;rw[ecut];refine L6 (L:=us.take 1) PyData.str (λt=>PyData.tuple [.str t,.str o]) (λt ht es Q' hl q'=>?_) (by rw[ja];lia) ?_
  ·cbv;exact q'
  cbv;have fl1:flats ((us.take 1).map λt=>PyData.tuple [.str o,.str t])=true:=M4.mpr λd hd=>by obtain ⟨n,_,rfl⟩:=zg.mp hd;rfl
  have fl2:flats ((us.take 1).map λt=>PyData.tuple [.str t,.str o])=true:=M4.mpr λd hd=>by obtain ⟨n,_,rfl⟩:=zg.mp hd;rfl
  have fl3:flats (PyData.tuple [PyData.str o,PyData.str o]::((us.take 1).map λt=>PyData.tuple [.str o,.str t]))=true:=by rw[A52,fl1];rfl
  refine ⟨by simp[ja];lia,?_⟩;rw[C4l fl3 fl2];have hit:∀ d∈PyData.tuple [PyData.str o,PyData.str o]::(((us.take 1).map λt=>PyData.tuple [.str o,.str t])++(us.take 1).map λt=>PyData.tuple [.str t,.str o]),∃ a b:Str,d=.tuple [.str a,.str b]/\a.length<=100/\b.length<=100/\¬ (Q4 kk bs n a/\Q4 kk bs n b):=λd hd=>by
   rcases zk.mp hd with rfl|hd
   ·exact ⟨o,o,rfl,ol,ol,λz=>nw z.1⟩
   rcases zj.mp hd with hd|hd
   ·obtain ⟨t,ht,rfl⟩:=zg.mp hd;exact ⟨o,t,rfl,ol,uw t ht,λz=>nw z.1⟩
   ·obtain ⟨t,ht,rfl⟩:=zg.mp hd;exact ⟨t,o,rfl,uw t ht,ol,λz=>nw z.2⟩
  revert hit;generalize PyData.tuple [PyData.str o,PyData.str o]::(((us.take 1).map λt=>PyData.tuple [.str o,.str t])++(us.take 1).map λt=>PyData.tuple [.str t,.str o])=its;intro hit;cbv;refine M5 (λj O=>∃ x10 x11:Option (Bool × D),O=[some (false,scr ns),some (false,.int (kk:Int)),some (false,.list (bs.map .str)),some (false,.int b'),some (false,.list (bs.map .str)),some (false,clD (P8 kk n bs us)),some (true,.list (us.map .str)),some (false,.int z1),some (false,.str o),some (false,.list its),x10,x11,none,none,none,none,none]) ⟨_,_,rfl⟩ ?_ ?_
  ·rintro j d O hd ⟨x10,x11,rfl⟩;obtain ⟨a,b,rfl,la,lb,nn⟩:=hit d (zr hd);cbv;refine ⟨(kk:Int),bs,a,b,rfl,hs,la,lb,λ_=>⟨λ_=>?_,λw1 w2=>?_⟩,λz=>absurd hst.1 z,λz=>absurd hst.2 z.2⟩
   rotate_left
   ·rw[en',Int.toNat_natCast] at w1 w2;exact absurd ⟨w1,w2⟩ nn
   unfold noD;cbv;refine ⟨⟨B2x,B2x,C19⟩,?_⟩;rw[show PyData.eqv (PyData.tuple [PyData.str (Str.ofString "no word"),PyData.bool true]) (PyData.tuple [PyData.str (Str.ofString "no word"),PyData.bool true])=true from SeqAt.eqv_refl _ B2x];cbv;exact ⟨_,_,rfl⟩
  ·rintro O ⟨x10,x11,rfl⟩;exact hN _ ⟨_,_,_,rfl⟩
 rintro O ⟨x9,x10,x11,rfl⟩;cbv;refine C50 (λO=>∃ x9 x10 x11 x12 x13:Option (Bool × D),O=[some (false,scr ns),some (false,.int (kk:Int)),some (false,.list (bs.map .str)),some (false,.int b'),some (false,.list (bs.map .str)),some (false,clD (P8 kk n bs us)),some (true,.list (us.map .str)),some (false,.int z1),some (false,.str o),x9,x10,x11,x12,x13,none,none,none]) (λN hN=>?_) ?_
 ·cbv;refine ⟨⟨Y4 uA,by simp[PyData.canLay0,PyData.canLayAll0],A0o _⟩,?_⟩;rw[B4z];cbv;refine M6 (λh1=>?_) λh1=>?_
  rotate_left
  ·cbv;exact hN _ ⟨_,_,_,_,_,rfl⟩
  have hp:(0:Int) < (us.length:Int):=by
   cases us with
   | nil=>cases h1
   | cons a r=>rw[length_cons];lia
  cbv;refine ⟨⟨by decide,3,by decide,by decide⟩,?_⟩;cbv;rw[qf];refine ⟨hp,?_⟩;have pick:∀ z:Int,∃ u,u∈us/\atI (us.map PyData.str) (z % (us.length:Int))=some (.str u):=λz=>by
   obtain ⟨d,hd,ed⟩:=C2i (l:=us.map PyData.str) (z:=z % (us.length:Int)) (Int.emod_nonneg _ (Int.ne_of_gt hp)) (by rw[qf];exact Int.emod_lt_of_pos z hp);obtain ⟨u,hu,rfl⟩:=zg.mp hd;exact ⟨u,hu,ed⟩
  obtain ⟨u1,hu1,e1⟩:=pick (z1 / 5);obtain ⟨u2,hu2,e2⟩:=pick (z1 / 640);cbv;refine ⟨_,e1,?_⟩;cbv;refine ⟨⟨by decide,10,by decide,by decide⟩,?_⟩;cbv;rw[qf];refine ⟨hp,?_⟩;cbv;refine ⟨_,e2,?_⟩;cbv;refine M5 (λj O=>∃ x12 x13:Option (Bool × D),O=[some (false,scr ns),some (false,.int (kk:Int)),some (false,.list (bs.map .str)),some (false,.int b'),some (false,.list (bs.map .str)),some (false,clD (P8 kk n bs us)),some (true,.list (us.map .str)),some (false,.int z1),some (false,.str o),x9,some (false,.str u1),some (false,.str u2),x12,x13,none,none,none]) ⟨_,_,rfl⟩ ?_ ?_
  ·rintro j d O hd ⟨x12,x13,rfl⟩;obtain ⟨a,b,rfl,ma,mb⟩:∃ a b:Str,d=.tuple [.str a,.str b]/\a∈us/\b∈us:=by
    have:=zr hd;simp only[zk,List.not_mem_nil,or_false] at this;rcases this with rfl|rfl|rfl
    ·exact ⟨_,_,rfl,hu1,hu2⟩
    ·exact ⟨_,_,rfl,hu2,hu1⟩
    ·exact ⟨_,_,rfl,hu1,hu2⟩
   have wa:=(V.iff a).mp ma;have wb:=(V.iff b).mp mb;have la:=(O8 wa).1;have lb:=(O8 wb).1;cbv;refine ⟨(kk:Int),bs,a,b,rfl,hs,by lia,by lia,λ_=>⟨λnn=>?_,λ_ _ us' V' r hr'=>?_⟩,λz=>absurd hst.1 z,λz=>absurd hst.2 z.2⟩
   ·rw[en',Int.toNat_natCast] at nn;exact absurd ⟨wa,wb⟩ nn
   rw[en',Int.toNat_natCast] at V' hr';have eu:us'=us:=M20.B4l V'.srt V.srt λt=>by rw[V'.iff,V.iff]
   rw[eu] at hr';unfold A3f;cbv;refine ⟨kk,n,bs,us,a,b,r,rfl,hk4,hn1,hn5,hbl,V,wa,wb,hr',?_⟩;have lt:(A3f r).canLay0=true:=B9y λw e c hc=>A2f hk4 (C1n _ _ _ _ _ _ _ hr' w e c hc);cbv;refine ⟨⟨lt,lt,B4g r⟩,?_⟩;rw[show PyData.eqv (PyData.tuple [PyData.str (Str.ofString "told"),B1t r]) (PyData.tuple [PyData.str (Str.ofString "told"),B1t r])=true from SeqAt.eqv_refl _ lt];cbv;exact ⟨_,_,rfl⟩
  ·rintro O ⟨x12,x13,rfl⟩;exact hN _ ⟨_,_,_,_,_,rfl⟩
 rintro O ⟨x9,x10,x11,x12,x13,rfl⟩;cbv;refine B6k (λ_=>?_) λ_=>?_
 ·cbv;refine ⟨ns,2,rfl,by lia,λz2 hz2=>?_⟩;cbv;refine ⟨z2,rfl,hz2,λk2 bs2 m2 hs2 ha2 hst2=>?_⟩;cbv;simp only[f1,Bool.not_false];unfold bD;cbv;have l0:(Str.ofString "").length<=100:=by decide +kernel
  refine ⟨k2,bs2,_,_,rfl,hs2,l0,l0,?_⟩;have fin:Dw k2 bs2 m2:=D6p hst2;cases m2 with
  | false =>
   have fin:¬ L4 k2 bs2:=fin;refine ⟨λz=>absurd z.1 fin,λ_=>?_,λz=>absurd z.1 fin⟩;unfold B1c;cbv;refine ⟨⟨A0s false,A0s false,A6i false⟩,?_⟩;rw[show PyData.eqv (PyData.tuple [PyData.str (Str.ofString "refused"),PyData.bool false]) (PyData.tuple [PyData.str (Str.ofString "refused"),PyData.bool false])=true from SeqAt.eqv_refl _ (A0s false)];cbv;rw[qm (show id true=true from rfl)];cbv;refine ⟨⟨Y4 ha,Y4 ha,A0o bs⟩,?_⟩;rw[SeqAt.eqv_refl _ (Y4 ha)];exact q _
  | true =>
   have fin:L4 k2 bs2/\¬ wds k2 bs2<=128:=fin;refine ⟨λz=>absurd z.2 fin.2,λz=>absurd fin.1 z,λ_=>?_⟩;unfold B1c;cbv;refine ⟨⟨A0s true,A0s true,A6i true⟩,?_⟩;rw[show PyData.eqv (PyData.tuple [PyData.str (Str.ofString "refused"),PyData.bool true]) (PyData.tuple [PyData.str (Str.ofString "refused"),PyData.bool true])=true from SeqAt.eqv_refl _ (A0s true)];cbv;rw[qm (show id true=true from rfl)];cbv;refine ⟨⟨Y4 ha,Y4 ha,A0o bs⟩,?_⟩;rw[SeqAt.eqv_refl _ (Y4 ha)];exact q _
 ·cbv;refine ⟨⟨Y4 ha,Y4 ha,A0o bs⟩,?_⟩;rw[SeqAt.eqv_refl _ (Y4 ha)];cbv;exact q _
end
def C0r (K:W.Frag) (a:Addr):Option (List DL.D):=match K.lookup a with
 | some o=>match o.data with
  | .seq its _=>if o.cls==.type "tuple"&&Nat.ble its.size 1000 then DL.B8n its.toList else none
  | _=>none
 | none=>none
theorem C7e {x:Str} {a:Addr} {ds:List DL.D} (hm:mg x=some (.ref a)) (h:C0r K a=some ds):DL.A9y K mg x ds:=by
 unfold C0r at h;split at h
 ·split at h
  ·split at h
   ·rename_i o e1 _ its n e2 e3;rw[zb] at e3;exact DL.C84 hm e1 (eq_of_beq e3.1) e2 (Nat.le_of_ble_eq_true e3.2) h
   ·cases h
  ·cases h
 ·cases h
theorem E26 (us:List Value) (h:us.length=0):us=[]:=List.eq_nil_of_length_eq_zero h
theorem D6y (us:List Value) (h:us.length=1):∃ a0,us=[a0]:=by
 cases us with
 | nil=>exact absurd h.symm (Nat.succ_ne_zero _)
 | cons a r =>
  have e:=E26 r (Nat.succ.inj h);subst e;exact ⟨a,rfl⟩
theorem D83 (us:List Value) (h:us.length=2):∃ a0 a1,us=[a0,a1]:=by
 cases us with
 | nil=>exact absurd h.symm (Nat.succ_ne_zero _)
 | cons a r =>
  obtain ⟨a1,e⟩:=D6y r (Nat.succ.inj h);subst e;exact ⟨a,a1,rfl⟩
theorem D7o (us:List Value) (h:us.length=3):∃ a0 a1 a2,us=[a0,a1,a2]:=by
 cases us with
 | nil=>exact absurd h.symm (Nat.succ_ne_zero _)
 | cons a r =>
  obtain ⟨a1,a2,e⟩:=D83 r (Nat.succ.inj h);subst e;exact ⟨a,a1,a2,rfl⟩
theorem E1d (us:List Value) (h:us.length=4):∃ a0 a1 a2 a3,us=[a0,a1,a2,a3]:=by
 cases us with
 | nil=>exact absurd h.symm (Nat.succ_ne_zero _)
 | cons a r =>
  obtain ⟨a1,a2,a3,e⟩:=D7o r (Nat.succ.inj h);subst e;exact ⟨a,a1,a2,a3,rfl⟩
theorem A55 (h:∀ a0,C [a0]) (us:List Value) (hl:us.length=1):C us:=by
 obtain ⟨a0,e⟩:=D6y us hl;subst e;exact h _
theorem Y5 (h:∀ a0 a1,C [a0,a1]) (us:List Value) (hl:us.length=2):C us:=by
 obtain ⟨a0,a1,e⟩:=D83 us hl;subst e;exact h _ _
theorem B17 (h:∀ a0 a1 a2,C [a0,a1,a2]) (us:List Value) (hl:us.length=3):C us:=by
 obtain ⟨a0,a1,a2,e⟩:=D7o us hl;subst e;exact h _ _ _
theorem B61 (h:∀ a0 a1 a2 a3,C [a0,a1,a2,a3]) (us:List Value) (hl:us.length=4):C us:=by
 obtain ⟨a0,a1,a2,a3,e⟩:=E1d us hl;subst e;exact h _ _ _ _
structure Fq (K:W.Frag) (n:Str) (st:Stmt) (f:Addr):Prop where
 a:W.nsIn K mainGlobals n=some (some (.ref f))
 k:W.keepIn K (.ref f)=true
 F:∃ fd,W2 K n n st f fd
theorem fq {n:Str} {st:Stmt} {f:Addr} {an:Option Addr} {kV pm ct:Value} (a:W.nsIn K mainGlobals n=some (some (.ref f))) (l:K.lookup f=some ⟨oc,od,.func (W.fnOf n n (X4 st) (M8 st) (B1 st) .none kV doc pm an cdv ct),osl⟩) (c:W.codeIn K cdv n=true) (k:W.keepIn K (.ref f)=true):Fq K n st f:=⟨a,k,_,C1o l c k⟩
theorem Fq.at {n:Str} {st:Stmt} {f:Addr} (d:Fq K n st f) (X:K.In h) (G:h.Ns mainGlobals mg):mg n=some (.ref f)/\W.keepIn K (.ref f)=true/\∃ fd,W2 K n n st f fd:=⟨W.mg_of X G d.a,d.k,d.F⟩
theorem D18 {w:World} (X:K.In h) (G:h.Ns mainGlobals mg) (hfa:mg "law"=some (.ref fa))
  {f1 f2 f3 f4 f5 f6 f7 f8 f9 f10 f11 f12 f13 f14 f15 f16 f17 f18 f19 f20 f21 f22 f23 f24 f25 f26 f27 f28:Addr}
  {od29 an29:Option Addr} {sl29:Array (Option Value)} {oc29 kV29 dc29 pm29 cd29 ct29:Value} {f29:Addr}
  (d1:Fq K "is_whole" A1j f1) (d2:Fq K "plain_width" U9 f2) (d3:Fq K "require_bars" S0 f3) (d4:Fq K "vet_bars" A1h f4) (d5:Fq K "width_of" A1p f5) (d6:Fq K "words_of" A1q f6) (d7:Fq K "is_free" A32 f7) (d8:Fq K "goes_on_both_ways" M9 f8) (d9:Fq K "windows_of" X6 f9) (d10:Fq K "stands_by" Z7 f10) (d11:Fq K "bridge" A56 f11) (d12:Fq K "_law_cell_at" A0l f12) (d13:Fq K "_law_big" A8k f13) (d14:Fq K "_law_word" A61 f14) (d15:Fq K "_law_bars" A5h f15) (d16:Fq K "_law_bad" A93 f16) (d17:Fq K "_law_width" A2w f17) (d18:Fq K "_law_free" A4h f18) (d19:Fq K "_law_words" A37 f19) (d20:Fq K "_law_lasting" Z8 f20) (d21:Fq K "_law_world" A38 f21) (d22:Fq K "_law_windows" A05 f22) (d23:Fq K "_law_behind" A1k f23) (d24:Fq K "_law_net" A9s f24) (d25:Fq K "_law_can" A8w f25) (d26:Fq K "_law_due" A7z f26) (d27:Fq K "_law_class" A2z f27) (d28:Fq K "_law_told" A59 f28)
  (a29:W.nsIn K mainGlobals "law"=some (some (.ref f29))) (l29:K.lookup f29=some ⟨oc29,od29,.func (W.fnOf "law" "law" (X4 A26) (M8 A26) (B1 A26) .none kV29 dc29 pm29 an29 cd29 ct29),sl29⟩) (c29:W.codeIn K cd29 "law"=true) (k29:W.keepIn K (.ref f29)=true)
  {t_FEWEST_SIGNS:Nat} {t_MOST_BARS:Nat} {t_LONGEST_BAR:Nat} {t_MOST_WORDS:Nat} {a_SIGNS:Addr}
  (x_NoGrid:W.nsIn K mainGlobals "NoGrid"=some (some (.ref cG))) (y_NoGrid:W.excIn K cG bmV "ValueError.__new__"=true) (x_NoTable:W.nsIn K mainGlobals "NoTable"=some (some (.ref cT))) (y_NoTable:W.excIn K cT bmV "ValueError.__new__"=true) (x_NoBars:W.nsIn K mainGlobals "NoBars"=some (some (.ref cA))) (y_NoBars:W.excIn K cA bmV "ValueError.__new__"=true) (x_TooMany:W.nsIn K mainGlobals "TooMany"=some (some (.ref cN3))) (y_TooMany:W.excIn K cN3 bmV "ValueError.__new__"=true) (x_NoWord:W.nsIn K mainGlobals "NoWord"=some (some (.ref cWd))) (y_NoWord:W.excIn K cWd bmV "ValueError.__new__"=true) (x_NoReader:W.nsIn K mainGlobals "NoReader"=some (some (.ref cRd))) (y_NoReader:W.excIn K cRd bmV "ValueError.__new__"=true) (x_RowError:W.nsIn K mainGlobals "RowError"=some (some (.ref cE0))) (y_RowError:W.excIn K cE0 bmV "ValueError.__new__"=true) (u_fitA:W.kitCls K (.ref cA) (.ref cE0)=some true) (v_fitA:W.subIn K (.ref cE0) (.type "BaseException")=some true) (u_fitN:W.kitCls K (.ref cN3) (.ref cE0)=some true) (v_fitN:W.subIn K (.ref cE0) (.type "BaseException")=some true) (u_fitW:W.kitCls K (.ref cWd) (.ref cWd)=some true) (v_fitW:W.subIn K (.ref cWd) (.type "BaseException")=some true) (u_nofA:W.kitCls K (.ref cA) (.ref cWd)=some false) (v_nofA:W.subIn K (.ref cWd) (.type "BaseException")=some true) (u_nofN:W.kitCls K (.ref cN3) (.ref cWd)=some false) (v_nofN:W.subIn K (.ref cWd) (.type "BaseException")=some true) (i_z:W.kitAny K (.ref cWd) [.ref cN3,.ref cA]=some false) (i_gaNoBars:W.findIn K (.ref cA) "__getattribute__"=some (some (.builtin "BaseException.__getattribute__"))) (i_clNoBars:W.findIn K (.ref cA) "__class__"=some (some (.builtin "object.__class__"))) (i_ggNoBars:W.findIn K (.ref cA) "__getattr__"=some none) (i_obNoBars:W.subIn K (.ref cA) (.type "object")=some true) (i_beNoBars:W.subIn K (.ref cA) (.type "BaseException")=some true) (i_seNoBars:W.kitCls K (.ref cA) (.ref cA)=some true) (i_gaTooMany:W.findIn K (.ref cN3) "__getattribute__"=some (some (.builtin "BaseException.__getattribute__"))) (i_clTooMany:W.findIn K (.ref cN3) "__class__"=some (some (.builtin "object.__class__"))) (i_ggTooMany:W.findIn K (.ref cN3) "__getattr__"=some none) (i_obTooMany:W.subIn K (.ref cN3) (.type "object")=some true) (i_beTooMany:W.subIn K (.ref cN3) (.type "BaseException")=some true) (i_seTooMany:W.kitCls K (.ref cN3) (.ref cN3)=some true) (i_gaNoWord:W.findIn K (.ref cWd) "__getattribute__"=some (some (.builtin "BaseException.__getattribute__"))) (i_clNoWord:W.findIn K (.ref cWd) "__class__"=some (some (.builtin "object.__class__"))) (i_ggNoWord:W.findIn K (.ref cWd) "__getattr__"=some none) (i_obNoWord:W.subIn K (.ref cWd) (.type "object")=some true) (i_beNoWord:W.subIn K (.ref cWd) (.type "BaseException")=some true) (i_seNoWord:W.kitCls K (.ref cWd) (.ref cWd)=some true) (i_a:W.kitOne K (.ref cA) (.ref cG)=some false) (i_b:W.kitOne K (.ref cA) (.ref cT)=some false) (i_c:W.kitOne K (.ref cA) (.ref cWd)=some false) (i_d:W.kitOne K (.ref cA) (.ref cRd)=some false) (i_e:W.kitOne K (.ref cA) (.type "ValueError")=some true) (i_f:W.kitOne K (.ref cA) (.ref cN3)=some false) (i_g:W.kitOne K (.ref cA) (.ref cA)=some true) (i_h:W.kitOne K (.ref cN3) (.ref cG)=some false) (i_i:W.kitOne K (.ref cN3) (.ref cT)=some false) (i_j:W.kitOne K (.ref cN3) (.ref cWd)=some false) (i_k:W.kitOne K (.ref cN3) (.ref cRd)=some false) (i_l:W.kitOne K (.ref cN3) (.type "ValueError")=some true) (i_m:W.kitOne K (.ref cN3) (.ref cN3)=some true) (i_n:W.kitOne K (.ref cN3) (.ref cA)=some false) (i_o:W.kitOne K (.ref cWd) (.ref cE0)=some true) (g_FEWEST_SIGNS:W.nsIn K mainGlobals "FEWEST_SIGNS"=some (some (.int 2 t_FEWEST_SIGNS))) (g_MOST_BARS:W.nsIn K mainGlobals "MOST_BARS"=some (some (.int 12 t_MOST_BARS))) (g_LONGEST_BAR:W.nsIn K mainGlobals "LONGEST_BAR"=some (some (.int 6 t_LONGEST_BAR))) (g_MOST_WORDS:W.nsIn K mainGlobals "MOST_WORDS"=some (some (.int 128 t_MOST_WORDS))) (g_SIGNS:W.nsIn K mainGlobals "SIGNS"=some (some (.ref a_SIGNS))) (i_sSIGNS:C0r K a_SIGNS=some [.str "a",.str "b",.str "c",.str "d"])
  (z_len:W.nsIn K mainGlobals "len"=some none) (z_range:W.nsIn K mainGlobals "range"=some none) (z_list:W.nsIn K mainGlobals "list"=some none) (z_int:W.nsIn K mainGlobals "int"=some none) (z_bool:W.nsIn K mainGlobals "bool"=some none) (z_isinstance:W.nsIn K mainGlobals "isinstance"=some none) (z_any:W.nsIn K mainGlobals "any"=some none) (z_all:W.nsIn K mainGlobals "all"=some none) (z_sorted:W.nsIn K mainGlobals "sorted"=some none) (z_max:W.nsIn K mainGlobals "max"=some none) (z_ValueError:W.nsIn K mainGlobals "ValueError"=some none) :
  ∃ fd:FuncData,(∀ (s:Shared) (v:Value),BindsTo s fd ⟨[v],[]⟩ [("_law_script",v)])/\∀ base:Heap,K.In base->base.Ns mainGlobals mg->I0 l.prog w K mg base Z2 8 fa fd ["_law_script"] (A2g K):=by
 have e:=hfa.symm.trans (W.mg_of X G a29);cases e;have T:Blt mg:=⟨W.mg_none_of X G z_len,W.mg_none_of X G z_range,W.mg_none_of X G z_list,W.mg_none_of X G z_int,W.mg_none_of X G z_bool,W.mg_none_of X G z_isinstance,W.mg_none_of X G z_any,W.mg_none_of X G z_all,W.mg_none_of X G z_sorted,W.mg_none_of X G z_max,W.mg_none_of X G z_ValueError⟩;obtain ⟨m1,k1,_,F1⟩:=d1.at X G;have b1:=F1.binds (ps:=["thing"]) λ_ _ _ _ _ _=>A55 λ_=>rfl;obtain ⟨m2,k2,_,F2⟩:=d2.at X G;have b2:=F2.binds (ps:=["bars"]) λ_ _ _ _ _ _=>A55 λ_=>rfl;obtain ⟨m3,k3,_,F3⟩:=d3.at X G;have b3:=F3.binds (ps:=["signs","bars"]) λ_ _ _ _ _ _=>Y5 λ_ _=>rfl;obtain ⟨m4,k4,_,F4⟩:=d4.at X G;have b4:=F4.binds (ps:=["signs","bars"]) λ_ _ _ _ _ _=>Y5 λ_ _=>rfl;obtain ⟨m5,k5,_,F5⟩:=d5.at X G;have b5:=F5.binds (ps:=["signs","bars"]) λ_ _ _ _ _ _=>Y5 λ_ _=>rfl;obtain ⟨m6,k6,_,F6⟩:=d6.at X G;have b6:=F6.binds (ps:=["signs","width"]) λ_ _ _ _ _ _=>Y5 λ_ _=>rfl;obtain ⟨m7,k7,_,F7⟩:=d7.at X G;have b7:=F7.binds (ps:=["word","bars"]) λ_ _ _ _ _ _=>Y5 λ_ _=>rfl;obtain ⟨m8,k8,_,F8⟩:=d8.at X G;have b8:=F8.binds (ps:=["signs","bars","kept","word"]) λ_ _ _ _ _ _=>B61 λ_ _ _ _=>rfl;obtain ⟨m9,k9,_,F9⟩:=d9.at X G;have b9:=F9.binds (ps:=["signs","bars"]) λ_ _ _ _ _ _=>Y5 λ_ _=>rfl;obtain ⟨m10,k10,_,F10⟩:=d10.at X G;have b10:=F10.binds (ps:=["windows","bars","word"]) λ_ _ _ _ _ _=>B17 λ_ _ _=>rfl;obtain ⟨m11,k11,_,F11⟩:=d11.at X G;have b11:=F11.binds (ps:=["signs","bars","one","other"]) λ_ _ _ _ _ _=>B61 λ_ _ _ _=>rfl;obtain ⟨m12,k12,_,F12⟩:=d12.at X G;have b12:=F12.binds (ps:=["_law_script","_law_k"]) λ_ _ _ _ _ _=>Y5 λ_ _=>rfl;obtain ⟨m13,k13,_,F13⟩:=d13.at X G;have b13:=F13.binds (ps:=["_law_script","_law_at"]) λ_ _ _ _ _ _=>Y5 λ_ _=>rfl;obtain ⟨m14,k14,_,F14⟩:=d14.at X G;have b14:=F14.binds (ps:=["_law_big_here","_law_letters","_law_many"]) λ_ _ _ _ _ _=>B17 λ_ _ _=>rfl;obtain ⟨m15,k15,_,F15⟩:=d15.at X G;have b15:=F15.binds (ps:=["_law_big_here"]) λ_ _ _ _ _ _=>A55 λ_=>rfl;obtain ⟨m16,k16,_,F16⟩:=d16.at X G;have b16:=F16.binds (ps:=["_law_big_here"]) λ_ _ _ _ _ _=>A55 λ_=>rfl;obtain ⟨m17,k17,_,F17⟩:=d17.at X G;have b17:=F17.binds (ps:=["_law_bars_here"]) λ_ _ _ _ _ _=>A55 λ_=>rfl;obtain ⟨m18,k18,_,F18⟩:=d18.at X G;have b18:=F18.binds (ps:=["_law_word_here","_law_bars_here"]) λ_ _ _ _ _ _=>Y5 λ_ _=>rfl;obtain ⟨m19,k19,_,F19⟩:=d19.at X G;have b19:=F19.binds (ps:=["_law_letters","_law_size"]) λ_ _ _ _ _ _=>Y5 λ_ _=>rfl;obtain ⟨m20,k20,_,F20⟩:=d20.at X G;have b20:=F20.binds (ps:=["_law_steps","_law_side"]) λ_ _ _ _ _ _=>Y5 λ_ _=>rfl;obtain ⟨m21,k21,_,F21⟩:=d21.at X G;have b21:=F21.binds (ps:=["_law_signs","_law_bars_here"]) λ_ _ _ _ _ _=>Y5 λ_ _=>rfl;obtain ⟨m22,k22,_,F22⟩:=d22.at X G;have b22:=F22.binds (ps:=["_law_world_here"]) λ_ _ _ _ _ _=>A55 λ_=>rfl;obtain ⟨m23,k23,_,F23⟩:=d23.at X G;have b23:=F23.binds (ps:=["_law_bars_here","_law_lasting_here","_law_letters","_law_word_here"]) λ_ _ _ _ _ _=>B61 λ_ _ _ _=>rfl;obtain ⟨m24,k24,_,F24⟩:=d24.at X G;have b24:=F24.binds (ps:=["_law_signs","_law_bars_here","_law_world_here"]) λ_ _ _ _ _ _=>B17 λ_ _ _=>rfl;obtain ⟨m25,k25,_,F25⟩:=d25.at X G;have b25:=F25.binds (ps:=["_law_net_here","_law_window","_law_word_here"]) λ_ _ _ _ _ _=>B17 λ_ _ _=>rfl;obtain ⟨m26,k26,_,F26⟩:=d26.at X G;have b26:=F26.binds (ps:=["_law_net_here","_law_one","_law_other"]) λ_ _ _ _ _ _=>B17 λ_ _ _=>rfl;obtain ⟨m27,k27,_,F27⟩:=d27.at X G;have b27:=F27.binds (ps:=["_law_e"]) λ_ _ _ _ _ _=>A55 λ_=>rfl;obtain ⟨m28,k28,_,F28⟩:=d28.at X G;have b28:=F28.binds (ps:=["_law_signs","_law_bars_here","_law_one","_law_other"]) λ_ _ _ _ _ _=>B61 λ_ _ _ _=>rfl;have F29:=C1o (st:=A26) l29 c29 k29;refine ⟨W.fnOf "law" "law" (X4 A26) (M8 A26) (B1 A26) .none kV29 dc29 pm29 an29 cd29 ct29,λs v=>.of_eq rfl,λbase _ _=>?_⟩;have C_NoGrid:W4 K mg "NoGrid" cG:=⟨W.mg_of X G x_NoGrid,y_NoGrid⟩;have C_NoTable:W4 K mg "NoTable" cT:=⟨W.mg_of X G x_NoTable,y_NoTable⟩;have C_NoBars:W4 K mg "NoBars" cA:=⟨W.mg_of X G x_NoBars,y_NoBars⟩;have C_TooMany:W4 K mg "TooMany" cN3:=⟨W.mg_of X G x_TooMany,y_TooMany⟩;have C_NoWord:W4 K mg "NoWord" cWd:=⟨W.mg_of X G x_NoWord,y_NoWord⟩;have C_NoReader:W4 K mg "NoReader" cRd:=⟨W.mg_of X G x_NoReader,y_NoReader⟩;have C_RowError:W4 K mg "RowError" cE0:=⟨W.mg_of X G x_RowError,y_RowError⟩;have fitA:A1f K cA cE0:=⟨u_fitA,v_fitA⟩;have fitN:A1f K cN3 cE0:=⟨u_fitN,v_fitN⟩;have fitW:A1f K cWd cWd:=⟨u_fitW,v_fitW⟩;have nofA:L2.A1y K cA cWd:=⟨u_nofA,v_nofA⟩;have nofN:L2.A1y K cN3 cWd:=⟨u_nofN,v_nofN⟩;have fitK_NoBars:ExK K cA:=⟨i_gaNoBars,i_clNoBars,i_ggNoBars,i_obNoBars,i_beNoBars,i_seNoBars⟩;have fitK_TooMany:ExK K cN3:=⟨i_gaTooMany,i_clTooMany,i_ggTooMany,i_obTooMany,i_beTooMany,i_seTooMany⟩;have fitK_NoWord:ExK K cWd:=⟨i_gaNoWord,i_clNoWord,i_ggNoWord,i_obNoWord,i_beNoWord,i_seNoWord⟩;have G_FEWEST_SIGNS:DL.A9h mg "FEWEST_SIGNS" 2:=⟨_,W.mg_of X G g_FEWEST_SIGNS⟩;have G_MOST_BARS:DL.A9h mg "MOST_BARS" 12:=⟨_,W.mg_of X G g_MOST_BARS⟩;have G_LONGEST_BAR:DL.A9h mg "LONGEST_BAR" 6:=⟨_,W.mg_of X G g_LONGEST_BAR⟩;have G_MOST_WORDS:DL.A9h mg "MOST_WORDS" 128:=⟨_,W.mg_of X G g_MOST_WORDS⟩;have G_SIGNS:DL.A9y K mg "SIGNS" [.str "a",.str "b",.str "c",.str "d"]:=C7e (W.mg_of X G g_SIGNS) i_sSIGNS;have D_is_whole:Df l.prog w K mg base "is_whole" ["thing"] 1 (DL.G6 K A4v):=⟨_,_,B1p F1 T ,m1,k1,b1⟩;have D_plain_width:Df l.prog w K mg base "plain_width" ["bars"] 1 (DL.G6 K B4p):=⟨_,_,A4w F2 T ,m2,k2,b2⟩;have D_require_bars:DfE l.prog w K mg base "require_bars" ["signs","bars"] 2 (DL.G6 K (B30 cA)):=⟨_,_,A3p F3 T C_NoBars G_SIGNS G_FEWEST_SIGNS G_MOST_BARS G_LONGEST_BAR D_is_whole,m3,k3,b3⟩;have D_vet_bars:DfE l.prog w K mg base "vet_bars" ["signs","bars"] 3 (DL.G6 K (B2e cA cN3)):=⟨_,_,B1z F4 T C_TooMany G_MOST_WORDS D_require_bars D_plain_width,m4,k4,b4⟩;have D_width_of:DfE l.prog w K mg base "width_of" ["signs","bars"] 4 (DL.G6 K (B3w cA cN3)):=⟨_,_,B04 F5 T D_vet_bars D_plain_width,m5,k5,b5⟩;have D_words_of:Df l.prog w K mg base "words_of" ["signs","width"] 1 (DL.G6 K A5u):=⟨_,_,B0j F6 T G_SIGNS,m6,k6,b6⟩;have D_is_free:Df l.prog w K mg base "is_free" ["word","bars"] 1 (DL.G6 K Q3):=⟨_,_,B4f F7 T ,m7,k7,b7⟩;have D_goes_on_both_ways:Df l.prog w K mg base "goes_on_both_ways" ["signs","bars","kept","word"] 2 (DL.G6 K C3l):=⟨_,_,A0e F8 T G_SIGNS D_is_free,m8,k8,b8⟩;have D_windows_of:DfE l.prog w K mg base "windows_of" ["signs","bars"] 5 (DL.G6 K (B37 cA cN3)):=⟨_,_,A6d F9 T D_width_of D_words_of D_is_free D_goes_on_both_ways,m9,k9,b9⟩;have D_stands_by:Df l.prog w K mg base "stands_by" ["windows","bars","word"] 2 (DL.G6 K C29):=⟨_,_,A8g F10 T D_is_free,m10,k10,b10⟩;have D_bridge:DfE l.prog w K mg base "bridge" ["signs","bars","one","other"] 6 (DL.G6 K (C0u cA cN3 cWd)):=⟨_,_,B7u F11 T C_NoWord G_SIGNS D_windows_of D_stands_by,m11,k11,b11⟩;have D_l_cell_at:Df l.prog w K mg base "_law_cell_at" ["_law_script","_law_k"] 1 (DL.G6 K A94):=⟨_,_,A98 F12 T ,m12,k12,b12⟩;have D_l_big:Df l.prog w K mg base "_law_big" ["_law_script","_law_at"] 2 (DL.G6 K B4j):=⟨_,_,C24 F13 T D_l_cell_at,m13,k13,b13⟩;have D_l_word:Df l.prog w K mg base "_law_word" ["_law_big_here","_law_letters","_law_many"] 1 (DL.G6 K A4a):=⟨_,_,B8b F14 T ,m14,k14,b14⟩;have D_l_bars:Df l.prog w K mg base "_law_bars" ["_law_big_here"] 2 (DL.G6 K A9m):=⟨_,_,B8m F15 T D_l_word,m15,k15,b15⟩;have D_l_bad:Df l.prog w K mg base "_law_bad" ["_law_big_here"] 2 (DL.G6 K B4n):=⟨_,_,C2u F16 T D_l_word,m16,k16,b16⟩;have D_l_width:Df l.prog w K mg base "_law_width" ["_law_bars_here"] 1 (DL.G6 K A58):=⟨_,_,B29 F17 T ,m17,k17,b17⟩;have D_l_free:Df l.prog w K mg base "_law_free" ["_law_word_here","_law_bars_here"] 1 (DL.G6 K Q3):=⟨_,_,B7o F18 T ,m18,k18,b18⟩;have D_l_words:Df l.prog w K mg base "_law_words" ["_law_letters","_law_size"] 1 (DL.G6 K A2x):=⟨_,_,B3j F19 T ,m19,k19,b19⟩;have D_l_lasting:Df l.prog w K mg base "_law_lasting" ["_law_steps","_law_side"] 1 (DL.G6 K A9u):=⟨_,_,A8o F20 T ,m20,k20,b20⟩;have D_l_world:Df l.prog w K mg base "_law_world" ["_law_signs","_law_bars_here"] 2 (DL.G6 K A5m):=⟨_,_,B2k F21 T D_l_words D_l_width D_l_free D_l_lasting,m21,k21,b21⟩;have D_l_windows:Df l.prog w K mg base "_law_windows" ["_law_world_here"] 1 (DL.G6 K A8h):=⟨_,_,A9q F22 T ,m22,k22,b22⟩;have D_l_behind:Df l.prog w K mg base "_law_behind" ["_law_bars_here","_law_lasting_here","_law_letters","_law_word_here"] 2 (DL.G6 K B44):=⟨_,_,B27 F23 T D_l_free,m23,k23,b23⟩;have D_l_net:Df l.prog w K mg base "_law_net" ["_law_signs","_law_bars_here","_law_world_here"] 3 (DL.G6 K B36):=⟨_,_,C1t F24 T D_l_windows D_l_behind,m24,k24,b24⟩;have D_l_can:Df l.prog w K mg base "_law_can" ["_law_net_here","_law_window","_law_word_here"] 1 (DL.G6 K B43):=⟨_,_,C4k F25 T ,m25,k25,b25⟩;have D_l_due:Df l.prog w K mg base "_law_due" ["_law_net_here","_law_one","_law_other"] 2 (DL.G6 K B47):=⟨_,_,B9n F26 T D_l_can,m26,k26,b26⟩;have D_l_class:DL.DfX l.prog w K mg base "_law_class" "_law_e" 1 (A0c K cG cT cWd cRd cN3 cA):=⟨_,_,B2g F27 T C_NoGrid C_NoTable C_NoWord C_NoReader C_TooMany C_NoBars,m27,k27,b27⟩;have D_l_told:Df l.prog w K mg base "_law_told" ["_law_signs","_law_bars_here","_law_one","_law_other"] 7 (DL.G6 K A9b):=⟨_,_,B3p F28 T C_RowError C_NoBars C_TooMany C_NoWord fitA fitN fitW nofA nofN fitK_NoBars fitK_TooMany fitK_NoWord i_z i_o i_a i_b i_c i_d i_e i_f i_g i_h i_i i_j i_k i_l i_m i_n D_l_class D_bridge,m28,k28,b28⟩;exact D5n F29 T D_l_big D_l_bars D_l_world D_l_net D_l_due D_l_bad D_l_told
theorem E18 {q:Program} {d:DefRec} {K:Params->W.Frag} (hn:l.most=some 63) (hdf:d.params.defaults=[]) (hi:importsNone q=true)
  (hY:∀ (w:World) (h:Heap),YP w h->(K w.params).In h)
  (F:∀ (w:World) (mg:Str->Option Value) (fa:Addr) (h:Heap),(K w.params).In h->h.Ns mainGlobals mg->mg d.name=some (.ref fa) ->
   ∃ fd:FuncData,(∀ (s:Shared) (u:Value),BindsTo s fd ⟨[u],[]⟩ [("_law_script",u)])/\∀ base:Heap,(K w.params).In base->base.Ns mainGlobals mg->I0 l.prog w (K w.params) mg base Z2 8 fa fd ["_law_script"] (A2g (K w.params))) :
  W.WalkO q loose XP YP l.row.toRowW d [] (λf vs=>PySem.call f vs) :=
 L2.C8i (n:=63) (k:=8) (x:="_law_script") (CX:=λ_=>Z2) (sp:=λw=>A2g (K w.params)) hn (by decide) hdf ⟨rfl,by decide,by decide,rfl⟩ hi hY F (λ_ _ a ns hl _ hS=>⟨a,ns,rfl,hS,λ_=>rfl⟩) λ_ _ _ _ _ z=>z
end K23
namespace PySem.W.Fast
def tw8960824178199376049:=Nat
def tw15156926345006669077:=Nat
def tw8922952781838466935:=Nat
def tw8316951060629605117:=Nat
def tw11310910627707644834:=Nat
def tw9198961085429981093:=Nat
def tw7059136069160160355:=Nat
def tw11398860791118417516:=Nat
def tw15791516139565939825:=Nat
def tw10547594985274310030:=Nat
def tw17595469178810216295:=Nat
def tw5224471623896596530:=Nat
def tw15811077553367189767:=Nat
def tw4186422599547374733:=Nat
def tw888098861609214984:=Nat
def tw18223066403485154549:=Nat
def tw6719457698962595939:=Nat
def tw12508715580473444146:=Nat
def tw15110052141828422444:=Nat
def tw7569761479001535987:=Nat
def tw10900192561261840496:=Nat
def tw4067636154015512829:=Nat
def tw18220091613022368845:=Nat
def tw3163019831926896311:=Nat
def tw11030478109644428619:=Nat
def tw15668742644729975659:=Nat
def tw13704737275098866191:=Nat
def tw7627753621201637160:=Nat
def tw7750580770232837426:=Nat
def tw569052235075484625:=Nat
def tw13717441102956355101:=Nat
def tw16656327433444095718:=Nat
def tw13948809431269839582:=Nat
def tw8919781717551056880:=Nat
def tw12382341812597758892:=Nat
def tw4179393904730038880:=Nat
def tw12917375984221953080:=Nat
def tw16242974239466158285:=Nat
def tw17691736919162403261:=Nat
def tw14444553295349474470:=Nat
def tw5267761400858546695:=Nat
def tw10780876996629067509:=Nat
def tw1633858660139365416:=Nat
def tw2475849350825486560:=Nat
def tw990147675262834753:=Nat
def tw7739550244579464117:=Nat
def tw271416965867382363:=Nat
def tw11223788769972978000:=Nat
def tw12726211391258539675:=Nat
def tw15000830728600269750:=Nat
def tw9988517200020562258:=Nat
def tw12000348533397230083:=Nat
def tw4171614570432821503:=Nat
def tw6151385229811772745:=Nat
def tw15408302666590744735:=Nat
def tw8093138867858219943:=Nat
def tw12130440917313104976:=Nat
def tw4436284563550610553:=Nat
def tw13999203488464122436:=Nat
def tw16079041835003275733:=Nat
def tw16794161283068255151:=Nat
def tw17056361266916276264:=Nat
def tw16006869098777062142:=Nat
def tw16874397019069916248:=Nat
def tw11342246604469667697:=Nat
def tw10011587004840581816:=Nat
def tw3958677819593070538:=Nat
def tw1762116039288549532:=Nat
def tw5555857959373994653:=Nat
def tw4928607174622092311:=Nat
def tw7221106929150474232:=Nat
def tw8429677328254453047:=Nat
def tw15148199547664205925:=Nat
def tw12112213297588272021:=Nat
def tw102278567763524957:=Nat
def tw4357100399701856679:=Nat
def tw17649602913171296278:=Nat
def tw11466945956845607540:=Nat
def tw3726217137893595686:=Nat
def tw14401231928598679624:=Nat
def tw2271593438749751878:=Nat
def tw1140990462492581708:=Nat
def tw15842734187706727662:=Nat
def tw16209604034909900701:=Nat
def tw3094547922979959993:=Nat
def tw12624652716984996122:=Nat
def tw10040227050746594429:=Nat
def tw3509069645885404229:=Nat
def tw2173259676790270816:=Nat
def tw7669747193292536252:=Nat
def tw13450934290984590228:=Nat
def tw3959366299609019836:=Nat
def tw14597226646578227385:=Nat
def tw3458065056723215492:=Nat
def tw14831539063440600846:=Nat
def tw6255175944811238674:=Nat
def tw680478675744470927:=Nat
def tw11261549696235562617:=Nat
def tw4455667774452702905:=Nat
def tw12368578638844571221:=Nat
def tw17349468030066099228:=Nat
def tw15102650220941506927:=Nat
def tw15988605176966414091:=Nat
def tw16909764554544991449:=Nat
def tw13322124377601688398:=Nat
def tw6772716923083073896:=Nat
def tw16292054498087337587:=Nat
def tw2577531180694965685:=Nat
def tw14652051673212686354:=Nat
def tw10885420710012866193:=Nat
def tw2488839395467243867:=Nat
def tw5339685856761316930:=Nat
def tw10639888258587347577:=Nat
def tw757085687205785407:=Nat
def tw3136590797835278433:=Nat
def tw3834796118961973464:=Nat
def tw7367158198408183455:=Nat
def tw12867912740769651250:=Nat
def tw9839127874987779058:=Nat
def tw11995619764910928643:=Nat
def tw4054577031814538190:=Nat
def tw3110011918332730178:=Nat
def tw15780416343953479695:=Nat
def tw4572889807440132790:=Nat
def tw4704423515286109087:=Nat
def tw6449917807854616130:=Nat
def tw2638209412863661154:=Nat
def tw16674699939360088303:=Nat
def tw11672814319471148390:=Nat
def tw8504222595099792147:=Nat
def tw12321276128398705409:=Nat
def tw6993909259335992075:=Nat
def tw5850897400343318110:=Nat
def tw1590023889616365143:=Nat
def tw17213894909239521413:=Nat
def tw1498525870027391398:=Nat
def tw4678708487219735366:=Nat
def tw6352986833104027305:=Nat
def tw11625385674291406364:=Nat
def tw9240853827971995950:=Nat
def tw10727500337924183881:=Nat
def tw637982934840604299:=Nat
def tw13171767014343307103:=Nat
def tw15912604990517958467:=Nat
def tw15663106319387634476:=Nat
def tw6410095953971923606:=Nat
def tw12885014740589132459:=Nat
def tw15389439618857543997:=Nat
def tw17483253800737564355:=Nat
def tw5342256208346679619:=Nat
def tw3616472578698131568:=Nat
def tw17133420902044118798:=Nat
def tw7739248743690713434:=Nat
def tw2400952802916350782:=Nat
def tw15586040370670267380:=Nat
def tw7049298313043956795:=Nat
def tw7078311722747262469:=Nat
def tw5237057326424433759:=Nat
def tw5701868614803357278:=Nat
def tw10868319315165999507:=Nat
def tw15388051327026521499:=Nat
def tw1520843638555983666:=Nat
def tw17496213002336298799:=Nat
def tw8755972207584941776:=Nat
def tw12365701423787048487:=Nat
def tw18136107377408865227:=Nat
def tw9282974377812908559:=Nat
def tw8017503922806574541:=Nat
def tw21355415504823325:=Nat
def tw16733366329196772971:=Nat
def tw3753860138543357530:=Nat
def tw15636125533885441781:=Nat
def tw1286285483935875462:=Nat
def tw5480354696674289353:=Nat
def tw4445240535459781476:=Nat
def tw5248613284609135704:=Nat
def tw4519333522440446431:=Nat
def tw11803123224587431042:=Nat
def tw13908465666084757045:=Nat
def tw6141251347120165350:=Nat
def tw14597143822929724013:=Nat
def tw13063259564487918892:=Nat
def tw11025867705638945341:=Nat
def tw9544477699761825726:=Nat
def tw4692973891795011371:=Nat
def tw11280480940613716498:=Nat
def tw9608828458194372064:=Nat
def tw17271645317989602058:=Nat
def tw7772594204075899425:=Nat
def tw3324415930623391576:=Nat
def tw16472936660031411495:=Nat
def tw5854225140546964814:=Nat
def tw9510388228302742354:=Nat
def tw9603571788917775039:=Nat
def tw4612775721465449017:=Nat
def tw4132091129759351895:=Nat
def tw5375463871313500363:=Nat
def tw15873985523321137459:=Nat
def tw9341716679600823320:=Nat
def tw17454074983231187164:=Nat
def tw1874822845515837768:=Nat
def tw352654649306305979:=Nat
def tw18128184675306209540:=Nat
def tw6993441858638886982:=Nat
def tw18360342645693011163:=Nat
def tw11009621905209612728:=Nat
def tw11424829153856811428:=Nat
def tw18298158578905035550:=Nat
def tw12791580704669190641:=Nat
def tw7056214889868008916:=Nat
def tw17665406884321573706:=Nat
def tw12255809562486722183:=Nat
def tw17185791520445495025:=Nat
def tw14844879082524853734:=Nat
def tw13411826476653474488:=Nat
def tw4675590643629931779:=Nat
def tw1659675021079196312:=Nat
def tw11523967238175972495:=Nat
def tw1409998163229585591:=Nat
def tw9034844583148754828:=Nat
def tw3088966253672026606:=Nat
def tw4046982005208384553:=Nat
def tw11915075739303264176:=Nat
def tw5341740320766716453:=Nat
def tw8734918140755649963:=Nat
def tw5331942304618060486:=Nat
def tw1507805046437306367:=Nat
def tw1926259944272527534:=Nat
def tw9038330153518083046:=Nat
def tw7332133343864528001:=Nat
def tw3093320803427672822:=Nat
def tw1802498166326672833:=Nat
def tw6733301385510150279:=Nat
def tw1804248106863013574:=Nat
def tw6782529151037679133:=Nat
def tw319353618417896155:=Nat
def tw16087194272401104292:=Nat
def tw10259197457787432088:=Nat
def tw612886776040639064:=Nat
def tw1190238075403427241:=Nat
def tw18175519944479816494:=Nat
def tw12465459364382609860:=Nat
def tw3714266978379668135:=Nat
def tw10355925397767699613:=Nat
def tw13533845144989341301:=Nat
def tw17079783837089887508:=Nat
def tw3331249629142292160:=Nat
def tw8887912389024849321:=Nat
def tw11807423801731067236:=Nat
def tw4721596217402882998:=Nat
def tw4851708162888473072:=Nat
def tw5687524470910956299:=Nat
def tw10251990515580550902:=Nat
def tw2612585279407279002:=Nat
def tw14107590737029679917:=Nat
def tw3547578033685755663:=Nat
def tw4605464777342939954:=Nat
def tw11633399621591310150:=Nat
def tw15840090577420752858:=Nat
def tw7884776901949201008:=Nat
def tw4464741779320276376:=Nat
def tw10042425843737308736:=Nat
def tw9309686259566091595:=Nat
def tw12693514027642112288:=Nat
def tw8830591508404596510:=Nat
def tw12732212569313063640:=Nat
def tw1997917607589637981:=Nat
def tw15094860051832634383:=Nat
def tw1320065572476988454:=Nat
def tw10509935519026660518:=Nat
def tw6130600220369886194:=Nat
end PySem.W.Fast
open PySem PySem.W PyProof.Rows
local macro_rules | `(tactic| walk_at "f") => `(tactic| (refine' K23.fq ?a ?l ?c ?k; (case a => k_is); (case l => k_is); (case c => k_is); (case k => k_is)))
set_option maxRecDepth 100000 in
set_option maxHeartbeats 0 in
theorem PySem.Challenge.cw_foreverrows_k23_bridges_holds : PySem.Challenge.rw_foreverrows_k23_bridges.Holds := by
 w_on;o_law;k_head;(case hw=>w_witness2)
 k_fill
 refine K23.E18 (l := PySem.Challenge.rw_foreverrows_k23_bridges) rfl rfl (by decide +kernel) (λw h Y => PySem.W.kIn_of Y) ?F
 case F =>
  intro w mg fa h KX G hmg
  refine' K23.D18 KX G hmg ?d1 ?d2 ?d3 ?d4 ?d5 ?d6 ?d7 ?d8 ?d9 ?d10 ?d11 ?d12 ?d13 ?d14 ?d15 ?d16 ?d17 ?d18 ?d19 ?d20 ?d21 ?d22 ?d23 ?d24 ?d25 ?d26 ?d27 ?d28 ?a29 ?l29 ?c29 ?k29 ?x_NoGrid ?y_NoGrid ?x_NoTable ?y_NoTable ?x_NoBars ?y_NoBars ?x_TooMany ?y_TooMany ?x_NoWord ?y_NoWord ?x_NoReader ?y_NoReader ?x_RowError ?y_RowError ?u_fitA ?v_fitA ?u_fitN ?v_fitN ?u_fitW ?v_fitW ?u_nofA ?v_nofA ?u_nofN ?v_nofN ?i_z ?i_gaNoBars ?i_clNoBars ?i_ggNoBars ?i_obNoBars ?i_beNoBars ?i_seNoBars ?i_gaTooMany ?i_clTooMany ?i_ggTooMany ?i_obTooMany ?i_beTooMany ?i_seTooMany ?i_gaNoWord ?i_clNoWord ?i_ggNoWord ?i_obNoWord ?i_beNoWord ?i_seNoWord ?i_a ?i_b ?i_c ?i_d ?i_e ?i_f ?i_g ?i_h ?i_i ?i_j ?i_k ?i_l ?i_m ?i_n ?i_o ?g_FEWEST_SIGNS ?g_MOST_BARS ?g_LONGEST_BAR ?g_MOST_WORDS ?g_SIGNS ?i_sSIGNS ?z_len ?z_range ?z_list ?z_int ?z_bool ?z_isinstance ?z_any ?z_all ?z_sorted ?z_max ?z_ValueError
  (case d1=>walk_at "f")
  (case d2=>walk_at "f")
  (case d3=>walk_at "f")
  (case d4=>walk_at "f")
  (case d5=>walk_at "f")
  (case d6=>walk_at "f")
  (case d7=>walk_at "f")
  (case d8=>walk_at "f")
  (case d9=>walk_at "f")
  (case d10=>walk_at "f")
  (case d11=>walk_at "f")
  (case d12=>walk_at "f")
  (case d13=>walk_at "f")
  (case d14=>walk_at "f")
  (case d15=>walk_at "f")
  (case d16=>walk_at "f")
  (case d17=>walk_at "f")
  (case d18=>walk_at "f")
  (case d19=>walk_at "f")
  (case d20=>walk_at "f")
  (case d21=>walk_at "f")
  (case d22=>walk_at "f")
  (case d23=>walk_at "f")
  (case d24=>walk_at "f")
  (case d25=>walk_at "f")
  (case d26=>walk_at "f")
  (case d27=>walk_at "f")
  (case d28=>walk_at "f")
  (case a29=>k_is)
  (case l29=>k_is)
  (case c29=>k_is)
  (case k29=>k_is)
  (case z_len=>k_is)
  (case z_range=>k_is)
  (case z_list=>k_is)
  (case z_int=>k_is)
  (case z_bool=>k_is)
  (case z_isinstance=>k_is)
  (case z_any=>k_is)
  (case z_all=>k_is)
  (case z_sorted=>k_is)
  (case z_max=>k_is)
  (case z_ValueError=>k_is)
  (case x_NoGrid=>k_is)
  (case y_NoGrid=>walk_at "g")
  (case x_NoTable=>k_is)
  (case y_NoTable=>walk_at "g")
  (case x_NoBars=>k_is)
  (case y_NoBars=>walk_at "g")
  (case x_TooMany=>k_is)
  (case y_TooMany=>walk_at "g")
  (case x_NoWord=>k_is)
  (case y_NoWord=>walk_at "g")
  (case x_NoReader=>k_is)
  (case y_NoReader=>walk_at "g")
  (case x_RowError=>k_is)
  (case y_RowError=>walk_at "g")
  (case u_fitA=>walk_at "g")
  (case v_fitA=>walk_at "g")
  (case u_fitN=>walk_at "g")
  (case v_fitN=>walk_at "g")
  (case u_fitW=>walk_at "g")
  (case v_fitW=>walk_at "g")
  (case u_nofA=>walk_at "g")
  (case v_nofA=>walk_at "g")
  (case u_nofN=>walk_at "g")
  (case v_nofN=>walk_at "g")
  (case i_z=>walk_at "g")
  (case i_gaNoBars=>walk_at "g")
  (case i_clNoBars=>walk_at "g")
  (case i_ggNoBars=>walk_at "g")
  (case i_obNoBars=>walk_at "g")
  (case i_beNoBars=>walk_at "g")
  (case i_seNoBars=>walk_at "g")
  (case i_gaTooMany=>walk_at "g")
  (case i_clTooMany=>walk_at "g")
  (case i_ggTooMany=>walk_at "g")
  (case i_obTooMany=>walk_at "g")
  (case i_beTooMany=>walk_at "g")
  (case i_seTooMany=>walk_at "g")
  (case i_gaNoWord=>walk_at "g")
  (case i_clNoWord=>walk_at "g")
  (case i_ggNoWord=>walk_at "g")
  (case i_obNoWord=>walk_at "g")
  (case i_beNoWord=>walk_at "g")
  (case i_seNoWord=>walk_at "g")
  (case i_a=>walk_at "g")
  (case i_b=>walk_at "g")
  (case i_c=>walk_at "g")
  (case i_d=>walk_at "g")
  (case i_e=>walk_at "g")
  (case i_f=>walk_at "g")
  (case i_g=>walk_at "g")
  (case i_h=>walk_at "g")
  (case i_i=>walk_at "g")
  (case i_j=>walk_at "g")
  (case i_k=>walk_at "g")
  (case i_l=>walk_at "g")
  (case i_m=>walk_at "g")
  (case i_n=>walk_at "g")
  (case i_o=>walk_at "g")
  (case g_FEWEST_SIGNS=>k_is)
  (case g_MOST_BARS=>k_is)
  (case g_LONGEST_BAR=>k_is)
  (case g_MOST_WORDS=>k_is)
  (case g_SIGNS=>k_is)
  (case i_sSIGNS=>walk_at "g")
