import PyProof.Rows.All
import Wide.All
import OpenK.AllK
import Wide.FinOn
import Lean
import PyProof.EqAt
import PyProof.EqKinds
import PyProof.TupleCall
import PyProof.NeData
import PyProof.P3Eq
import PyProof.EnumMake
import PyProof.EnumFor
import PyProof.ConsumeWalk
import PyProof.ListRange
import PyProof.ZipIter
import KE.IntBitsLaws
import KE.RegMulBits
import PyProof.ExcArgs
import PyProof.DictWalks
import KE.KRevSl
import PyProof.DictItems
import PyProof.DictDisplay
import PyProof.SeqI3
import PyProof.NsDelKeeps
import PyProof.StrWalks
import PyProof.StrBlockH
import PyProof.StrBlock2
import KE.KMinKey
import PyProof.Rows.CallKwBuiltin
import KE.KIntText
import PyProof.StrCalls2
import PyProof.StrLawsTight
import PyProof.Rows.StrItems
import PyProof.FactsAll.tuple_1
import PyProof.FactsAll.tuple_2
import PyProof.FString5
import PyProof.Rows.RuleC_int
import KE.KRevIter
import PySem.Challenge.RW_foreverrows_k72_plain_tables
set_option Elab.async false
set_option linter.all false
set_option maxRecDepth 100000
set_option compiler.extract_closed false
set_option hygiene false
local macro_rules
|`(tactic|sleep 0)=>`(tactic|(obtain ⟨H0,ν,O,Qd,Xd,S,h1,q,x⟩:=h))
|`(tactic|sleep 1)=>`(tactic|(obtain ⟨H0,ν,O,Dd,Xd,S,h1,ok,x⟩:=h))
|`(tactic|sleep 2)=>`(tactic|(intro pins s U H x y v u Q I rx ry h))
|`(tactic|sleep 3)=>`(tactic|(intro pins s U H Q I h))
|`(tactic|sleep 4)=>`(tactic|(refine ⟨H0,ν,O,_,Xd,S,h1,λd k v H' g1 g2 g3=>?_,x⟩))
|`(tactic|sleep 5)=>`(tactic|(intro pins s U H D I h))
|`(tactic|sleep 6)=>`(tactic|(intro X hP hw hK hc i pins s U H E I hf st hg))
|`(tactic|sleep 7)=>`(tactic|(obtain ⟨t,rfl⟩:=rx))
|`(tactic|sleep 8)=>`(tactic|(refine V8 (λh1=>?_) λh1=>?_))
|`(tactic|sleep 9)=>`(tactic|(obtain ⟨f0,f1,f2,f3,f4,f5⟩:=hf it (by simp)))
|`(tactic|sleep 10)=>`(tactic|(intro pins s U H xs us Q I r h))
|`(tactic|sleep 11)=>`(tactic|(refine ⟨.int (gv os 0),B9 (j:=0) (by rw[qp,I8 (by lia)];rfl),?_⟩))
|`(tactic|sleep 12)=>`(tactic|(refine ⟨H0,ν,O,_,Xd,S,h1,λds k vs H' g1 g2 g3=>?_,x⟩))
|`(tactic|sleep 13)=>`(tactic|(obtain ⟨its,rv,p,hz⟩:=I.list hq))
|`(tactic|sleep 14)=>`(tactic|(rcases zm.mp hy with hy|hy))
|`(tactic|sleep 15)=>`(tactic|(show (_:N5) _ [some (false,gD g)] _))
|`(tactic|sleep 16)=>`(tactic|(obtain ⟨v,rfl,h1⟩:=A61 h.dens))
|`(tactic|sleep 17)=>`(tactic|(rcases zn.mp hz with rfl|hz))
|`(tactic|sleep 18)=>`(tactic|(rcases zm.mp hx with hx|hx))
|`(tactic|sleep 19)=>`(tactic|(refine ⟨_,rfl,?_⟩))
|`(tactic|sleep 20)=>`(tactic|(obtain ⟨a,us,ns,g1,g2,g3,g4,g5,g6⟩:=A0k S h1))
|`(tactic|sleep 21)=>`(tactic|(cases (show u=Value.ref a from rx)))
|`(tactic|sleep 22)=>`(tactic|(obtain ⟨i,hi⟩:=List.getElem?_of_mem hz))
|`(tactic|sleep 23)=>`(tactic|(obtain ⟨ms,h1,h2,h3⟩:=h))
|`(tactic|sleep 24)=>`(tactic|(obtain ⟨o',e1⟩:=I.base.there b o e hx))
|`(tactic|sleep 25)=>`(tactic|(obtain ⟨oc,od,kV,doc,pm,an,cdv,ct,osl,rfl,lk,hcd⟩:=F.ex))
|`(tactic|sleep 26)=>`(tactic|(rcases zm.mp z with z|z))
|`(tactic|sleep 27)=>`(tactic|(obtain ⟨t',rfl⟩:=ry))
|`(tactic|sleep 28)=>`(tactic|(rcases zm.mp hu with hu|hu))
|`(tactic|sleep 29)=>`(tactic|(refine ⟨m',hm,i+1,σ7,H7,I7.unpinned,T.keep _ _ _ st5 λb hb o e=>(I7.pin (b,o) (qz _ (qz _ (V2 hb e)))).1,λb hb=>?_,w7⟩))
|`(tactic|sleep 30)=>`(tactic|(refine ⟨.int (gv os (p - 1)),by rw[show (p:Int) - 1=((p - 1:Nat):Int) by lia];exact B9 (by rw[qp,I8 (by lia)];rfl),?_⟩))
|`(tactic|sleep 31)=>`(tactic|(obtain ⟨z,its,n,r,hl,e⟩:=I.lstM hH))
|`(tactic|sleep 32)=>`(tactic|(obtain ⟨e,n,ne,nf,d⟩:=I.pin p hp))
|`(tactic|sleep 33)=>`(tactic|(refine ⟨H0,ν,O,_,Xd,S,h1,λb H' g1 g2=>?_,x⟩))
|`(tactic|sleep 34)=>`(tactic|(obtain ⟨a,us,rfl,g1,g2⟩:=D9 h1))
|`(tactic|sleep 35)=>`(tactic|(obtain ⟨sl,e1⟩:=I.base.slot b o e n hb hx))
|`(tactic|sleep 36)=>`(tactic|(rcases mem_or_eq_of_mem_set hz with hz|rfl))
|`(tactic|sleep 37)=>`(tactic|(exact I1.fpOk (qt _) (I1.hok.fresh (qt _))))
|`(tactic|sleep 38)=>`(tactic|(have x1:∀ C H',Xd C->A8 (S4 (Hd Z0 ν) H1) H'->E (.ref C) none H':=λC H' a b=>x C H' a (eb.trans b);have it:B34 K (S4 (Hd Z0 ν) H1) J ds:=it;refine ⟨λi m U H=>m=ds.length - i/\i<=ds.length/\∃ ν' O',D2 K Z0 (S4 (Hd Z0 ν) H1) ν' O' U H/\W i O',⟨ds.length,by simp,jb _,ν,O,S1,w0⟩,?_⟩;rintro i m σ2 H2 ⟨rfl,hi,ν2,ρ2,S2,w2⟩;obtain ⟨i1,i2⟩:=it (Hd Z0 ν2) H2 S2.hl S2.base;by_cases hlt:i < ds.length))
|`(tactic|sleep 39)=>`(tactic|(simp only[L2.tSl,L2.A9c,L2.A2s,L2.B9a]))
|`(tactic|sleep 40)=>`(tactic|(rw[qr rfl,qs (λz=>hkl z.symm),qr rfl]))
open PySem PySem.Spec PyProof.Rows
abbrev stE (e:Expr) (es:List Expr) (v):=starEach (e::es) v=(false,eval e v)::starEach es v
abbrev stB (p) (es:List Expr) (v):=(backTo p (starEach es v)).any (·.1)=false
abbrev noD (x:Str):=(x==("__debug__":Str))=false
local macro_rules | `(tactic| cbv) => `(tactic| walk_at "d")
local macro_rules | `(tactic| walk_at "g") => `(tactic| first | k_exc | k_is | kernel_rfl)
def qc:=@Heap.get?_push_of_some
def qd:=@wpAny_bind
def qe:=@wpAny_pure
def qf:=@wpS_bind
def qh:=@wpS_pure
def qk:=@List.length_map
def ql:=@List.getElem?_eq_some_iff
def qm:=@Heap.lt_size
def qo:=@Array.length_toList
def qp:=@List.getElem?_map
def qq:=@Heap.get?_push_size
def qr:=@if_pos
def qs:=@if_neg
def qt:=@Nat.le_refl
def qu:=@Nat.lt_of_le_of_lt
def qv:=@Nat.lt_of_lt_of_le
def qw:=@Bool.false_ne_true
def qx:=@List.mem_cons_self
def qy:=@List.mem_cons_of_mem
def qz:=@List.mem_append_right
def za:=@List.mem_append_left
def zb:=@Bool.and_eq_true
def zc:=@List.mem_singleton
def zd:=@List.getElem?_eq_getElem
def ze:=@Nat.ne_of_lt
def zg:=@List.mem_map
def zh:=@Nat.add_le_add_left
def zk:=@Nat.le_of_lt
def zm:=@List.mem_append
def zn:=@List.mem_cons
def zo:=@Array.getElem?_eq_some_iff
def zp:=@Array.getElem?_toList
def zq:=@Nat.le_trans
def zt:=@Bool.false_eq_true
def zu:=@Option.some.inj
def zw:=@decide_eq_true_eq
def zx:=@List.mem_of_getElem?
def zy:=@Heap.get?_update_other
def zz:=@Bool.eq_iff_iff
def ja:=@PySem.mem_of_lookup
def jb:=@Nat.zero_le
def jc:=@List.length_take
def jd:=@wpAny_mono
open List (mem_range mem_cons_self mem_cons_of_mem mem_cons mem_append mem_append_left mem_append_right size_toArray append_nil nodup_cons of_mem_zip length_take mem_of_getElem? length_append length_map map_cons length_drop length_set replicate_succ append_assoc nil_append mem_map all_eq_true mem_iff_getElem getD_eq_getElem?_getD mem_singleton length_cons nodup_nil nodup_append mem_of_mem_drop length_range map_append map_map mem_or_eq_of_mem_set map_congr_left map_drop map_set)
variable {fd:FuncData} {pins:List (Addr × Obj)} {E:Value->Shared->Prop} {P:Program} {body suite:List Stmt} {iter target e0:Expr} {t' tk n' m c wd KK:Nat} {osl:Array (Option Value)} {pos' py px tpos cpos apos spos np hpos pos2:Pos} {od:Option Addr} {fp ts:List Addr} {doc cdv pm oc cd dV cls a0:Value} {mA:Str->Option Value} {params:Arguments} {s':Shared} {d':Drawn} {name:Str} {its':List Value} {XP:(Str->Option Value)->Heap->Prop} {YP:World->Heap->Prop} {loose:List Str} {B hn:Prop} {fa ea cG cT cE0:Addr} {elts ifs:List Expr} {cap:List (Str × Nat)} {oe:Obj} {h':Heap} {ν:Nat->List Addr} {g R:List (List Int)} {Z:Addr->Prop} {Ui Tb:List Nat} {γ:Nat->Nat} {J:Int->Prop}
namespace L2
abbrev Key:=Sum Int Str
def C9e:Key->Value->Bool
 | .inl k,v=>Value.isInt k v
 | .inr x,v=>Value.isStrOf x v
def E2l (w:World):Key->Int
 | .inl k=>hashInt k
 | .inr x=>hashStr w x
theorem M4:∀ {k:Key} {v:Value},C9e k v=true->(∃ i t,k=Sum.inl i/\v=Value.int i t)\/(∃ x t,k=Sum.inr x/\v=Value.str x t)
 | .inl i,v,h=>by
  obtain ⟨t,e⟩:=Value.isInt_shape (k:=i) (v:=v) h;exact .inl ⟨i,t,rfl,e⟩
 | .inr x,v,h=>by
  obtain ⟨t,e⟩:=Value.isStrOf_shape (x:=x) (v:=v) h;exact .inr ⟨x,t,rfl,e⟩
theorem D1l (a b:Int):decide ((Sum.inl a:Key)=Sum.inl b)=(a==b):=by
 by_cases e:a=b
 ·subst e;simp
 ·have h:¬ (Sum.inl a:Key)=Sum.inl b:=λq=>e (Sum.inl.inj q);rw[decide_eq_false h];exact (beq_eq_false_iff_ne.mpr e).symm
theorem D3x (a b:Str):decide ((Sum.inr a:Key)=Sum.inr b)=decide (a=b):=by
 by_cases e:a=b
 ·subst e;simp
 ·have h:¬ (Sum.inr a:Key)=Sum.inr b:=λq=>e (Sum.inr.inj q);rw[decide_eq_false h,decide_eq_false e]
theorem D11 (a:Int) (b:Str):decide ((Sum.inl a:Key)=Sum.inr b)=false:=decide_eq_false (λq=>nomatch q)
theorem D1v (a:Str) (b:Int):decide ((Sum.inr a:Key)=Sum.inl b)=false:=decide_eq_false (λq=>nomatch q)
def B1p (prog:Program) (w:World):PySem.KeyKind prog w Key where
 is:=C9e
 hash:=E2l w
 inj:=λv a b ha hb=>by
  rcases M4 ha with ⟨i,t,rfl,rfl⟩|⟨x,t,rfl,rfl⟩
  ·rcases M4 hb with ⟨j,u,rfl,e⟩|⟨y,u,rfl,e⟩
   ·injection e with e1 _;rw[e1]
   ·exact nomatch e
  ·rcases M4 hb with ⟨j,u,rfl,e⟩|⟨y,u,rfl,e⟩
   ·exact nomatch e
   ·injection e with e1 _;rw[e1]
 byValue:=λk v h=>by
  rcases M4 h with ⟨i,t,rfl,rfl⟩|⟨x,t,rfl,rfl⟩<;>rfl
 pyHash:=λhv h=>by
  rcases M4 hv with ⟨i,t,rfl,rfl⟩|⟨x,t,rfl,rfl⟩
  ·exact wpAny_pyHash_int h
  ·exact wpAny_pyHash_str h
 eqBool:=λhu hv h=>by
  rcases M4 hu with ⟨i,t,rfl,rfl⟩|⟨x,t,rfl,rfl⟩
  ·rcases M4 hv with ⟨j,u,rfl,rfl⟩|⟨y,u,rfl,rfl⟩
   ·rw[D1l] at h;exact wpAny_eqBool_int h
   ·rw[D11] at h;exact SeqAt.EqAt.int_str i t y u _ _ _ _ h
  ·rcases M4 hv with ⟨j,u,rfl,rfl⟩|⟨y,u,rfl,rfl⟩
   ·rw[D1v] at h;exact SeqAt.EqAt.str_int x t j u _ _ _ _ h
   ·rw[D3x] at h;exact wpAny_eqBool_str h
 «strs»:=λk x t v h=>by
  rcases M4 h with ⟨i,u,rfl,e⟩|⟨y,u,rfl,e⟩
  ·exact nomatch e
  ·injection e with e1 _
   subst e1;cases v<;>rfl
inductive V where
 | non|bl (b:Bool)|int (i:Int)|str (x:Str)|byt (b:Array UInt8)|flt (b:UInt64)|ref (a:Addr)|ty (n:String)
 deriving DecidableEq
def G1:V->Value->Prop
 | .non,u=>u=Value.none
 | .bl b,u=>u=Value.bool b
 | .int i,u=>∃ t,u=Value.int i t
 | .str x,u=>∃ t,u=Value.str x t
 | .byt b,u=>∃ t,u=Value.bytes b t
 | .flt b,u=>∃ t,u=Value.float b t
 | .ref a,u=>u=Value.ref a
 | .ty n,u=>u=Value.type n
abbrev D7:List V->List Value->Prop:=Paired G1
variable {us:List Value} {xs vs:List V} {o:Obj} {g':Array GenState} {s:Shared} {Q:Value->Shared->Prop} {tg:Expr} {es:List Expr} {f:Value->Value->Sem Value} {scope:Scope} {qual:Str}
theorem D7.length (r:D7 xs us):xs.length=us.length:=Paired.length r
theorem D7.get:∀ {xs:List V} {us:List Value} {i:Nat} {x:V},D7 xs us->xs[i]?=some x->∃ u,us[i]?=some u/\G1 x u
 | _,_,_,_,.nil,e=>by simp at e
 | _,_,0,_,.cons r _,e=>by simp at e;subst e;exact ⟨_,rfl,r⟩
 | _,_,i+1,x,.cons _ t,e=>by
  obtain ⟨u,h1,h2⟩:=D7.get (i:=i) (x:=x) t (by simpa using e);exact ⟨u,by simpa using h1,h2⟩
theorem D7.set {x:V} {u:Value} (r:G1 x u):∀ {xs:List V} {us:List Value} (i:Nat),D7 xs us->D7 (xs.set i x) (us.set i u)
 | _,_,_,.nil=>.nil
 | _,_,0,.cons _ t=>.cons r t
 | _,_,i+1,.cons q t=>.cons q (D7.set r i t)
theorem D7.append:∀ {xs ys:List V} {us ws:List Value},D7 xs us->D7 ys ws->D7 (xs++ys) (us++ws)
 | _,_,_,_,.nil,s=>s
 | _,_,_,_,.cons r t,s=>.cons r (D7.append t s)
theorem D7.take:∀ {xs:List V} {us:List Value} (n:Nat),D7 xs us->D7 (xs.take n) (us.take n)
 | _,_,0,_=>.nil
 | _,_,_+1,.nil=>.nil
 | _,_,n+1,.cons r t=>.cons r (D7.take n t)
theorem D7.drop:∀ {xs:List V} {us:List Value} (n:Nat),D7 xs us->D7 (xs.drop n) (us.drop n)
 | _,_,0,r=>r
 | _,_,_+1,.nil=>.nil
 | _,_,n+1,.cons _ t=>D7.drop n t
def D4w:Option V->Option Value->Prop
 | some v,some u=>G1 v u
 | none,none=>True
 | _,_=>False
def KV {κ:Type}:List (κ × V)->List (κ × Value)->Prop:=Paired λ(p:κ × V) (q:κ × Value)=>p.1=q.1/\G1 p.2 q.2
def kV:Key->V
 | .inl i=>.int i
 | .inr x=>.str x
inductive HO where
 /-- a list -/
 | lst (xs:List V)
 /-- a tuple (never changes) -/
 | tup (xs:List V)
 /-- a dict whose keys are ints and texts;one whose keys are tuples of ints and texts (the empty one is both) -/
 | dK (kvs:List (Key × V))|dT (kvs:List (List Key × V))
 /-- a set of ints: its members,its size -/
 | set (S:Int->Bool) (n:Nat)
 /-- an instance of the class at C,its dict at dx,its attributes -/
 | ins (C dx:Addr) (fs:List (Str × V))
 /-- the dict of the instance at x -/
 | own (x:Addr)
 /-- the dict of an exception -/
 | xd (fs:List (Str × V))
 /-- a bound method,f of x -/
 | met (f x:Addr)
 /-- a range object lo,lo+1,.. below hi -/
 | rng (lo hi:Int)
 /-- a thing that is known to the object (the script;a dict while a loop walks it): read,never written while it is so -/
 | frz (o:Obj) (u:HO)
 /-- a code object's table -/
 | tbl (ps:Array Value)
 /-- any other thing,by what is true of its one object (a def of one's own: SetO a S n:=HO.ext λh=>..) -/
 | ext (φ:Heap->Prop)
abbrev Hp:=Addr->Option HO
def E5 (H:Hp) (a:Addr) (o:HO):Hp:=λb=>if b=a then some o else H b
variable {H:Hp}
theorem B7 {a:Addr} {o:HO}:E5 H a o a=some o:=by unfold E5;rw[qr rfl]
theorem B4 {a b:Addr} {o:HO} (h:b≠a):E5 H a o b=H b:=by unfold E5;rw[qs h]
theorem K9 {a b:Addr} {o:HO} (h:H a=some o) (h':H b=none):a≠b:=by
 intro e;subst e;rw[h] at h';cases h'
section
variable (P:Program) (w:World)
def P7 (H:Hp) (h:Heap) (a:Addr):HO->Prop
 | .lst xs=>xs.length<=sizeLine/\∃ (its:List Value) (n:Nat),D7 xs its/\h.get? a=some { cls:=.type "list",data:=.seq its.toArray n }
 | .tup xs=>xs.length<=sizeLine/\∃ its:List Value,D7 xs its/\IsTup h a its.toArray
 | .dK kvs=>kvs.length<=sizeLine/\(a==sysModules)=false/\∃ vs,KV kvs vs/\h.DictOf (B1p P w) a vs
 | .dT kvs=>kvs.length<=sizeLine/\(a==sysModules)=false/\∃ xs:List (List Key × Addr × Value),
   Paired (λ(p:List Key × V) (q:List Key × Addr × Value)=>p.1=q.1/\H q.2.1=some (.tup (p.1.map kV))/\G1 p.2 q.2.2) kvs xs /\
   ∃ o es ep,h.get? a=some o/\o.ExactDict/\o.data=.dict es ep/\es.toList=xs.map (entryOfKey (tupleKind (B1p P w)))/\(xs.map (·.1)).Nodup
 | .set S n=>h.SetOf (intKind P w) a S n
 | .ins C dx fs=>H dx=some (.own a)/\fs.length<=1000/\dx≠a/\h.get? a=some (W.instObj C dx) /\
   ∃ mA,h.Ns1 dx mA/\(∀ f,D4w (fs.lookup f) (mA f))/\PySem.Within mA (fs.map (·.1))
 | .own _=>∃ o,h.get? a=some o
 | .xd fs=>∃ mA,h.Ns1 a mA/\∀ f,D4w (fs.lookup f) (mA f)
 | .rng lo hi=>∃ t u v,h.get? a=some { cls:=.type "range",data:=.fields #[.int lo t,.int hi u,.int 1 v] }
 | .frz o u=>h.get? a=some o/\P7 H h a u
 | .tbl ps=>h.get? a=some { cls:=.none,data:=.fields ps }
 | .met f x=>h.get? a=some (W.methodObj (.ref f) (.ref x))
 | .ext φ=>φ h/\(∃ o,h.get? a=some o)/\∀ h1 h2:Heap,φ h1->(∀ o,h1.get? a=some o->h2.get? a=some o)->φ h2
def HOk (H:Hp) (h:Heap):Prop:=∀ a o,H a=some o->P7 P w H h a o
end
section
variable {P:Program} {w:World} {H H':Hp} {h h':Heap} {a:Addr} {o:HO}
theorem P7.lt (x:P7 P w H h a o):a < h.objs.size:=by
 cases o with
 | lst xs=>obtain ⟨_,_,_,_,e⟩:=x;exact qm e
 | tup xs=>obtain ⟨_,_,_,p⟩:=x;exact p.lt
 | dK kvs=>obtain ⟨_,_,_,_,o,_,_,e,_⟩:=x;exact qm e
 | dT kvs=>obtain ⟨_,_,_,_,o,_,_,e,_⟩:=x;exact qm e
 | set S n=>obtain ⟨o,_,_,_,e,_⟩:=x;exact qm e
 | ins C dx fs=>obtain ⟨_,_,_,e,_⟩:=x;exact qm e
 | own y=>obtain ⟨_,e⟩:=x;exact qm e
 | xd fs=>obtain ⟨_,⟨_,_,_,e,_⟩,_⟩:=x;exact qm e
 | rng lo hi=>obtain ⟨_,_,_,e⟩:=x;exact qm e
 | frz ob u=>obtain ⟨e,_⟩:=x;exact qm e
 | tbl ps=>exact qm (show h.get? a=some _ from x)
 | met f y=>exact qm (show h.get? a=some _ from x)
 | ext φ=>obtain ⟨_,⟨_,e⟩,_⟩:=x;exact qm e
theorem Paired.mapP {α β:Type} {F G:α->β->Prop}:∀ {l₁:List α} {l₂:List β},Paired F l₁ l₂->(∀ a b,F a b->G a b)->Paired G l₁ l₂
 | _,_,.nil,_=>.nil
 | _,_,.cons r t,f=>.cons (f _ _ r) (Paired.mapP t f)
theorem P7.stay (x:P7 P w H h a o) (k:∀ b u,(b=a\/H b=some (.own a))->h.get? b=some u->h'.get? b=some u)
  (ho:∀ b,H b=some (.own a)->H' b=some (.own a)) (ht:∀ b xs,H b=some (.tup xs)->H' b=some (.tup xs)):P7 P w H' h' a o:=by
 induction o with
 | lst xs=>obtain ⟨z,its,n,r,e⟩:=x;exact ⟨z,its,n,r,k _ _ (.inl rfl) e⟩
 | tup xs=>obtain ⟨z,its,r,ob,e,c⟩:=x;exact ⟨z,its,r,ob,k _ _ (.inl rfl) e,c⟩
 | dK kvs=>obtain ⟨z,y,vs,r,ob,es,ep,e,c⟩:=x;exact ⟨z,y,vs,r,ob,es,ep,k _ _ (.inl rfl) e,c⟩
 | dT kvs =>
  obtain ⟨z,y,xs,r,ob,es,ep,e,c⟩:=x;exact ⟨z,y,xs,Paired.mapP r λp q z=>⟨z.1,ht _ _ z.2.1,z.2.2⟩,ob,es,ep,k _ _ (.inl rfl) e,c⟩
 | set S n=>obtain ⟨ob,es,ep,t,e,c⟩:=x;exact ⟨ob,es,ep,t,k _ _ (.inl rfl) e,c⟩
 | ins C dx fs =>
  obtain ⟨d,z,ne,e,mA,⟨od,es,ep,e2,c⟩,r⟩:=x;exact ⟨ho _ d,z,ne,k _ _ (.inl rfl) e,mA,⟨od,es,ep,k _ _ (.inr d) e2,c⟩,r⟩
 | own y=>obtain ⟨ob,e⟩:=x;exact ⟨ob,k _ _ (.inl rfl) e⟩
 | xd fs=>obtain ⟨mA,⟨od,es,ep,e,c⟩,r⟩:=x;exact ⟨mA,⟨od,es,ep,k _ _ (.inl rfl) e,c⟩,r⟩
 | rng lo hi=>obtain ⟨t,u,v,e⟩:=x;exact ⟨t,u,v,k _ _ (.inl rfl) e⟩
 | frz ob u ih=>obtain ⟨e,q⟩:=x;exact ⟨k _ _ (.inl rfl) e,ih q⟩
 | tbl ps =>
  have e:h.get? a=some { cls:=.none,data:=.fields ps }:=x;show h'.get? a=some { cls:=.none,data:=.fields ps };exact k a _ (.inl rfl) e
 | met f y =>
  have e:h.get? a=some (W.methodObj (.ref f) (.ref y)):=x;show h'.get? a=some (W.methodObj (.ref f) (.ref y));exact k a _ (.inl rfl) e
 | ext φ=>obtain ⟨p,⟨o,e⟩,st⟩:=x;exact ⟨st _ _ p λo q=>k _ _ (.inl rfl) q,⟨o,k _ _ (.inl rfl) e⟩,st⟩
theorem HOk.lt (x:HOk P w H h) (e:H a=some o):a < h.objs.size:=(x a o e).lt
theorem HOk.fresh (x:HOk P w H h) (e:h.objs.size<=a):H a=none:=by
 cases q:H a with
 | none=>rfl
 | some u=>exact absurd (qv (x.lt q) e) (Nat.lt_irrefl _)
theorem HOk.kept (x:HOk P w H h) (k:∀ b u,h.get? b=some u->h'.get? b=some u):HOk P w H h':=λa o e =>
 (x a o e).stay (λb u _ q=>k b u q) (λ_ q=>q) λ_ _ q=>q
theorem HOk.laid (x:HOk P w H h) (k:∀ b u,h.get? b=some u->h'.get? b=some u) (hp:h.objs.size<=a) (new:P7 P w (E5 H a o) h' a o):HOk P w (E5 H a o) h':=λb u e=>by
 have hn:=x.fresh hp;by_cases hb:b=a
 ·subst hb;rw[B7] at e;cases e;exact new
 ·rw[B4 hb] at e;exact (x b u e).stay (λc v _ q=>k c v q) (λc q=>by rw[B4 (K9 q hn)];exact q) λc xs q=>by rw[B4 (K9 q hn)];exact q
end
def Rd (H:Hp) (a:Addr) (u:HO):Prop:=H a=some u\/∃ o,H a=some (.frz o u)
theorem Rd.ok {w:World} {h:Heap} {a:Addr} {u:HO} (r:Rd H a u) (x:HOk P w H h):P7 P w H h a u:=by
 rcases r with r|⟨o,r⟩
 ·exact x a u r
 ·obtain ⟨_,q⟩:=x a _ r;exact q
def Mut:Option HO->Prop
 | some (.lst _)=>True
 | some (.dK _)=>True
 | some (.dT _)=>True
 | some (.set _ _)=>True
 | some (.ins _ _ _)=>True
 | some (.ext _)=>True
 | _=>False
section
variable {P:Program} {w:World} {H:Hp} {h h':Heap} {x e:Addr} {o':HO}
theorem HOk.write (ok:HOk P w H h) (mu:Mut (H x)) (he:e=x\/H e=some (.own x)) (k:∀ b u,b≠e->h.get? b=some u->h'.get? b=some u) (heo:∃ u,h'.get? e=some u)
  (new:P7 P w (E5 H x o') h' x o'):HOk P w (E5 H x o') h':=λb u q=>by
 have nown:∀ c y,H c=some (.own y)->c≠x:=λc y r z=>by subst z;rw[r] at mu;exact mu
 have ntup:∀ c xs,H c=some (.tup xs)->c≠x:=λc xs r z=>by subst z;rw[r] at mu;exact mu
 by_cases hb:b=x
 ·subst hb;rw[B7] at q;cases q;exact new
 ·rw[B4 hb] at q;by_cases hbe:b=e
  ·have q':H b=some (.own x):=by
    rcases he with z|z
    ·exact absurd (hbe.trans z) hb
    ·rw[hbe];exact z
   rw[q] at q';cases q';obtain ⟨v,hv⟩:=heo;exact ⟨v,by rw[hbe];exact hv⟩
  ·refine (ok b u q).stay (λc v hc r=>k c v ?_ r) (λc r=>by rw[B4 (nown c b r)];exact r) λc xs r=>by rw[B4 (ntup c xs r)];exact r
   rcases hc with rfl|hc
   ·exact hbe
   ·rintro rfl;rcases he with z|z
    ·exact nown c b hc z
    ·rw[hc] at z;cases z;exact hb rfl
end
structure Un (fs ex:List Addr) (H H':Hp) (h h':Heap):Prop where
 keep:∀ b o,h.get? b=some o->H b=none->b∉fs->b∉ex->h'.get? b=some o
 slot:∀ b o,h.get? b=some o->H b=none->b∈fs->b∉ex->∃ sl,h'.get? b=some { o with slots:=sl }
 free:∀ b o,h.get? b=some o->H b=none->b∉ex->H' b=none
 there:∀ b o,h.get? b=some o->b∉ex->∃ o',h'.get? b=some o'
 tups:∀ b xs,H b=some (.tup xs)->H' b=some (.tup xs)
 frzs:∀ b o u,H b=some (.frz o u)->H' b=some (.frz o u)
 tbls:∀ b ps,H b=some (.tbl ps)->∃ more,H' b=some (.tbl (ps++more))
section
variable {fs ex:List Addr} {H H1:Hp} {h h1 h':Heap} {a x e:Addr} {o:HO}
theorem Un.any (u:Un fs ex H H1 h h1) {b:Addr} {ob:Obj} (q:h.get? b=some ob) (n:H b=none) (hx:b∉ex):∃ sl,h1.get? b=some { ob with slots:=sl }:=by
 by_cases hb:b∈fs
 ·exact u.slot b ob q n hb hx
 ·exact ⟨ob.slots,u.keep b ob q n hb hx⟩
theorem Un.kept (k:∀ b u,h.get? b=some u->h'.get? b=some u):Un fs ex H H h h' :=
 ⟨λb ob q _ _ _=>k b ob q,λb ob q _ _ _=>⟨ob.slots,k b ob q⟩,λ_ _ _ n _=>n,λb ob q _=>⟨ob,k b ob q⟩,λ_ _ q=>q,λ_ _ _ q=>q,λ_ ps q=>⟨#[],by rw[q];simp⟩⟩
theorem Un.refl:Un fs ex H H h h:=Un.kept λ_ _ q=>q
theorem Un.laid (k:∀ b u,h.get? b=some u->h'.get? b=some u) (hp:h.objs.size<=a) (hn:H a=none):Un fs ex H (E5 H a o) h h' where
 keep:=λb u q _ _ _=>k b u q
 slot:=λb u q _ _ _=>⟨u.slots,k b u q⟩
 free:=λb u q n _=>by rw[B4 (ze (qv (qm q) hp))];exact n
 there:=λb u q _=>⟨u,k b u q⟩
 tups:=λb xs q=>by rw[B4 (K9 q hn)];exact q
 frzs:=λb u xs q=>by rw[B4 (K9 q hn)];exact q
 tbls:=λb ps q=>⟨#[],by rw[B4 (K9 q hn),q];simp⟩
theorem Un.write (mu:Mut (H x)) (he:e=x\/H e=some (.own x)) (k:∀ b u,b≠e->h.get? b=some u->h'.get? b=some u) (heo:∃ u,h'.get? e=some u):Un fs ex H (E5 H x o) h h':=by
 have hx:∀ b,H b=none->b≠x:=λb n z=>by subst z;rw[n] at mu;exact mu
 have hb:∀ b,H b=none->b≠e:=λb n z=>by
  subst z;rcases he with r|r
  ·exact hx b n r
  ·rw[n] at r;cases r
 have hm:∀ b u,H b=some u->¬ Mut (some u)->b≠x:=λb u q nm z=>by subst z;rw[q] at mu;exact nm mu
 refine ⟨λb u q n _ _=>k b u (hb b n) q,λb u q n _ _=>⟨u.slots,k b u (hb b n) q⟩,λb u q n _=>by rw[B4 (hx b n)];exact n,λb u q _=>?_,
  λb xs q=>by rw[B4 (hm b _ q λz=>z)];exact q,λb u xs q=>by rw[B4 (hm b _ q λz=>z)];exact q,λb ps q=>⟨#[],by rw[B4 (hm b _ q λz=>z),q];simp⟩⟩
 by_cases hbe:b=e
 ·subst hbe;exact heo
 ·exact ⟨u,k b u hbe q⟩
end
def trk (h:Heap) (H:Hp):List Addr:=(List.range h.objs.size).filter λa=>(H a).isSome
def A8p (h:Heap) (H:Hp):Heap:=W.hideAll h (trk h H)
theorem B9c (h:Heap) (H:Hp):(A8p h H).objs.size=h.objs.size:=W.hideAll_size _ _
theorem C3b {h:Heap} {b:Addr} (e:h.get? b=some o) (n:H b=none):(A8p h H).get? b=some o :=
 W.hideAll_get _ e λhm=>by
  have q:(H b).isSome=true:=(List.mem_filter.mp hm).2;rw[n] at q;simp at q
theorem C8o {h:Heap} {b:Addr} (e:(A8p h H).get? b=some o):h.get? b=some o/\H b=none:=by
 have e':h.get? b=some o:=W.of_hideAll (trk h H) e;refine ⟨e',?_⟩;cases q:H b with
 | none=>rfl
 | some x =>
  have hm:b∈trk h H:=List.mem_filter.mpr ⟨mem_range.mpr (qm e'),by simp[q]⟩;have z:(A8p h H).get? b=none:=W.hideAll_none (trk h H) hm;rw[z] at e;cases e
def C5e (g h:Heap) (L:Addr):List (Addr × Obj):=(List.range h.objs.size).filterMap λa=>if a=L\/(g.get? a).isSome=true then none else (h.get? a).map λo=>(a,o)
def G4 (g h:Heap) (L d:Addr):List (Addr × Obj):=(C5e g h L).filter λp=>decide (p.1≠d)
structure Mod (K:W.Frag) (mg:Str->Option Value) (base:Heap):Prop where
 kin:K.In base
 glob:base.Ns mainGlobals mg
 blt:∃ mb,base.Ns builtinsNs mb/\∀ x:Str,x≠"__name__"->mb x=bootBuiltins x
 nolimit:base.NoLimit
 seer:base.NoSeer
structure Cx where
 prog:Program
 w:World
 K:W.Frag
 mg:Str->Option Value
 base:Heap
 A:Around
 N:List Str
 s₀:Shared
 H₀:Hp
 env:Env
 outer:List Env
 stack:List Env
 ex:List Addr
 fn:Str->Bool
 calm:Bool
 pn:List (Addr × Obj)
 xe:Value->Shared->Prop
def frs (l:List Env):List Addr:=l.filterMap (·.frame)
abbrev Cx.fs (X:Cx):List Addr:=frs X.outer
def Vis (sc:Scope) (x:Str):Prop:=sc.names.lookup x=some .local\/sc.names.lookup x=some .cell\/sc.names.lookup x=some .free
def Loc (sc:Scope) (x:Str):Prop:=sc.names.lookup x=some .local\/sc.names.lookup x=some .cell
def E0z (env:Env) (h:Heap) (m:Str->Option Value) (x:Str) (u:Value):Prop :=
 (env.kindOf x=some .local/\m x=some u)\/((env.kindOf x=some .cell\/env.kindOf x=some .free)/\∃ c,env.cells.lookup x=some c/\h.IsCell c (some u))
structure Cx.Ok (X:Cx):Prop where
 mod:Mod X.K X.mg X.base
 kind:X.env.scope.kind=.function
 glob:X.env.globals=mainGlobals
 blt:X.env.builtins=builtinsNs
 above:X.s₀.heap.objs.size<=X.env.locals
 inj:∀ x y c,X.env.cells.lookup x=some c->X.env.cells.lookup y=some c->x=y
 has:∀ x,(X.env.kindOf x=some .cell\/X.env.kindOf x=some .free)->∃ c,X.env.cells.lookup x=some c
 cab:∀ x c,X.fn x=true->X.env.cells.lookup x=some c->X.s₀.heap.objs.size<=c
 hd:X.calm=true->X.A.handled=none
 frames:X.A.frames=some X.stack
 stk:X.stack=X.outer\/(X.stack=X.env::X.outer/\X.env.frame=some X.env.locals)
 exf:∀ b∈X.ex,b≠X.env.locals/\∀ x c,X.env.cells.lookup x=some c->c≠b
 bs:∀ b o,X.base.get? b=some o->X.s₀.heap.get? b=some o/\X.H₀ b=none
 bsz:X.base.objs.size<=X.s₀.heap.objs.size
 noex:∀ b o,X.base.get? b=some o->b∉X.ex
 exfs:∀ b∈X.ex,b∉X.fs
 funs:X.s₀.heap.FunFrames X.base X.outer
 frf:∀ b∈X.fs,X.H₀ b=none
structure C0 (X:Cx) (pins:List (Addr × Obj)) (U:List (Option V)) (H:Hp) (s:Shared):Prop where
 ok:X.Ok
 os:s.os=X.s₀.os
 bare:AllBare s.gens
 base:Un X.fs X.ex X.H₀ H X.s₀.heap s.heap
 loc:∃ m,s.heap.Ns X.env.locals m/\∀ (i:Nat) (x:Str) (v:V),X.N[i]?=some x->U[i]?=some (some v)->Vis X.env.scope x->∃ u,G1 v u/\E0z X.env s.heap m x u
 cell:∀ x c,X.env.cells.lookup x=some c->∃ v,s.heap.IsCell c v
 free:H X.env.locals=none
 freeC:∀ x c,X.env.cells.lookup x=some c->H c=none
 pin:∀ p∈X.pn++pins,s.heap.get? p.1=some p.2/\H p.1=none/\p.1≠X.env.locals/\p.1∉X.fs/\∀ v,p.2.data≠.cell v
 hok:HOk X.prog X.w H s.heap
 len:U.length=X.N.length
section
variable {X:Cx} {pins:List (Addr × Obj)} {U:List (Option V)} {H H':Hp} {s:Shared} {h':Heap}
theorem Cx.Ok.nofr (ok:X.Ok) {b:Addr} (e:X.base.get? b=some o):b∉X.fs:=λhb=>by
 have:=(ok.funs.mem hb).1;rw[e] at this;cases this
theorem C0.bs (I:C0 X pins U H s):∀ b o,X.base.get? b=some o->s.heap.get? b=some o/\H b=none:=λb o e =>
 ⟨I.base.keep b o (I.ok.bs b o e).1 (I.ok.bs b o e).2 (I.ok.nofr e) (I.ok.noex b o e),I.base.free b o (I.ok.bs b o e).1 (I.ok.bs b o e).2 (I.ok.noex b o e)⟩
theorem C0.bk (I:C0 X pins U H s):∀ b o,X.base.get? b=some o->s.heap.get? b=some o:=λb o e=>(I.bs b o e).1
theorem C0.mod (I:C0 X pins U H s):Mod X.K X.mg X.base:=I.ok.mod
theorem C0.kIn (I:C0 X pins U H s):X.K.In s.heap:=I.ok.mod.kin.keeps I.bk
theorem C0.nolimit (I:C0 X pins U H s):s.heap.NoLimit:=I.ok.mod.nolimit.keeps I.bk
theorem C0.lt (I:C0 X pins U H s):X.env.locals < s.heap.objs.size:=let ⟨_,hn,_⟩:=I.loc;hn.lt
theorem C0.sz (I:C0 X pins U H s):X.s₀.heap.objs.size<=s.heap.objs.size:=zq I.ok.above (zk I.lt)
variable {a:Addr} {A:Around} {u:Value} {v:V}
theorem C0.nofs (I:C0 X pins U H s) (h:s.heap.objs.size<=a):a∉X.fs:=λhb=>by
 obtain ⟨_,o,ho,_⟩:=I.ok.funs.mem hb;exact absurd (qv (qm ho) (zq I.sz h)) (Nat.lt_irrefl _)
theorem C0.cne (I:C0 X pins U H s):∀ x c,X.env.cells.lookup x=some c->c≠X.env.locals:=λx c e z=>by
 obtain ⟨v,o,ho,hd⟩:=I.cell x c e;obtain ⟨m,⟨o',es,ep,ho',hd',_⟩,_⟩:=I.loc;rw[z,ho'] at ho;cases ho;rw[hd'] at hd;cases hd
theorem C0.funs (I:C0 X pins U H s):s.heap.FunFrames X.base X.outer:=by
 have all:∀ (l:List Env),(∀ b∈frs l,b∈X.fs)->X.s₀.heap.FunFrames X.base l->s.heap.FunFrames X.base l:=by
  intro l
  induction l with
  | nil=>intro _ _;trivial
  | cons env r ih =>
   intro hs hl;obtain ⟨hk,⟨L,o,hf,hn,ho,hd⟩,hr⟩:=hl;have hL:L∈X.fs:=hs L (by unfold frs;rw[List.filterMap_cons,hf];exact qx);obtain ⟨sl,e⟩:=I.base.slot L o ho (I.ok.frf L hL) hL λz=>I.ok.exfs L z hL;exact ⟨hk,⟨L,_,hf,hn,e,hd⟩,ih (λb hb=>hs b (by unfold frs;rw[List.filterMap_cons,hf];exact qy _ hb)) hr⟩
 exact all X.outer (λ_ hb=>hb) I.ok.funs
theorem C0.stack (I:C0 X pins U H s):s.heap.FunFrames X.base X.stack:=by
 rcases I.ok.stk with e|⟨e,hf⟩
 ·rw[e];exact I.funs
 ·rw[e];obtain ⟨m,hn,_⟩:=I.loc;refine .cons (by rw[I.ok.kind];decide) hf hn ?_ I.funs;exact Heap.get?_none_of_le (zq I.ok.bsz I.ok.above)
theorem C0.stkSub (I:C0 X pins U H s):∀ b∈frs X.stack,b∈X.env.locals::X.fs:=λb hb=>by
 rcases I.ok.stk with e|⟨e,hf⟩
 ·rw[e] at hb;exact qy _ hb
 ·rw[e] at hb;unfold frs at hb;rw[List.filterMap_cons,hf] at hb;exact hb
theorem C0.stkFree (I:C0 X pins U H s):∀ b∈frs X.stack,H b=none:=λb hb=>by
 rcases zn.mp (I.stkSub b hb) with e|hb
 ·rw[e];exact I.free
 ·obtain ⟨_,o,ho,_⟩:=I.ok.funs.mem hb;exact I.base.free b o ho (I.ok.frf b hb) λz=>I.ok.exfs b z hb
theorem C0.step {ch:List Addr} (I:C0 X pins U H s)
  (hch:∀ b∈ch,(b∈X.ex\/X.s₀.heap.objs.size<=b)/\b≠X.env.locals/\(∀ x c,X.env.cells.lookup x=some c->c≠b)/\∀ p∈X.pn++pins,p.1≠b)
  (keep:∀ b o,b≠X.env.locals->b∉X.fs->b∉ch->s.heap.get? b=some o->H b=none->h'.get? b=some o)
  (slot:∀ b o,b≠X.env.locals->b∈X.fs->b∉ch->s.heap.get? b=some o->H b=none->∃ sl,h'.get? b=some { o with slots:=sl }) (free:∀ b o,b∉ch->s.heap.get? b=some o->H b=none->H' b=none)
  (there:∀ b o,b∉ch->s.heap.get? b=some o->∃ o',h'.get? b=some o')
  (tups:∀ b xs,H b=some (.tup xs)->H' b=some (.tup xs)) (frzs:∀ b o u,H b=some (.frz o u)->H' b=some (.frz o u)) (tbls:∀ b ps,H b=some (.tbl ps)->∃ more,H' b=some (.tbl (ps++more)))
  (ns:∀ m,s.heap.Ns X.env.locals m->h'.Ns X.env.locals m) (hok:HOk X.prog X.w H' h') (hg:AllBare g') :
  C0 X pins U H' { s with heap:=h',gens:=g',drawn:=d',toks:=t' }:=by
 have neL:∀ b o,X.s₀.heap.get? b=some o->b≠X.env.locals:=λb o e=>ze (qv (qm e) I.ok.above);have neC:∀ b o,X.s₀.heap.get? b=some o->b∉X.ex->b∉ch:=λb o e hx hb=>by
  rcases (hch b hb).1 with z|z
  ·exact hx z
  ·exact absurd (qv (qm e) z) (Nat.lt_irrefl _)
 have cellK:∀ x c,X.env.cells.lookup x=some c->∀ v,s.heap.IsCell c v->h'.IsCell c v:=λx c e v ⟨o,ho,hd⟩=>by
  have nch:c∉ch:=λz=>(hch c z).2.2.1 x c e rfl;by_cases hc:c∈X.fs
  ·obtain ⟨sl,q⟩:=slot c o (I.cne x c e) hc nch ho (I.freeC x c e);exact ⟨_,q,hd⟩
  ·exact ⟨o,keep c o (I.cne x c e) hc nch ho (I.freeC x c e),hd⟩
 refine ⟨I.ok,I.os,hg,⟨λb o e n hb hx=>?_,λb o e n hb hx=>?_,λb o e n hx=>?_,λb o e hx=>?_,λb xs e=>tups b xs (I.base.tups b xs e),λb o xs e=>frzs b o xs (I.base.frzs b o xs e),λb ps e=>?_⟩,?_,λx c e=>?_,?_,λx c e=>?_,λp hp=>?_,hok,I.len⟩
 ·exact keep b o (neL b o e) hb (neC b o e hx) (I.base.keep b o e n hb hx) (I.base.free b o e n hx)
 ·sleep 35;obtain ⟨sl',e2⟩:=slot b _ (neL b o e) hb (neC b o e hx) e1 (I.base.free b o e n hx);exact ⟨sl',e2⟩
 ·sleep 24;exact free b o' (neC b o e hx) e1 (I.base.free b o e n hx)
 ·sleep 24;exact there b o' (neC b o e hx) e1
 ·obtain ⟨m1,e1⟩:=I.base.tbls b ps e;obtain ⟨m2,e2⟩:=tbls b _ e1;exact ⟨m1++m2,by rw[e2,Array.append_assoc]⟩
 ·obtain ⟨m,hn,hl⟩:=I.loc;refine ⟨m,ns m hn,λi x v e1 e2 e3=>?_⟩;obtain ⟨u,r,l⟩:=hl i x v e1 e2 e3;refine ⟨u,r,?_⟩;rcases l with l|⟨k,c,e,z⟩
  ·exact .inl l
  ·exact .inr ⟨k,c,e,cellK x c e _ z⟩
 ·obtain ⟨v,z⟩:=I.cell x c e;exact ⟨v,cellK x c e v z⟩
 ·obtain ⟨m,⟨o,_,_,ho,_⟩,_⟩:=I.loc;exact free _ o (λz=>(hch _ z).2.1 rfl) ho I.free
 ·obtain ⟨v,o,ho,hd⟩:=I.cell x c e;exact free c o (λz=>(hch c z).2.2.1 x c e rfl) ho (I.freeC x c e)
 ·sleep 32;have nch:p.1∉ch:=λz=>(hch p.1 z).2.2.2 p hp rfl;exact ⟨keep p.1 p.2 ne nf nch e n,free p.1 p.2 nch e n,ne,nf,d⟩
theorem C0.un (I:C0 X pins U H s) (u:Un X.fs [] H H' s.heap h') (hok:HOk X.prog X.w H' h'):C0 X pins U H' { s with heap:=h',toks:=t' }:=by
 obtain ⟨m,⟨o,es,ep,ho,r⟩,_⟩:=id I.loc;obtain ⟨sl,hL⟩:=u.any ho I.free (by simp);exact I.step (g':=s.gens) (d':=s.drawn) (ch:=[]) (λ_ z=>nomatch z) (λb o _ hb _ e n=>u.keep b o e n hb (by simp)) (λb o _ hb _ e n=>u.slot b o e n hb (by simp)) (λb o _ e n=>u.free b o e n (by simp)) (λb o _ e=>u.there b o e (by simp)) u.tups u.frzs u.tbls (λm' hm=>by
  obtain ⟨o',es',ep',ho',r'⟩:=hm;rw[ho] at ho';cases ho';exact ⟨_,es',ep',hL,r'⟩) hok I.bare
theorem C0.call {ch:List Addr} (I:C0 X pins U H s) (u:Un (frs X.stack) ch H H' s.heap h') (hok:HOk X.prog X.w H' h') (hg:AllBare g')
  (hch:∀ b∈ch,(b∈X.ex\/X.s₀.heap.objs.size<=b)/\b≠X.env.locals/\(∀ x c,X.env.cells.lookup x=some c->c≠b)/\∀ p∈X.pn++pins,p.1≠b) :
  C0 X pins U H' { s with heap:=h',gens:=g',drawn:=d',toks:=t' }:=by
 obtain ⟨m,⟨o,es,ep,ho,r⟩,_⟩:=id I.loc;obtain ⟨sl,hL⟩:=u.any ho I.free λz=>(hch _ z).2.1 rfl;exact I.step (ch:=ch) hch (λb o hL hb hc e n=>u.keep b o e n (λz=>(zn.mp (I.stkSub b z)).elim hL hb) hc) (λb o _ _ hc e n=>u.any e n hc) (λb o hc e n=>u.free b o e n hc) (λb o hc e=>u.there b o e hc) u.tups u.frzs u.tbls (λm' hm=>by
  obtain ⟨o',es',ep',ho',r'⟩:=hm;rw[ho] at ho';cases ho';exact ⟨_,es',ep',hL,r'⟩) hok hg
theorem C0.turned {it:Addr} (I:C0 X pins U H s) (k:∀ b o,b≠it->s.heap.get? b=some o->h'.get? b=some o) (hn:H it=none) (hL:it≠X.env.locals)
  (h1:it∈X.ex\/X.s₀.heap.objs.size<=it) (h2:∀ x c,X.env.cells.lookup x=some c->c≠it) (h3:∀ p∈X.pn++pins,p.1≠it):C0 X pins U H { s with heap:=h',toks:=t' }:=by
 have nit:∀ b u,H b=some u->b≠it:=λb u e z=>by rw[z,hn] at e;cases e
 refine I.step (g':=s.gens) (d':=s.drawn) (ch:=[it]) (λb hb=>?_) (λb o _ _ hc e _=>k b o (λz=>hc (by simp[z])) e) (λb o _ _ hc e _=>⟨o.slots,k b o (λz=>hc (by simp[z])) e⟩) (λ_ _ _ _ n=>n)
  (λb o hc e=>⟨o,k b o (λz=>hc (by simp[z])) e⟩) (λ_ _ e=>e) (λ_ _ _ e=>e) (λb ps e=>⟨#[],by rw[e];simp⟩) (λm hm=>?_) (λb u e=>?_) I.bare
 ·have e:b=it:=by simpa using hb
  subst e;exact ⟨h1,hL,h2,h3⟩
 ·obtain ⟨o,es,ep,ho,r⟩:=hm;exact ⟨o,es,ep,k _ o (Ne.symm hL) ho,r⟩
 ·refine (I.hok b u e).stay (λc v hc q=>k c v ?_ q) (λ_ q=>q) λ_ _ q=>q;rcases hc with z|z
  ·rw[z];exact nit b u e
  ·exact nit c _ z
theorem C0.tok (I:C0 X pins U H s) (t:Nat):C0 X pins U H { s with toks:=t }:=I.un (h':=s.heap) (t':=t) Un.refl I.hok
theorem C0.kept (I:C0 X pins U H s) (k:∀ b u,s.heap.get? b=some u->h'.get? b=some u):C0 X pins U H { s with heap:=h',toks:=t' }:=I.un (Un.kept k) (I.hok.kept k)
theorem C0.laid {o:HO} (I:C0 X pins U H s) (k:∀ b u,s.heap.get? b=some u->h'.get? b=some u) (hp:s.heap.objs.size<=a) (new:P7 X.prog X.w (E5 H a o) h' a o) :
  C0 X pins U (E5 H a o) { s with heap:=h',toks:=t' }:=I.un (Un.laid k hp (I.hok.fresh hp)) (I.hok.laid k hp new)
theorem C0.write {x e:Addr} {o:HO} (I:C0 X pins U H s) (mu:Mut (H x)) (he:e=x\/H e=some (.own x)) (k:∀ b u,b≠e->s.heap.get? b=some u->h'.get? b=some u) (heo:∃ u,h'.get? e=some u)
  (new:P7 X.prog X.w (E5 H x o) h' x o):C0 X pins U (E5 H x o) { s with heap:=h',toks:=t' }:=I.un (Un.write mu he k heo) (I.hok.write mu he k heo new)
theorem C0.pins_of {pins':List (Addr × Obj)} (I:C0 X pins U H s) (h:∀ p∈pins',s.heap.get? p.1=some p.2/\H p.1=none/\p.1≠X.env.locals/\p.1∉X.fs/\∀ v,p.2.data≠.cell v):C0 X pins' U H s :=
 ⟨I.ok,I.os,I.bare,I.base,I.loc,I.cell,I.free,I.freeC,λp hp=>(zm.mp hp).elim (λz=>I.pin p (za _ z)) (h p),I.hok,I.len⟩
theorem B3l {N:List Str} (hN:N.Nodup) {i j:Nat} {x:Str} (a:N[i]?=some x) (b:N[j]?=some x):i=j:=by
 obtain ⟨h1,e1⟩:=ql.mp a;obtain ⟨h2,e2⟩:=ql.mp b;exact (List.getElem_inj hN).mp (e1.trans e2.symm)
theorem A9z {M:Model} {i:Nat} {x:Str} {Q:Unit->Shared->Prop} (I:C0 X pins U H s) (hN:X.N.Nodup) (hi:X.N[i]?=some x) (hx:Loc X.env.scope x) (r:G1 v u)
  (h:∀ s',C0 X pins (U.set i (some v)) H s'->(∃ a,Heap.SameBut a s.heap s'.heap/\(a=X.env.locals\/X.env.cells.lookup x=some a))->Q () s') (hf:X.fn x=true\/X.env.scope.names.lookup x=some .local:=by first|exact .inl rfl|exact .inr rfl|assumption):wpAny M A (storeName X.env x u) Q E s:=by
 obtain ⟨m,hn,hl⟩:=id I.loc;have hcls:(X.env.scope.kind==.class||(X.env.scope.kind==.module&&X.env.locals != X.env.globals))=false:=by rw[I.ok.kind];rfl
 have hiσ:i < U.length:=by rw[I.len];exact (ql.mp hi).1
 have cne:=I.cne;have tracked:∀ {a:Addr} {h':Heap},(∃ o,s.heap.get? a=some o/\H a=none)->Heap.SameBut a s.heap h'->HOk X.prog X.w H h':=λ{a h'} ha hs b ob e=>by
  obtain ⟨_,_,hfree⟩:=ha;refine (I.hok b ob e).stay (λc w' hc q=>(hs.2 c ?_).trans q) (λ_ q=>q) λ_ _ q=>q;rintro rfl;rcases hc with rfl|hc
  ·rw[hfree] at e;cases e
  ·rw[hfree] at hc;cases hc
 rcases hx with hk|hk
 ·refine wpAny_storeName_local hk hn (λh' hn' hs=>?_) hcls;obtain ⟨oL,_,_,hoL,_⟩:=id hn;refine h _ ⟨I.ok,I.os,I.bare,⟨λb o e n hb hx=>?_,λb o e n hb hx=>?_,I.base.free,λb o e hx=>?_,I.base.tups,I.base.frzs,I.base.tbls⟩,⟨_,hn',λj y v' e1 e2 e3=>?_⟩,λy c e=>?_,I.free,I.freeC,λp hp=>?_,tracked ⟨oL,hoL,I.free⟩ hs,by simpa using I.len⟩ ⟨_,hs,.inl rfl⟩
  ·exact (hs.2 b (ze (qv (qm e) I.ok.above))).trans (I.base.keep b o e n hb hx)
  ·sleep 35;exact ⟨sl,(hs.2 b (ze (qv (qm e) I.ok.above))).trans e1⟩
  ·sleep 24;exact ⟨o',(hs.2 b (ze (qv (qm e) I.ok.above))).trans e1⟩
  ·by_cases hj:j=i
   ·subst hj;rw[hi] at e1;cases e1;rw[List.getElem?_set_self hiσ] at e2;cases e2;exact ⟨u,r,.inl ⟨hk,by simp⟩⟩
   ·rw[List.getElem?_set_ne (Ne.symm hj)] at e2;obtain ⟨u',r',q⟩:=hl j y v' e1 e2 e3;refine ⟨u',r',?_⟩;rcases q with ⟨k,e⟩|⟨k,c,e,z⟩
    ·refine .inl ⟨k,?_⟩;have:y≠x:=λe=>hj (B3l hN e1 (e ▸ hi));simp[this,e]
    ·exact .inr ⟨k,c,e,z.sameBut hs (cne y c e)⟩
  ·obtain ⟨w',z⟩:=I.cell y c e;exact ⟨w',z.sameBut hs (cne y c e)⟩
  ·sleep 32;exact ⟨(hs.2 p.1 ne).trans e,n,ne,nf,d⟩
 ·have hfn:X.fn x=true:=by
   rcases hf with z|z
   ·exact z
   ·rw[z] at hk;cases hk
  obtain ⟨c,hc⟩:=I.ok.has x (.inl hk);obtain ⟨w',z⟩:=I.cell x c hc;refine wpAny_storeName_cell I.ok.kind hk hc z (λh' hc' hs=>?_);obtain ⟨oc,hoc,hocd⟩:=id z;refine h { s with heap:=h' } ⟨I.ok,I.os,I.bare,⟨λb o e n hb hx=>?_,λb o e n hb hx=>?_,I.base.free,λb o e hx=>?_,I.base.tups,I.base.frzs,I.base.tbls⟩,⟨m,hn.sameBut hs (Ne.symm (cne x c hc)),λj y v' e1 e2 e3=>?_⟩,λy c' e=>?_,I.free,I.freeC,λp hp=>?_,tracked ⟨oc,hoc,I.freeC x c hc⟩ hs,by simpa using I.len⟩ ⟨c,hs,.inr hc⟩
  ·exact (hs.2 b (ze (qv (qm e) (I.ok.cab x c hfn hc)))).trans (I.base.keep b o e n hb hx)
  ·sleep 35;exact ⟨sl,(hs.2 b (ze (qv (qm e) (I.ok.cab x c hfn hc)))).trans e1⟩
  ·sleep 24;exact ⟨o',(hs.2 b (ze (qv (qm e) (I.ok.cab x c hfn hc)))).trans e1⟩
  ·by_cases hj:j=i
   ·subst hj;rw[hi] at e1;cases e1;rw[List.getElem?_set_self hiσ] at e2;cases e2;exact ⟨u,r,.inr ⟨.inl hk,c,hc,hc'⟩⟩
   ·rw[List.getElem?_set_ne (Ne.symm hj)] at e2;obtain ⟨u',r',q⟩:=hl j y v' e1 e2 e3;refine ⟨u',r',?_⟩;rcases q with q|⟨k,c',e,z'⟩
    ·exact .inl q
    ·refine .inr ⟨k,c',e,z'.sameBut hs ?_⟩;rintro rfl;exact hj (B3l hN e1 (I.ok.inj _ _ _ e hc ▸ hi))
  ·by_cases hcc:c'=c
   ·subst hcc;exact ⟨_,hc'⟩
   ·obtain ⟨w2,z2⟩:=I.cell y c' e;exact ⟨w2,z2.sameBut hs hcc⟩
  ·sleep 32;refine ⟨(hs.2 p.1 ?_).trans e,n,ne,nf,d⟩;intro q;rw[q,hoc] at e;have q':oc=p.2:=zu e;exact d w' (by rw[<-q'];exact hocd)
theorem X8 {M:Model} {i:Nat} {x:Str} {Q:Unit->Shared->Prop} (I:C0 X pins U H s) (hN:X.N.Nodup) (hi:X.N[i]?=some x) (hx:Loc X.env.scope x) (r:G1 v u)
  (h:∀ s',C0 X pins (U.set i (some v)) H s'->Q () s') (hf:X.fn x=true\/X.env.scope.names.lookup x=some .local:=by first|exact .inl rfl|exact .inr rfl|assumption):wpAny M A (storeName X.env x u) Q E s :=
 A9z I hN hi hx r (λs' I' _=>h s' I') hf
theorem C0.call' {ch:List Addr} (I:C0 X pins U H s) (ho:s'.os=s.os) (u:Un (frs X.stack) ch H H' s.heap s'.heap) (hok:HOk X.prog X.w H' s'.heap) (hg:AllBare s'.gens)
  (hch:∀ b∈ch,(b∈X.ex\/X.s₀.heap.objs.size<=b)/\b≠X.env.locals/\(∀ x c,X.env.cells.lookup x=some c->c≠b)/\∀ p∈X.pn++pins,p.1≠b):C0 X pins U H' s':=by
 obtain ⟨h',g',d',t',o'⟩:=s';have e:o'=s.os:=ho;subst e;exact I.call (g':=g') (t':=t') (d':=d') u hok hg hch
end
abbrev XK:=Value->Option Addr->Hp->Prop
abbrev St:=List (Option V)
abbrev VK:=V->Hp->Prop
abbrev TE:=St->Hp->VK->Prop
abbrev TT:=St->Hp->(Bool->Hp->Prop)->Prop
abbrev TA:=St->Hp->(List V->Hp->Prop)->Prop
structure V0 where
 nx:St->Hp->Prop
 rt:VK
 bk:St->Hp->Prop:=λ_ _=>False
 ct:St->Hp->Prop:=λ_ _=>False
abbrev TS:=V0->St->Hp->Prop
def EP (X:Cx) (pins:List (Addr × Obj)) (U:St) (Q:VK) (u:Value) (s':Shared):Prop:=∃ v H',C0 X pins U H' s'/\G1 v u/\Q v H'
def TP (X:Cx) (pins:List (Addr × Obj)) (U:St) (Q:Bool->Hp->Prop) (b:Bool) (s':Shared):Prop:=∃ H',C0 X pins U H' s'/\Q b H'
def AP (X:Cx) (pins:List (Addr × Obj)) (U:St) (Q:List V->Hp->Prop) (us:List Value) (s':Shared):Prop:=∃ vs H',C0 X pins U H' s'/\D7 vs us/\Q vs H'
def SP (X:Cx) (pins:List (Addr × Obj)) (D:V0) (f:Flow) (s':Shared):Prop :=
 match f with
 | .next=>∃ U' H',C0 X pins U' H' s'/\D.nx U' H'
 | .brk=>∃ U' H',C0 X pins U' H' s'/\D.bk U' H'
 | .cont=>∃ U' H',C0 X pins U' H' s'/\D.ct U' H'
 | .ret u=>∃ v U' H',C0 X pins U' H' s'/\G1 v u/\D.rt v H'
def PE (X:Cx) (e:Expr) (t:TE):Prop :=
 ∀ (pins:List (Addr × Obj)) (s:Shared) (U:St) (H:Hp) (Q:VK),C0 X pins U H s->t U H Q->wpAny (model X.prog X.w) X.A (eval e X.env) (EP X pins U Q) X.xe s
def PT (X:Cx) (e:Expr) (t:TT):Prop :=
 ∀ (pins:List (Addr × Obj)) (s:Shared) (U:St) (H:Hp) (Q:Bool->Hp->Prop),C0 X pins U H s->t U H Q->wpAny (model X.prog X.w) X.A (isTrue e X.env (eval e X.env)) (TP X pins U Q) X.xe s
def PW (X:Cx) (e:Expr) (t:TT):Prop :=
 ∀ (whole:Sem Value) (pins:List (Addr × Obj)) (s:Shared) (U:St) (H:Hp) (Q:Bool->Hp->Prop),C0 X pins U H s->t U H Q->wpAny (model X.prog X.w) X.A (isTrue e X.env whole) (TP X pins U Q) X.xe s
variable {X:Cx} {t:TT} {U:St} {te:TE} {tb:TS} {ta:TA}
theorem PW.pt {e:Expr} (h:PW X e t):PT X e t:=h _
def PA (X:Cx) (es:List Expr) (t:TA):Prop :=
 ∀ (pos:Pos) (pins:List (Addr × Obj)) (s:Shared) (U:St) (H:Hp) (Q:List V->Hp->Prop),C0 X pins U H s->t U H Q->wpAny (model X.prog X.w) X.A (spliced (backTo pos (starEach es X.env))) (AP X pins U Q) X.xe s
def PS (X:Cx) (st:Stmt) (t:TS):Prop :=
 ∀ (pins:List (Addr × Obj)) (s:Shared) (U:St) (H:Hp) (D:V0),C0 X pins U H s->t D U H->wpAny (model X.prog X.w) X.A (exec st X.env) (SP X pins D) X.xe s
def PSs (X:Cx) (st:List Stmt) (t:TS):Prop :=
 ∀ (pins:List (Addr × Obj)) (s:Shared) (U:St) (H:Hp) (D:V0),C0 X pins U H s->t D U H->wpAny (model X.prog X.w) X.A (execs st X.env) (SP X pins D) X.xe s
theorem J9 {α:Type} {t:Sem α} {Q Q':α->Shared->Prop} {M:Model} {A:Around} (h:wpAny M A t Q E s) (hQ:∀ a s,Q a s->Q' a s):wpAny M A t Q' E s:=jd h hQ λ_ _ x=>x
section
variable {X:Cx}
def B0v (i:Nat):TE:=λU H Q=>∃ v,U[i]?=some (some v)/\Q v H
def tC (v:V):TE:=λ_ H Q=>Q v H
theorem D24 {i:Nat} {x:Str} {pos:Pos} (hN:X.N[i]?=some x) (hv:Vis X.env.scope x) (hd:noD x:=by decide) (hcd:(x==("__classdict__":Str))=false:=by decide):PE X (.Name x pos) (B0v i):=by
 sleep 3;obtain ⟨v,e,h⟩:=h;obtain ⟨m,hn,hl⟩:=I.loc;obtain ⟨u,r,l⟩:=hl i x v hN e hv;have fin:EP X pins U Q u s:=⟨v,H,I,r,h⟩;rcases l with ⟨hk,hm⟩|⟨hk,c,hc,hcell⟩
 ·exact wpAny_Name (wpAny_loadName_local I.ok.kind hk hn hm fin) hd
 ·rcases hk with hk|hk
  ·exact wpAny_Name (wpAny_loadName_cell I.ok.kind hk hc hcell fin) hd
  ·exact wpAny_Name (wpAny_loadName_free I.ok.kind hk hc hcell fin hcd) hd
theorem C2s {i j pos}:PE X (.Constant (.int i) j pos) (tC (.int i)):=λ_ _ _ H _ I h=>wpAny_Constant_int ⟨.int i,H,I.tok _,⟨_,rfl⟩,h⟩
theorem D7a {b j pos}:PE X (.Constant (.bool b) j pos) (tC (.bl b)):=λ_ _ _ H _ I h=>Constant_bool ⟨.bl b,H,I,rfl,h⟩
theorem D4u {j pos}:PE X (.Constant .none j pos) (tC .non):=λ_ _ _ H _ I h=>Constant_none ⟨.non,H,I,rfl,h⟩
theorem D44 {x j pos}:PE X (.Constant (.str x) j pos) (tC (.str x)):=λ_ _ _ H _ I h=>Calls.Constant_str ⟨.str x,H,I.tok _,⟨_,rfl⟩,h⟩
def Gl (X:Cx) (x:Str):Prop:=X.env.kindOf x=some .globalImplicit
variable {u:Value}
theorem A2l {x:Str} {pos:Pos} (I:C0 X pins U H s) (hg:Gl X x) (hm:X.mg x=some u) (h:Q u s)
  (hd:noD x:=by decide):wpAny (model X.prog X.w) X.A (eval (.Name x pos) X.env) Q E s :=
 Calls.Name_function_global I.ok.kind hg (Calls.loadGlobal_global (by rw[I.ok.glob];exact I.mod.glob.keeps I.bk) hm h) hd
theorem A04 {x:Str} {pos:Pos} (I:C0 X pins U H s) (hg:Gl X x) (hm:X.mg x=none) (hv:bootBuiltins x=some u) (h:Q u s)
  (hn:x≠"__name__":=by decide) (hd:noD x:=by decide):wpAny (model X.prog X.w) X.A (eval (.Name x pos) X.env) Q E s:=by
 obtain ⟨mb,h1,h2⟩:=I.mod.blt;exact Calls.Name_function_global I.ok.kind hg (Calls.loadGlobal_builtin (by rw[I.ok.glob];exact I.mod.glob.keeps I.bk) hm (by rw[I.ok.blt];exact h1.keeps I.bk) ((h2 x hn).trans hv) h) hd
theorem C5s {x:Str} {v:V} {pos:Pos} (hg:Gl X x) (hm:X.mg x=some u) (r:G1 v u) (hd:noD x:=by decide):PE X (.Name x pos) (tC v) :=
 λ_ _ _ H _ I h=>A2l I hg hm ⟨v,H,I,r,h⟩ hd
theorem C6h {x:Str} {v:V} {pos:Pos} (hg:Gl X x) (hm:X.mg x=none) (hv:bootBuiltins x=some u) (r:G1 v u) (hn:x≠"__name__":=by decide) (hd:noD x:=by decide):PE X (.Name x pos) (tC v) :=
 λ_ _ _ H _ I h=>A04 I hg hm hv ⟨v,H,I,r,h⟩ hn hd
variable {a b:Expr} {ta tb:TE} {pos:Pos}
def PC (X:Cx) (op:CmpOp) (a b:Expr) (t:TE):Prop :=
 ∀ (pins:List (Addr × Obj)) (s:Shared) (U:St) (H:Hp) (Q:VK),C0 X pins U H s->t U H Q ->
  wpAny (model X.prog X.w) X.A (eval a X.env) (λv s₁=>wpAny (model X.prog X.w) X.A (eval b X.env) (λu s₂=>wpAny (model X.prog X.w) X.A (compareOp op v u) (EP X pins U Q) X.xe s₂) X.xe s₁) X.xe s
def tB (t:TE):TT:=λU H Q=>t U H λx H1=>∃ c,x=.bl c/\Q c H1
theorem D1t {e:Expr} {t:TE} (h:PE X e t) (he:∀ whole,isTrue e X.env whole=(do let v <- whole;standAt e.pos;holding [v] (truthy v)):=by intro _;rfl):PT X e (tB t):=by
 intro pins s U H Q I hw;refine isTrue_plain (J9 (h pins s U H _ I hw) λv s1 ⟨x,H1,I1,r1,q1⟩=>?_) (he _);obtain ⟨d,rfl,q⟩:=q1;cases r1;exact wpAny_truthy_bool ⟨H1,I1,q⟩
variable {tA tB':TT} {G4:List Expr}
def C58 (t u:TT):TT:=λU H Q=>t U H λc H1=>if c=true then u U H1 Q else Q false H1
def tOr (t u:TT):TT:=λU H Q=>t U H λc H1=>if c=true then Q true H1 else u U H1 Q
def D1q (t:TT):TT:=λU H Q=>t U H λc H1=>Q (!c) H1
theorem C7a (ha:PT X a tA):PW X (.BoolOp .And [a] pos) tA:=by
 intro wh pins s U H Q I h;refine isTrue_and (J9 (ha pins s U H Q I h) λc s1 e=>?_);cases c with
 | true=>exact isTrue_and_nil e
 | false=>exact e
theorem D2u (ha:PT X a tA):PW X (.BoolOp .Or [a] pos) tA:=by
 intro wh pins s U H Q I h;refine isTrue_or (J9 (ha pins s U H Q I h) λc s1 e=>?_);cases c with
 | false=>exact isTrue_or_nil e
 | true=>exact e
theorem D41 (ha:PT X a tA) (hb:PW X (.BoolOp .And (b::G4) pos) tB'):PW X (.BoolOp .And (a::b::G4) pos) (C58 tA tB'):=by
 intro wh pins s U H Q I h;refine isTrue_and (J9 (ha pins s U H _ I h) λc s1 ⟨H1,I1,q1⟩=>?_);cases c with
 | true=>exact hb wh pins s1 U H1 Q I1 q1
 | false=>exact ⟨H1,I1,q1⟩
theorem D5s (ha:PT X a tA) (hb:PW X (.BoolOp .Or (b::G4) pos) tB'):PW X (.BoolOp .Or (a::b::G4) pos) (tOr tA tB'):=by
 intro wh pins s U H Q I h;refine isTrue_or (J9 (ha pins s U H _ I h) λc s1 ⟨H1,I1,q1⟩=>?_);cases c with
 | true=>exact ⟨H1,I1,q1⟩
 | false=>exact hb wh pins s1 U H1 Q I1 q1
theorem D23 (ha:PT X a tA):PT X (.UnaryOp .Not a pos) (D1q tA):=by
 sleep 3;exact isTrue_not (ha pins s U H (λc H1=>Q (!c) H1) I h)
def C4h (ta tb:TE):TE:=λU H Q=>ta U H λx H1=>∃ c,x=.bl c/\if c=true then tb U H1 Q else Q (.bl false) H1
def D15 (ta tb:TE):TE:=λU H Q=>ta U H λx H1=>∃ c,x=.bl c/\if c=true then Q (.bl true) H1 else tb U H1 Q
def C0c (ta:TE):TE:=λU H Q=>ta U H λx H1=>∃ c,x=.bl c/\Q (.bl (!c)) H1
theorem D3p {op} {t:TE} (h:PE X a t):PE X (.BoolOp op [a] pos) t:=λpins s U H Q I hw=>BoolOp_one (h pins s U H Q I hw)
theorem D4y (ha:PE X a ta) (hb:PE X (.BoolOp .And (b::G4) pos) tb):PE X (.BoolOp .And (a::b::G4) pos) (C4h ta tb):=by
 sleep 3;refine BoolOp_and (J9 (ha pins s U H _ I h) λv s1 ⟨x,H1,I1,r1,q1⟩=>?_);obtain ⟨c,rfl,q1⟩:=q1;cases r1;refine wpAny_truthy_bool ?_;cases c with
 | true=>exact hb pins s1 U H1 Q I1 q1
 | false=>exact ⟨.bl false,H1,I1,rfl,q1⟩
theorem D8p (ha:PE X a ta) (hb:PE X (.BoolOp .Or (b::G4) pos) tb):PE X (.BoolOp .Or (a::b::G4) pos) (D15 ta tb):=by
 sleep 3;refine BoolOp_or (J9 (ha pins s U H _ I h) λv s1 ⟨x,H1,I1,r1,q1⟩=>?_);obtain ⟨c,rfl,q1⟩:=q1;cases r1;refine wpAny_truthy_bool ?_;cases c with
 | false=>exact hb pins s1 U H1 Q I1 q1
 | true=>exact ⟨.bl true,H1,I1,rfl,q1⟩
theorem D3i (ha:PE X a ta):PE X (.UnaryOp .Not a pos) (C0c ta):=by
 sleep 3;refine UnaryOp_ (J9 (ha pins s U H _ I h) λv s1 ⟨x,H1,I1,r1,q1⟩=>?_);obtain ⟨c,rfl,q1⟩:=q1;cases r1;exact not_of (wpAny_truthy_bool ⟨.bl (!c),H1,I1,rfl,q1⟩)
def tIf (t:TT) (ta tb:TE):TE:=λU H Q=>t U H λc H1=>if c=true then ta U H1 Q else tb U H1 Q
theorem C2w {c:Expr} (hc:PT X c tA) (ha:PE X a ta) (hb:PE X b tb):PE X (.IfExp c a b pos) (tIf tA ta tb):=by
 sleep 3;refine wpAny_IfExp (J9 (hc pins s U H _ I h) λd s1 ⟨H1,I1,q1⟩=>?_);cases d with
 | true=>exact ha pins s1 U H1 Q I1 q1
 | false=>exact hb pins s1 U H1 Q I1 q1
end
def E6 (K:W.Frag) (H:Hp) (a:Addr) (xs:List V):Prop :=
 Rd H a (.lst xs) \/
  ∃ (o:Obj) (its:Array Value) (n:Nat),K.lookup a=some o/\o.cls=.type "list"/\o.dict=none/\o.data=.seq its n/\its.size<=sizeLine/\D7 xs its.toList
def SqT (K:W.Frag) (H:Hp) (a:Addr) (xs:List V):Prop :=
 Rd H a (.tup xs) \/
  ∃ (o:Obj) (its:Array Value) (n:Nat),K.lookup a=some o/\o.cls=.type "tuple"/\o.data=.seq its n/\its.size<=sizeLine/\D7 xs its.toList
def E1f:Value->Option V
 | .none=>some .non
 | .bool b=>some (.bl b)
 | .int i _=>some (.int i)
 | .str x _=>some (.str x)
 | .bytes b _=>some (.byt b)
 | .float b _=>some (.flt b)
 | .ref a=>some (.ref a)
 | .type n=>some (.ty n)
 | _=>none
theorem G1.abs {x:V} {u:Value} (r:G1 x u):E1f u=some x:=by
 cases x with
 | non=>cases r;rfl
 | bl _=>cases r;rfl
 | int _=>obtain ⟨t,rfl⟩:=r;rfl
 | str _=>obtain ⟨t,rfl⟩:=r;rfl
 | byt _=>obtain ⟨t,rfl⟩:=r;rfl
 | flt _=>obtain ⟨t,rfl⟩:=r;rfl
 | ref _=>cases r;rfl
 | ty _=>cases r;rfl
theorem G1.inj {x y:V} {u:Value} (r:G1 x u) (q:G1 y u):x=y:=zu (r.abs.symm.trans q.abs)
theorem D7.inj:∀ {xs ys:List V} {us:List Value},D7 xs us->D7 ys us->xs=ys
 | _,_,_,.nil,.nil=>rfl
 | _,_,_,.cons r t,.cons r' t'=>by rw[r.inj r',D7.inj t t']
section
variable {X:Cx} {pins:List (Addr × Obj)} {U:St} {H:Hp} {s:Shared} {a:Addr} {xs ys:List V}
variable {K:W.Frag}
theorem E6.of (h:H a=some (.lst xs)):E6 K H a xs:=.inl (.inl h)
theorem SqT.of (h:H a=some (.tup xs)):SqT K H a xs:=.inl (.inl h)
theorem C0.list (I:C0 X pins U H s) (h:E6 X.K H a xs):∃ its:List Value,D7 xs its/\PlainL s.heap a its.toArray/\xs.length<=sizeLine:=by
 rcases h with h|⟨o,its,n,hk,hc,hd,hs,hz,r⟩
 ·obtain ⟨z,its,n,r,e⟩:=h.ok I.hok;exact ⟨its,r,⟨_,n,e,rfl,rfl,rfl⟩,z⟩
 ·refine ⟨its.toList,r,⟨o,n,I.kIn a o hk,hc,hd,by simpa using hs⟩,?_⟩;have e:=r.length;simp only[qo] at e;lia
theorem C0.tuple (I:C0 X pins U H s) (h:SqT X.K H a xs):∃ its:List Value,D7 xs its/\IsTup s.heap a its.toArray/\xs.length<=sizeLine:=by
 rcases h with h|⟨o,its,n,hk,hc,hs,hz,r⟩
 ·obtain ⟨z,its,r,p⟩:=h.ok I.hok;exact ⟨its,r,p,z⟩
 ·refine ⟨its.toList,r,⟨o,I.kIn a o hk,hc,n,by simpa using hs⟩,?_⟩;have e:=r.length;simp only[qo] at e;lia
theorem C0.list_inj (I:C0 X pins U H s) (h:E6 X.K H a xs) (h':E6 X.K H a ys):xs=ys:=by
 obtain ⟨its,r,⟨o,n,e,_,_,d⟩,_⟩:=I.list h;obtain ⟨its',r',⟨o',n',e',_,_,d'⟩,_⟩:=I.list h';rw[e] at e';cases e';rw[d] at d';injection d' with d1 _
 have:its=its':=by simpa using congrArg Array.toList d1
 subst this;exact r.inj r'
theorem C0.tuple_inj (I:C0 X pins U H s) (h:SqT X.K H a xs) (h':SqT X.K H a ys):xs=ys:=by
 obtain ⟨its,r,⟨o,e,_,n,d⟩,_⟩:=I.tuple h;obtain ⟨its',r',⟨o',e',_,n',d'⟩,_⟩:=I.tuple h';rw[e] at e';cases e';rw[d] at d';injection d' with d1 _
 have:its=its':=by simpa using congrArg Array.toList d1
 subst this;exact r.inj r'
end
abbrev Cx.wish (X:Cx) (E:Value->Shared->Prop):Cx:={ X with xe:=E }
abbrev Cx.nox (X:Cx):Cx:=X.wish λ_ _=>False
theorem Cx.Ok.wish (ok:X.Ok) (E:Value->Shared->Prop):(X.wish E).Ok :=
 ⟨ok.mod,ok.kind,ok.glob,ok.blt,ok.above,ok.inj,ok.has,ok.cab,ok.hd,ok.frames,ok.stk,ok.exf,ok.bs,ok.bsz,ok.noex,ok.exfs,ok.funs,ok.frf⟩
theorem Cx.Ok.unwish (ok:(X.wish E).Ok):X.Ok :=
 ⟨ok.mod,ok.kind,ok.glob,ok.blt,ok.above,ok.inj,ok.has,ok.cab,ok.hd,ok.frames,ok.stk,ok.exf,ok.bs,ok.bsz,ok.noex,ok.exfs,ok.funs,ok.frf⟩
section
variable {X:Cx} {pins:List (Addr × Obj)} {U:St} {H:Hp} {s:Shared} {E:Value->Shared->Prop}
theorem C0.wish (I:C0 X pins U H s) (E:Value->Shared->Prop):C0 (X.wish E) pins U H s:=⟨I.ok.wish E,I.os,I.bare,I.base,I.loc,I.cell,I.free,I.freeC,I.pin,I.hok,I.len⟩
theorem C0.unwish (I:C0 (X.wish E) pins U H s):C0 X pins U H s:=⟨I.ok.unwish,I.os,I.bare,I.base,I.loc,I.cell,I.free,I.freeC,I.pin,I.hok,I.len⟩
theorem SP.unwish {D:V0} {f:Flow} (h:SP (X.wish E) pins D f s'):SP X pins D f s':=by
 cases f with
 | next=>obtain ⟨U',H',I,q⟩:=h;exact ⟨U',H',I.unwish,q⟩
 | brk=>obtain ⟨U',H',I,q⟩:=h;exact ⟨U',H',I.unwish,q⟩
 | cont=>obtain ⟨U',H',I,q⟩:=h;exact ⟨U',H',I.unwish,q⟩
 | ret u=>obtain ⟨v,U',H',I,r,q⟩:=h;exact ⟨v,U',H',I.unwish,r,q⟩
theorem PT.nox {e:Expr} (h:PT X.nox e t):PT X e t:=λpins s U H Q I hw =>
 jd (h pins s U H Q (I.wish _) hw) (λ_ _ ⟨H',I',q⟩=>⟨H',I'.unwish,q⟩) λ_ _ z=>False.elim z
theorem PSs.nox {st:List Stmt} {t:TS} (h:PSs X.nox st t):PSs X st t:=λpins s U H D I hw =>
 jd (h pins s U H D (I.wish _) hw) (λ_ _ q=>q.unwish) λ_ _ z=>False.elim z
end
section
variable {X:Cx} {st:Stmt} {G4:List Stmt} {t u:TS} {e:Expr} {te:TE} {pos:Pos}
def C48:TS:=λD U H=>D.nx U H
def C59 (t u:TS):TS:=λD U H=>t { D with nx:=u D } U H
theorem C7r:PSs X [] C48:=λ_ _ U H _ I h=>wpAny_execs_nil ⟨U,H,I,h⟩
theorem C2d (h1:PS X st t) (h2:PSs X G4 u):PSs X (st::G4) (C59 t u):=by
 sleep 5;refine wpAny_execs_cons (J9 (h1 pins s U H { D with nx:=u D } I h) λf s1 q=>?_);cases f with
 | next =>
  obtain ⟨U',H',I',q⟩:=q;exact h2 pins s1 U' H' D I' q
 | ret v=>exact q
 | brk=>exact q
 | cont=>exact q
theorem C8n (h1:PS X st t):PSs X [st] t:=by
 sleep 5;refine wpAny_execs_cons (J9 (h1 pins s U H D I h) λf s1 q=>?_);cases f with
 | next=>exact wpAny_execs_nil q
 | ret v=>exact q
 | brk=>exact q
 | cont=>exact q
theorem C0.quiet (I:C0 X pins U H s):interactive X.env=false:=by simp[interactive,I.ok.kind]
def C15 (te:TE):TS:=λD U H=>te U H λ_ H1=>D.nx U H1
theorem C81 (he:PE X e te) (hs:swapsWith e none pos.line X.env=pure false:=by rfl):PS X (.Expr e pos) (C15 te):=by
 sleep 5;exact wpAny_Expr_any (J9 (he pins s U H _ I h) λv s1 ⟨x,H1,I1,r1,q1⟩=>⟨U,H1,I1,q1⟩) I.quiet hs
def D0e (te:TE):TS:=λD U H=>te U H D.rt
theorem D3r (he:PE X e te):PS X (.Return (some e) pos) (D0e te):=by
 sleep 5;exact wpAny_Return_some (J9 (he pins s U H _ I h) λv s1 ⟨x,H1,I1,r1,q1⟩=>⟨x,U,H1,I1,r1,q1⟩)
def D7j:TS:=λD _ H=>D.rt .non H
def D28 (c:TT) (t u:TS):TS:=λD U H=>c U H λb H1=>if b=true then t D U H1 else u D U H1
theorem D63 {c:Expr} {a b:List Stmt} {tc:TT} (hc:PT X c tc) (ha:PSs X a t) (hb:PSs X b u):PS X (.If c a b pos) (D28 tc t u):=by
 sleep 5;refine wpAny_If (J9 (hc pins s U H _ I h) λd s1 ⟨H1,I1,q1⟩=>?_);cases d with
 | true=>exact ha pins s1 U H1 D I1 q1
 | false=>exact hb pins s1 U H1 D I1 q1
end
abbrev TG:=V->St->Hp->(St->Hp->Prop)->Prop
abbrev TGs:=List V->St->Hp->(St->Hp->Prop)->Prop
def PG (X:Cx) (target:Expr) (t:TG):Prop :=
 ∀ (pins:List (Addr × Obj)) (s:Shared) (U:St) (H:Hp) (v:V) (u:Value) (Q:St->Hp->Prop),C0 X pins U H s->G1 v u->t v U H Q ->
  wpAny (model X.prog X.w) X.A (assign target X.env u) (λ_ s'=>∃ U' H',C0 X pins U' H' s'/\Q U' H') X.xe s
def PGs (X:Cx) (ts:List Expr) (t:TGs):Prop :=
 ∀ (pins:List (Addr × Obj)) (s:Shared) (U:St) (H:Hp) (vs:List V) (us:List Value) (Q:St->Hp->Prop),C0 X pins U H s->D7 vs us->t vs U H Q ->
  wpAny (model X.prog X.w) X.A (assignInOrder ((assignEach ts X.env).map (·.2)) us) (λ_ s'=>∃ U' H',C0 X pins U' H' s'/\Q U' H') X.xe s
abbrev B5p:=V->V->V->Hp->(Hp->Prop)->Prop
def C1j (X:Cx) (t:B5p):Prop :=
 ∀ (pins:List (Addr × Obj)) (s:Shared) (U:St) (H:Hp) (o i v:V) (ov iv u:Value) (Q:Hp->Prop),C0 X pins U H s->G1 o ov->G1 i iv->G1 v u->t o i v H Q ->
  wpAny (model X.prog X.w) X.A (setItem ov iv u) (λ_ s'=>∃ H',C0 X pins U H' s'/\Q H') X.xe s
abbrev TIp:=V->V->Hp->VK->Prop
def PIp (X:Cx) (op:Operator) (t:TIp):Prop :=
 ∀ (pins:List (Addr × Obj)) (s:Shared) (U:St) (H:Hp) (x y:V) (v u:Value) (Q:VK),C0 X pins U H s->G1 x v->G1 y u->t x y H Q ->
  wpAny (model X.prog X.w) X.A (inplaceOp op v u) (EP X pins U Q) X.xe s
section
variable {X:Cx} {pos:Pos}
def A19 (i:Nat):TG:=λv U H Q=>Q (U.set i (some v)) H
theorem C6n {i:Nat} {x:Str} (hN:X.N.Nodup) (hi:X.N[i]?=some x) (hx:Loc X.env.scope x) (hf:X.fn x=true\/X.env.scope.names.lookup x=some .local:=by first|exact .inl rfl|exact .inr rfl|assumption):PG X (.Name x pos) (A19 i):=by
 intro pins s U H v u Q I r h;exact wpAny_assign_Name (X8 I hN hi hx r (λs' I'=>⟨_,H,I',h⟩) hf)
def C7i:TGs:=λvs U H Q=>vs=[]/\Q U H
def B6h (t:TG) (u:TGs):TGs:=λvs U H Q=>∃ v r,vs=v::r/\t v U H λU' H'=>u r U' H' Q
theorem C87:PGs X [] C7i:=by
 intro pins s U H vs us Q I r h;obtain ⟨e,h⟩:=h;subst e;cases r;exact assignInOrder_nil ⟨U,H,I,h⟩
variable {e:Expr} {to:TE} {op:Operator}
theorem C3z {t:TG} {u:TGs} (h1:PG X e t) (h2:PGs X es u)
  (hs:(assignEach (e::es) X.env).map (·.2)=assign e X.env::(assignEach es X.env).map (·.2):=by rfl):PGs X (e::es) (B6h t u):=by
 intro pins s U H vs us Q I r h;obtain ⟨v,vr,e1,h⟩:=h;subst e1;cases r with
 | cons r rr =>
  rw[hs];refine assignInOrder_cons (J9 (h1 pins s U H _ _ _ I r h) λ_ s1 ⟨σ1,H1,I1,q1⟩=>?_);exact h2 pins s1 σ1 H1 _ _ Q I1 rr q1
def C51 (K:W.Frag) (n:Nat) (t:TGs):TG:=λv U H Q=>∃ a xs,v=.ref a/\SqT K H a xs/\xs.length=n/\t xs U H Q
theorem D1i {k:Nat} {t:TGs} {n:Nat} (hc:X.calm=true) (h:PGs X es t)
  (hn:(assignEach es X.env).length=n:=by rfl) (hst:(assignEach es X.env).findIdx? (·.1)=none:=by rfl):PG X (.Tuple es k pos) (C51 X.K n t):=by
 intro pins s U H v u Q I r hw;obtain ⟨a,xs,e1,hq,hl,hw⟩:=hw;subst e1;cases r;obtain ⟨its,rv,ht,hz⟩:=I.tuple hq;refine assign_Tuple_tuple (I.ok.hd hc) ht (by simp[hn,<-hl,rv.length]) hst λh' hx=>?_;have I1:C0 X pins U H { s with heap:=h' }:=I.kept (t':=s.toks) λb o e=>hx b o (ze (qm e)) e;exact h pins _ U H xs _ Q I1 (by simpa using rv) hw
def D21 (to ti:TE) (t:B5p):TG:=λv U H Q=>to U H λo H1=>ti U H1 λi H2=>t o i v H2 λH3=>Q U H3
theorem D2j {o i:Expr} {ti:TE} {t:B5p} (ho:PE X o to) (hi:PE X i ti) (hs:C1j X t)
  (ha:∀ v,assign (.Subscript o i pos) X.env v=(do
   let ov <- holding [v] (eval o X.env)
   let iv <- holding [v,ov] (eval i X.env)
   standAt pos
   holding [v,ov,iv] (setItem ov iv v)
   release [v,ov,iv] []):=by intro _;rfl):PG X (.Subscript o i pos) (D21 to ti t):=by
 intro pins s U H v u Q I r h;rw[ha];refine qd (wpAny_holding (J9 (ho pins s U H _ I h) λov s1 ⟨x,H1,I1,r1,q1⟩=>?_));refine qd (wpAny_holding (J9 (hi pins s1 U H1 _ I1 q1) λiv s2 ⟨y,H2,I2,r2,q2⟩=>?_));refine qd (wpAny_standAt (qd (wpAny_holding (J9 (hs pins s2 U H2 x y v ov iv u _ I2 r1 r2 r q2) λ_ s3 ⟨H3,I3,q3⟩=>?_))));exact wpAny_release ⟨U,H3,I3,q3⟩
def B2i (te:TE) (g:TG):TS:=λD U H=>te U H λx H1=>g x U H1 D.nx
theorem D45 {g:TG} (he:PE X e te) (hg:PG X tg g) (hs:swapsWithSole [tg] e pos.line X.env=pure false:=by rfl) (hw:swappedStores [tg] e X.env=pure none:=by rfl)
  (h1:(assignEach [tg] X.env).map (·.2)=[assign tg X.env]:=by rfl):PS X (.Assign [tg] e pos) (B2i te g):=by
 sleep 5;refine wpAny_Assign_stores (J9 (he pins s U H _ I h) λv s1 ⟨x,H1,I1,r1,q1⟩=>?_) hs hw;rw[h1];exact J9 (hg pins s1 U H1 x v _ I1 r1 q1) λ_ s2 q=>q
theorem D3o {i:Nat} {x:Str} (hN:X.N.Nodup) (hi:X.N[i]?=some x) (hx:Loc X.env.scope x) (he:PE X e te) (hs:swapsWith e (some (.Name x pos')) pos.line X.env=pure false:=by rfl) (hf:X.fn x=true\/X.env.scope.names.lookup x=some .local:=by first|exact .inl rfl|exact .inr rfl|assumption) :
  PS X (.Assign [.Name x pos'] e pos) (B2i te (A19 i)):=by
 sleep 5;refine wpAny_Assign_Name (J9 (he pins s U H _ I h) λv s1 ⟨y,H1,I1,r1,q1⟩=>?_) hs;exact X8 I1 hN hi hx r1 (λs2 I2=>⟨_,H1,I2,q1⟩) hf
def C18 (i j:Nat) (ta:TA):TS:=λD U H=>ta U H λvs H1=>∃ v w,vs=[v,w]/\D.nx ((U.set i (some v)).set j (some w)) H1
theorem D14 {i j:Nat} {x y:Str} {a b:Expr} {pt:Pos} {kt k2 pt2} (hc:X.calm=true) (hN:X.N.Nodup) (hi:X.N[i]?=some x) (hj:X.N[j]?=some y) (hij:i≠j)
  (hx:X.env.scope.names.lookup x=some .local) (hy:X.env.scope.names.lookup y=some .local) (ha:PA X [a,b] ta)
  (hw:swappedStores [.Tuple [.Name x px,.Name y py] kt pt] (.Tuple [a,b] k2 pt2) X.env=pure (some [x,y]))
  (hs:swapsWithSole [.Tuple [.Name x px,.Name y py] kt pt] (.Tuple [a,b] k2 pt2) pos.line X.env=pure false:=by rfl) :
  PS X (.Assign [.Tuple [.Name x px,.Name y py] kt pt] (.Tuple [a,b] k2 pt2) pos) (C18 i j ta):=by
 sleep 5;rw[exec_Assign_arm];refine qd (wpAny_standAt ?_);rw[hs];refine qd (qe ?_);rw[qs (by decide)];refine qd (Tuple_ (J9 (ha _ pins s U H _ I h) λus s1 ⟨vs,H1,I1,r1,q1⟩=>?_));obtain ⟨v,w,e1,q1⟩:=q1;subst e1;obtain ⟨u1,u2,rfl,rv,rw'⟩:∃ u1 u2,us=[u1,u2]/\G1 v u1/\G1 w u2:=by
  cases r1 with
  | cons p q =>
   cases q with
   | cons p' q' =>
    cases q';exact ⟨_,_,rfl,p,p'⟩
 refine wpAny_newObj_type ?_ (by show 2<=sizeLine;decide);have I2:C0 X pins U H1 { s1 with heap:=s1.heap.push { cls:=.type "tuple",data:=.seq [u1,u2].toArray } }:=I1.kept (t':=s1.toks) λb o e=>qc _ e;rw[hw];refine qd (qe ?_);show wpAny (model X.prog X.w) X.A (do rule "assign.swapped-stores";let items <- unpackItems (.ref s1.heap.objs.size) 2 none;assignInOrder [λv=>bindName X.env y v,λv=>bindName X.env x v] items.reverse;pure Flow.next) _ _ _;refine qd (wpAny_rule (qd (unpackItems_tuple (items:=#[u1,u2]) (I.ok.hd hc) (IsTup.new s1.heap _) λh' hx'=>?_)));have I3:=I2.kept (h':=h') (t':=s1.toks) λb o e=>hx' b o (ze (qm e)) e;show wpAny _ _ (assignInOrder [λv=>bindName X.env y v,λv=>bindName X.env x v] [u2,u1] >>= λ_=>pure Flow.next) _ _ _;refine qd (assignInOrder_cons (wpAny_bindName (X8 I3 hN hj (.inl hy) rw' (λs2 I4=>?_) (.inr hy))));refine assignInOrder_cons (wpAny_bindName (X8 I4 hN hi (.inl hx) rv (λs3 I5=>assignInOrder_nil (qe ?_)) (.inr hx)));rw[List.set_comm _ _ (Ne.symm hij)] at I5;exact ⟨_,H1,I5,q1⟩
def D3g (i:Nat) (te:TE) (ti:TIp):TS:=λD U H=>∃ x,U[i]?=some (some x)/\te U H λy H1=>ti x y H1 λz H2=>D.nx (U.set i (some z)) H2
theorem D1e {i:Nat} {x:Str} {ti:TIp} (hN:X.N.Nodup) (hi:X.N[i]?=some x) (hx:Loc X.env.scope x) (he:PE X e te) (ho:PIp X op ti) (hf:X.fn x=true\/X.env.scope.names.lookup x=some .local:=by first|exact .inl rfl|exact .inr rfl|assumption) :
  PS X (.AugAssign (.Name x pos') op e pos) (D3g i te ti):=by
 sleep 5;obtain ⟨v,e1,h⟩:=h;obtain ⟨m,hn,hl⟩:=I.loc;have vis:Vis X.env.scope x:=by rcases hx with k|k;exact .inl k;exact .inr (.inl k)
 obtain ⟨u,r,l⟩:=hl i x v hi e1 vis;refine wpAny_AugAssign_Name ?_;have go:wpAny (model X.prog X.w) X.A (eval e X.env) (λw s₂=>wpAny (model X.prog X.w) X.A (inplaceOp op u w) (λr s₃=>wpAny (model X.prog X.w) X.A (storeName X.env x r) (λ_=>SP X pins D .next) X.xe s₃) X.xe s₂) X.xe s:=by
  refine J9 (he pins s U H _ I h) λw s1 ⟨y,H1,I1,r1,q1⟩=>?_;refine J9 (ho pins s1 U H1 v y u w _ I1 r r1 q1) λz s2 ⟨zv,H2,I2,r2,q2⟩=>?_;exact X8 I2 hN hi hx r2 (λs3 I3=>⟨_,H2,I3,q2⟩) hf
 rcases l with ⟨hk,hm⟩|⟨hk,c,hc,hcell⟩
 ·exact wpAny_loadName_local I.ok.kind hk hn hm go
 ·rcases hk with hk|hk
  ·exact wpAny_loadName_cell I.ok.kind hk hc hcell go
  ·rcases hx with k|k
   ·have:X.env.scope.names.lookup x=some .free:=hk;rw[k] at this;cases this
   ·have:X.env.scope.names.lookup x=some .free:=hk;rw[k] at this;cases this
def C4s (to ti te:TE) (tget:V->V->Hp->VK->Prop) (tip:TIp) (tset:B5p):TS:=λD U H=>to U H λo H1=>ti U H1 λi H2=>tget o i H2 λx H3=>te U H3 λy H4=>tip x y H4 λz H5=>tset o i z H5 λH6=>D.nx U H6
def C7j (X:Cx) (t:V->V->Hp->VK->Prop):Prop :=
 ∀ (pins:List (Addr × Obj)) (s:Shared) (U:St) (H:Hp) (o i:V) (ov iv:Value) (Q:VK),C0 X pins U H s->G1 o ov->G1 i iv->t o i H Q ->
  wpAny (model X.prog X.w) X.A (getItem ov iv) (EP X pins U Q) X.xe s
theorem C5l {o i:Expr} {ti:TE} {tget:V->V->Hp->VK->Prop} {tip:TIp} {tset:B5p} (ho:PE X o to) (hi:PE X i ti) (hg:C7j X tget) (he:PE X e te) (hp:PIp X op tip) (hs:C1j X tset)
  (ha:∀ ov iv new,augStore i ov iv new=(do holding [new,ov,iv] (setItem ov iv new);release [new,ov,iv] [];pure .next):=by intros;rfl):PS X (.AugAssign (.Subscript o i tpos) op e pos) (C4s to ti te tget tip tset):=by
 sleep 5;refine wpAny_AugAssign_SubscriptAny (J9 (ho pins s U H _ I h) λov s1 ⟨x1,H1,I1,r1,q1⟩=>?_) ha;refine J9 (hi pins s1 U H1 _ I1 q1) λiv s2 ⟨x2,H2,I2,r2,q2⟩=>?_;refine J9 (hg pins s2 U H2 x1 x2 ov iv _ I2 r1 r2 q2) λold s3 ⟨x3,H3,I3,r3,q3⟩=>?_;refine J9 (he pins s3 U H3 _ I3 q3) λv s4 ⟨x4,H4,I4,r4,q4⟩=>?_;refine J9 (hp pins s4 U H4 x3 x4 old v _ I4 r3 r4 q4) λnew s5 ⟨x5,H5,I5,r5,q5⟩=>?_;exact J9 (hs pins s5 U H5 x1 x2 x5 ov iv new _ I5 r1 r2 r5 q5) λ_ s6 ⟨H6,I6,q6⟩=>⟨U,H6,I6,q6⟩
def ipI (f:Int->Int->Int):TIp:=λx y H Q=>∃ i j,x=.int i/\y=.int j/\Q (.int (f i j)) H
theorem C0o:PIp X .Add (ipI λi j=>i+j):=by
 intro pins s U H x y v u Q I r1 r2 h;obtain ⟨i,j,e1,e2,q⟩:=h;subst e1;subst e2;obtain ⟨t,rfl⟩:=r1;obtain ⟨t',rfl⟩:=r2;exact iadd_int ⟨.int _,H,I.tok _,⟨_,rfl⟩,q⟩
def C2h (c:TT) (tb:TS):TS:=λD U H=>∃ W:Nat->St->Hp->Prop,(∃ m,W m U H)/\∀ m U H,W m U H ->
 c U H λb H1=>if b=true then ∃ N:St->Hp->Prop,(∀ U' H',N U' H'->∃ m',m' < m/\W m' U' H')/\tb { D with nx:=N,ct:=N,bk:=D.nx } U H1 else D.nx U H1
theorem C0h {c:Expr} {tc:TT} (hp:PassesOwn (model X.prog X.w) X.A X.env X.xe) (hc:PT X c tc) (hb:PSs X body tb):PS X (.While c body [] pos) (C2h tc tb):=by
 sleep 5;obtain ⟨W,⟨m0,w0⟩,turn⟩:=h;refine wpAny_While (codeAny_whileLoop (λn s'=>∃ U' H',C0 X pins U' H' s'/\W n U' H') ?_ m0 ⟨U,H,I,w0⟩);rintro n s1 ⟨σ1,H1,I1,w1⟩;refine wpAny_passesOwn hp (J9 (hc pins s1 σ1 H1 _ I1 (turn n σ1 H1 w1)) λb s2 ⟨H2,I2,q2⟩=>?_);cases b with
 | true =>
  obtain ⟨N,hN,q2⟩:=q2;rw[qr rfl];refine wpAny_passesOwn hp (J9 (hb pins s2 σ1 H2 _ I2 q2) λf s3 q3=>?_);cases f with
  | next =>
   obtain ⟨σ3,H3,I3,n3⟩:=q3;obtain ⟨m',hm,w3⟩:=hN σ3 H3 n3;exact ⟨m',hm,σ3,H3,I3,w3⟩
  | cont =>
   obtain ⟨σ3,H3,I3,n3⟩:=q3;obtain ⟨m',hm,w3⟩:=hN σ3 H3 n3;exact ⟨m',hm,σ3,H3,I3,w3⟩
  | brk=>exact q3
  | ret v=>exact q3
 | false =>
  rw[qs qw];exact wpAny_execs_nil ⟨σ1,H2,I2,q2⟩
end
structure It where
 go:Nat->Hp->Prop
 yld:Nat->Hp->V->Hp->Prop
 stop:Nat->Hp->Prop
def A1d (X:Cx) (pins:List (Addr × Obj)) (H:Hp) (b:Addr):Prop :=
 H b=none/\b≠X.env.locals/\b∉X.fs/\(b∈X.ex\/X.s₀.heap.objs.size<=b)/\(∀ x c,X.env.cells.lookup x=some c->c≠b)/\∀ p∈X.pn++pins,p.1≠b
theorem C0.fpOk {H':Hp} {b:Addr} (I:C0 X pins U H s) (hb:s.heap.objs.size<=b) (hn:H' b=none):A1d X pins H' b:=by
 refine ⟨hn,Nat.ne_of_gt (qv I.lt hb),I.nofs hb,.inr (zq I.sz hb),λx c e z=>?_,λp hp z=>?_⟩
 ·obtain ⟨v,q⟩:=I.cell x c e;exact absurd (qv q.lt (by rw[z];exact hb)) (Nat.lt_irrefl _)
 ·exact absurd (qv (qm (I.pin p hp).1) (by rw[z];exact hb)) (Nat.lt_irrefl _)
structure B3w (P:Program) (w:World) (K:W.Frag) (tg:Expr) (J:It) (fp:List Addr) (it:Addr) (tn:Nat->Heap->Prop):Prop where
 mem:it∈fp
 obj:∀ i h,tn i h->∀ b∈fp,∃ o,h.get? b=some o/\∀ v,o.data≠.cell v
 keep:∀ i h h',tn i h->(∀ b∈fp,∀ o,h.get? b=some o->h'.get? b=some o)->tn i h'
 item:∀ (X:Cx),X.prog=P->X.w=w->X.K=K->X.calm=true->∀ (i:Nat) (pins:List (Addr × Obj)) (s:Shared) (U:St) (H:Hp) (E:Value->Shared->Prop),C0 X pins U H s->(∀ b∈fp,A1d X pins H b)->tn i s.heap->J.go i H ->
  wpAny (model P w) X.A (pyNext (.ref it)) (λr s1=>∃ u,r=some u /\
   wpAny (model P w) X.A (letOwnedTupleGo tg (.ref it) u) (λ_ s2=>∃ x H',C0 X pins U H' s2/\G1 x u/\J.yld i H x H'/\tn (i+1) s2.heap/\∀ b∈fp,H' b=none) E s1) E s
 done:∀ (X:Cx),X.prog=P->X.w=w->X.K=K->X.calm=true->∀ (i:Nat) (pins:List (Addr × Obj)) (s:Shared) (U:St) (H:Hp) (E:Value->Shared->Prop),C0 X pins U H s->(∀ b∈fp,A1d X pins H b)->tn i s.heap->J.stop i H ->
  wpAny (model P w) X.A (pyNext (.ref it)) (λr s1=>r=none/\C0 X pins U H s1) E s
 self:∀ (A:Around) (i:Nat) (s:Shared) (Q:Value->Shared->Prop) (E:Value->Shared->Prop),tn i s.heap->Q (.ref it) s->wpAny (model P w) A (pyIter (.ref it)) Q E s
abbrev TI:=St->Hp->(It->Hp->Prop)->Prop
def PIE (X:Cx) (pins:List (Addr × Obj)) (U:St) (tg:Expr) (R:It->Hp->Prop) (itv:Value) (s2:Shared):Prop :=
 ∃ (it:Addr) (fp:List Addr) (tn:Nat->Heap->Prop) (J:It) (H':Hp),itv=.ref it/\C0 X pins U H' s2/\B3w X.prog X.w X.K tg J fp it tn/\tn 0 s2.heap/\(∀ b∈fp,A1d X pins H' b)/\R J H'
def PI (X:Cx) (tg iter:Expr) (wi:TI):Prop :=
 ∀ (pins:List (Addr × Obj)) (s:Shared) (U:St) (H:Hp) (R:It->Hp->Prop),C0 X pins U H s->wi U H R ->
  wpAny (model X.prog X.w) X.A (eval iter X.env) (λv s1=>wpAny (model X.prog X.w) X.A (pyIter v) (PIE X pins U tg R) X.xe s1) X.xe s
theorem B6n {M:Model} {A:Around} {it:Addr} {u:Value} {n:String} {vs:Array Value} {Q:Unit->Shared->Prop} (ho:s.heap.get? it=some o) (hc:o.cls=.type n) (hd:o.data=.fields vs)
  (hn:["enumerate","zip","dict_itemiterator","dict_reverseitemiterator","odict_iterator","itertools.zip_longest","itertools.pairwise"].contains n=false) (hQ:Q () s):wpAny M A (letOwnedTupleGo tg (.ref it) u) Q E s:=by
 unfold letOwnedTupleGo;cases tg<;>first
  | exact qe hQ
  | (cases u<;>first
    | exact qe hQ
    | (refine qd (wpAny_load ho ?_)
       rw[hc,hd];show wpAny M A (if (["enumerate","zip","dict_itemiterator","dict_reverseitemiterator","odict_iterator","itertools.zip_longest","itertools.pairwise"].contains n&&vs[0]?==some (rawInt _))=true then _ else _) Q E s;rw[qs (by intro h;rw[hn,Bool.false_and] at h;cases h)];exact qe hQ))
def Itl (K:W.Frag) (a:Addr):It :=
 ⟨λi H=>∃ xs x,E6 K H a xs/\xs[i]?=some x,λi H x H'=>H'=H/\∀ xs,E6 K H a xs->xs[i]?=some x,λi H=>∃ xs,E6 K H a xs/\xs.length<=i⟩
def Itt (K:W.Frag) (a:Addr):It :=
 ⟨λi H=>∃ xs x,SqT K H a xs/\xs[i]?=some x,λi H x H'=>H'=H/\∀ xs,SqT K H a xs->xs[i]?=some x,λi H=>∃ xs,SqT K H a xs/\xs.length<=i⟩
def Itr (lo:Int) (n:Nat):It:=⟨λi _=>i < n,λi H x H'=>H'=H/\x=.int (lo+i),λi _=>n<=i⟩
theorem B89 {w:World} {K:W.Frag} (a it:Addr):B3w P w K tg (Itl K a) [it] it (λi h=>h.IsListIter it a i) where
 mem:=by simp
 obj:=λi h st b hb=>by
  have e:b=it:=by simpa using hb
  subst e;obtain ⟨o,e,c,d⟩:=st;exact ⟨o,e,λv z=>by rw[d] at z;cases z⟩
 keep:=λi h h' st k=>st.at λo e=>k it (by simp) o e
 item:=by
  sleep 6;subst hP hw hK;obtain ⟨xs,x,hq,hx⟩:=hg;sleep 13;obtain ⟨u,hu,ru⟩:=rv.get hx;sleep 9;refine wpAny_pyNext_list_item st p.isList (x:=u) (by simpa using hu) λh' st' sb=>?_;have I1:C0 X pins U H { s with heap:=h' }:=I.turned (t':=s.toks) (λb o hb e=>(sb.2 b hb).trans e) f0 f1 f3 f4 f5;obtain ⟨o,e,c,d⟩:=id st';exact ⟨u,rfl,B6n (s:={ s with heap:=h' }) e c d (by decide) ⟨x,H,I1,ru,⟨rfl,λys hy=>by rw[I.list_inj hy hq];exact hx⟩,st',λb hb=>(hf b hb).1⟩⟩
 done:=by
  sleep 6;subst hP hw hK;obtain ⟨xs,hq,hx⟩:=hg;sleep 13;sleep 9;have hl:=rv.length;exact wpAny_pyNext_list_end (I.ok.hd hc) st p.isList (by simp;lia) λh' eb=>⟨rfl,I.turned (t':=s.toks) (λb o hb e=>eb b o hb e) f0 f1 f3 f4 f5⟩
 self:=λ_ _ _ _ _ st h=>wpAny_pyIter_listiter st h
theorem A7y {w:World} {K:W.Frag} (it:Addr) (lo:Int) (n:Nat):B3w P w K tg (Itr lo n) [it] it (λi h=>IsRangeIter h it (lo+(i:Nat)*1) ((n:Int) - (i:Nat)) 1) where
 mem:=by simp
 obj:=λi h st b hb=>by
  have e:b=it:=by simpa using hb
  subst e;exact ⟨_,st,λv z=>by
   have z':Data.fields _=Data.cell v:=z;cases z'⟩
 keep:=λi h h' st k=>k it (by simp) _ st
 item:=by
  sleep 6;subst hP hw hK;sleep 9;have W:=Walks.range (prog:=X.prog) (w:=X.w) (I.ok.hd hc) it lo 1 n;refine W.item i s _ _ hg st λv h' tk hv st' kk=>?_;obtain ⟨t,rfl⟩:=hv;have I1:C0 X pins U H { s with heap:=h',toks:=tk }:=I.turned (λb o hb e=>kk b o (by simpa using hb) e) f0 f1 f3 f4 f5;refine ⟨_,rfl,B6n (s:={ s with heap:=h',toks:=tk }) (n:="range_iterator") st' rfl rfl (by decide) ⟨.int (lo+i),H,I1,⟨t,?_⟩,⟨rfl,rfl⟩,st',λb hb=>(hf b hb).1⟩⟩;rw[Int.mul_one]
 done:=by
  sleep 6;subst hP hw hK;sleep 9;exact wpAny_pyNext_range_end (I.ok.hd hc) st (by have:n<=i:=hg;lia) λh' eb=>⟨rfl,I.turned (t':=s.toks) (λb o hb e=>eb b o hb e) f0 f1 f3 f4 f5⟩
 self:=λ_ _ _ _ _ st h=>wpAny_pyIter_rangeiter st h
section
variable {X:Cx} {tg:Expr}
def B7u (K:W.Frag) (tl:TE):TI:=λU H R=>tl U H λx H1=>∃ a,x=.ref a/\(∃ xs,E6 K H1 a xs)/\R (Itl K a) H1
def E2x (K:W.Frag) (tl:TE):TI:=λU H R=>tl U H λx H1=>∃ a,x=.ref a/\(∃ xs,SqT K H1 a xs)/\R (Itt K a) H1
theorem C6w {l:Expr} {tl:TE} (hl:PE X l tl):PI X tg l (B7u X.K tl):=by
 intro pins s U H R I h;refine J9 (hl pins s U H _ I h) λv s1 ⟨x,H1,I1,r1,q1⟩=>?_;obtain ⟨a,e,⟨xs,hq⟩,q⟩:=q1;subst e;cases r1;obtain ⟨its,rv,p,hz⟩:=I1.list hq;refine wpAny_pyIter_list p.isList ?_;refine ⟨s1.heap.objs.size,[s1.heap.objs.size],_,_,H1,rfl,I1.kept (t':=s1.toks) λb o e=>qc _ e,B89 a _,⟨_,qq _ rfl,rfl,rfl⟩,λb hb=>?_,q⟩;have e:b=s1.heap.objs.size:=by simpa using hb
 subst e;sleep 37
theorem B30 {R:It->Hp->Prop} {lo hi:Int} {t u v:Tok} (I:C0 X pins U H s) (h1:-(2 ^ 62)<=lo) (h2:lo < 2 ^ 62) (h3:-(2 ^ 62)<=hi) (h4:hi < 2 ^ 62)
  (q:R (Itr lo (hi - lo).toNat) H):wpAny (model X.prog X.w) X.A (pyIter (.ref s.heap.objs.size)) (PIE X pins U tg R) E { s with heap:=s.heap.push { cls:=.type "range",data:=.fields #[.int lo t,.int hi u,.int 1 v] },toks:=tk }:=by
 refine wpAny_pyIter_range (IsRange.new ..) (small_one h1 h2 h3 h4) ?_;have I1:C0 X pins U H { s with heap:=s.heap.push { cls:=.type "range",data:=.fields #[.int lo t,.int hi u,.int 1 v] },toks:=tk }:=I.kept λb o e=>qc _ e;refine ⟨(s.heap.push { cls:=.type "range",data:=.fields #[.int lo t,.int hi u,.int 1 v] }).objs.size,[(s.heap.push { cls:=.type "range",data:=.fields #[.int lo t,.int hi u,.int 1 v] }).objs.size],_,_,H,rfl,
  I1.kept (t':=tk) λb o e=>qc _ e,A7y _ lo (hi - lo).toNat,?_,λb hb=>?_,q⟩
 ·have e1:lo+((0:Nat):Int)*1=lo:=by simp
  have e2:(((hi - lo).toNat:Nat):Int) - ((0:Nat):Int)=Builtin.Range.rangeSize lo hi 1:=by rw[rangeSize_one];split<;>lia
  show IsRangeIter _ _ (lo+((0:Nat):Int)*1) ((((hi - lo).toNat:Nat):Int) - ((0:Nat):Int)) 1;rw[e1,e2];exact qq _ rfl
 ·have e:b=(s.heap.push { cls:=.type "range",data:=.fields #[.int lo t,.int hi u,.int 1 v] }).objs.size:=by simpa using hb
  subst e;sleep 37
def C4p (ta:TA):TI:=λU H R=>ta U H λvs H1=>∃ j:Int,vs=[.int j]/\-(2 ^ 62)<=j/\j < 2 ^ 62/\R (Itr 0 j.toNat) H1
def A98 (ta:TA):TI:=λU H R=>ta U H λvs H1=>∃ i j:Int,vs=[.int i,.int j]/\(-(2 ^ 62)<=i/\i < 2 ^ 62/\-(2 ^ 62)<=j/\j < 2 ^ 62)/\R (Itr i (j - i).toNat) H1
variable {a:Expr} {p:Pos}
theorem B91 {pos:Pos} (hg:Gl X "range") (hm:X.mg "range"=none) (ha:PA X [a] ta) (hs:starEach [a] X.env=[(false,eval a X.env)]:=by rfl):PI X tg (.Call (.Name "range" p) [a] [] pos) (C4p ta):=by
 intro pins s U H R I h;refine Call_ (A04 I hg hm boot_range (PyProof.Rows.callWith_type1 (J9 (ha pos pins s U H _ I h) λus s1 ⟨vs,H1,I1,r1,q1⟩=>?_) hs rfl));obtain ⟨j,e,q1,q2,q⟩:=q1;subst e;cases r1 with
 | cons r rr =>
  cases rr;obtain ⟨t,rfl⟩:=r;exact call_range_1 (B30 I1 (by lia) (by lia) q1 q2 (by simpa using q))
theorem B9y {b:Expr} {pos:Pos} (hg:Gl X "range") (hm:X.mg "range"=none) (ha:PA X [a,b] ta) (hs:starEach [a,b] X.env=[(false,eval a X.env),(false,eval b X.env)]:=by rfl) (hs2:starEach [b] X.env=[(false,eval b X.env)]:=by rfl) :
  PI X tg (.Call (.Name "range" p) [a,b] [] pos) (A98 ta):=by
 intro pins s U H R I h;refine Call_ (A04 I hg hm boot_range (PyProof.Rows.callWith_type1 (J9 (ha pos pins s U H _ I h) λus s1 ⟨vs,H1,I1,r1,q1⟩=>?_) (by rw[hs,hs2]) (by rw[hs2];rfl)));obtain ⟨i,j,e,⟨q1,q2,q3,q4⟩,q⟩:=q1;subst e;cases r1 with
 | cons r rr =>
  cases rr with
  | cons r' rr =>
   cases rr;obtain ⟨t,rfl⟩:=r;obtain ⟨t',rfl⟩:=r';exact call_range_2 (B30 I1 q1 q2 q3 q4 q)
def C4k (wi:TI) (g:TG) (tb:TS):TS:=λD U H=>wi U H λJ H1=>∃ W:Nat->Nat->St->Hp->Prop,(∃ m,W 0 m U H1)/\∀ i m U H,W i m U H ->
 (J.stop i H/\D.nx U H)\/(J.go i H/\∃ N:St->Hp->Prop,(∀ U' H',N U' H'->∃ m',m' < m/\W (i+1) m' U' H')/\∀ x H',J.yld i H x H'->g x U H' λσ2 H2=>tb { D with nx:=N,ct:=N,bk:=D.nx } σ2 H2)
def A56 (fp:List Addr) (h:Heap):List (Addr × Obj):=fp.filterMap λb=>(h.get? b).map λo=>(b,o)
theorem V2 {h:Heap} {b:Addr} (hb:b∈fp) (e:h.get? b=some o):(b,o)∈A56 fp h:=List.mem_filterMap.mpr ⟨b,hb,by rw[e];rfl⟩
theorem B8o {h:Heap} {p:Addr × Obj} (hp:p∈A56 fp h):p.1∈fp/\h.get? p.1=some p.2:=by
 obtain ⟨b,hb,e⟩:=List.mem_filterMap.mp hp;cases q:h.get? b with
 | none=>rw[q] at e;cases e
 | some o =>
  rw[q] at e;have e':(b,o)=p:=zu e;subst e';exact ⟨hb,q⟩
theorem C0.pinned (I:C0 X pins U H s) (hf:∀ b∈fp,A1d X pins H b) (ho:∀ b∈fp,∃ o,s.heap.get? b=some o/\∀ v,o.data≠.cell v):C0 X (pins++A56 fp s.heap) U H s :=
 I.pins_of λp hp=>(zm.mp hp).elim (λz=>I.pin p (qz _ z)) λz=>by
  obtain ⟨hb,e⟩:=B8o z;obtain ⟨f0,f1,f2,_⟩:=hf p.1 hb;obtain ⟨o,e',d⟩:=ho p.1 hb;rw[e] at e';cases e';exact ⟨e,f0,f1,f2,d⟩
theorem C0.unpinned {pl:List (Addr × Obj)} (I:C0 X (pins++pl) U H s):C0 X pins U H s:=I.pins_of λp hp=>I.pin p (qz _ (za _ hp))
theorem D2e {wi:TI} {g:TG} {pos:Pos} (hp:PassesOwn (model X.prog X.w) X.A X.env X.xe) (hc:X.calm=true) (hi:PI X tg iter wi) (hg:PG X tg g) (hb:PSs X body tb)
  (hs:∀ x,foldedSetIterable iter X.env x=pure x:=by intro _;rfl):PS X (.For tg iter body [] pos) (C4k wi g tb):=by
 sleep 5;refine wpAny_For (J9 (hi pins s U H _ I h) λv s1 h1=>J9 h1 λitv s2 h2=>?_) hs;obtain ⟨it,fp,tn,J,H2,e,I2,T,st2,f2,W,⟨m0,w0⟩,turn⟩:=h2;subst e;have stat:∀ {H':Hp},(∀ b∈fp,H' b=none)->∀ b∈fp,A1d X pins H' b:=λhn b hb=>⟨hn b hb,(f2 b hb).2⟩;refine codeAny_forLoop_any (λn s'=>∃ i U' H',C0 X pins U' H' s'/\tn i s'.heap/\(∀ b∈fp,H' b=none)/\W i n U' H') ?_ m0 ⟨0,U,H2,I2,st2,λb hb=>(f2 b hb).1,w0⟩;rintro n s3 ⟨i,σ3,H3,I3,st3,fr3,w3⟩;rcases turn i n σ3 H3 w3 with ⟨stop,qn⟩|⟨go,N,hN,step⟩
 ·refine wpAny_passesOwn hp (J9 (T.done X rfl rfl rfl hc i pins s3 σ3 H3 X.xe I3 (stat fr3) st3 stop) λr s4 ⟨hr,I4⟩=>?_);subst hr;exact wpAny_execs_nil ⟨σ3,H3,I4,qn⟩
 ·refine wpAny_passesOwn hp (J9 (T.item X rfl rfl rfl hc i pins s3 σ3 H3 X.xe I3 (stat fr3) st3 go) λr s4 ⟨u,hr,h4⟩=>?_);subst hr;refine wpAny_passesOwn hp (J9 h4 λ_ s5 ⟨x,H5,I5,r5,y5,st5,fr5⟩=>?_);have I5':=I5.pinned (stat fr5) (T.obj _ _ st5);refine wpAny_passesOwn hp (J9 (hg _ s5 σ3 H5 x u _ I5' r5 (step x H5 y5)) λ_ s6 ⟨σ6,H6,I6,q6⟩=>?_);refine wpAny_passesOwn hp (J9 (hb _ s6 σ6 H6 _ I6 q6) λf s7 q7=>?_);have again:∀ {σ7:St} {H7:Hp},C0 X (pins++A56 fp s5.heap) σ7 H7 s7->N σ7 H7->∃ m,m < n/\∃ i U' H',C0 X pins U' H' s7/\tn i s7.heap/\(∀ b∈fp,H' b=none)/\W i m U' H':=λ{σ7 H7} I7 n7=>by
   obtain ⟨m',hm,w7⟩:=hN σ7 H7 n7;sleep 29;obtain ⟨o,e,d⟩:=T.obj _ _ st5 b hb;exact (I7.pin (b,o) (qz _ (qz _ (V2 hb e)))).2.1
  cases f with
  | next=>obtain ⟨σ7,H7,I7,n7⟩:=q7;exact again I7 n7
  | cont=>obtain ⟨σ7,H7,I7,n7⟩:=q7;exact again I7 n7
  | brk=>obtain ⟨σ7,H7,I7,q7⟩:=q7;exact ⟨σ7,H7,I7.unpinned,q7⟩
  | ret v=>obtain ⟨x7,σ7,H7,I7,r7,q7⟩:=q7;exact ⟨x7,σ7,H7,I7.unpinned,r7,q7⟩
end
theorem C26 {K:W.Frag} {a:Addr} {g:TG} {D:V0} (Pv:Nat->St->Hp->Prop) (h0:Pv 0 U H) (hl:∀ i U H,i<=xs.length->Pv i U H->E6 K H a xs)
  (hs:∀ i x U H,xs[i]?=some x->Pv i U H->g x U H λσ2 H2=>tb { D with nx:=Pv (i+1),ct:=Pv (i+1),bk:=D.nx } σ2 H2) (hd:∀ U H,Pv xs.length U H->D.nx U H) :
  ∃ W:Nat->Nat->St->Hp->Prop,(∃ m,W 0 m U H)/\∀ i m U H,W i m U H ->
   ((Itl K a).stop i H/\D.nx U H)\/((Itl K a).go i H/\∃ N:St->Hp->Prop,(∀ U' H',N U' H'->∃ m',m' < m/\W (i+1) m' U' H')/\∀ x H',(Itl K a).yld i H x H'->g x U H' λσ2 H2=>tb { D with nx:=N,ct:=N,bk:=D.nx } σ2 H2):=by
 refine ⟨λi m U H=>m=xs.length - i/\i<=xs.length/\Pv i U H,⟨xs.length,by simp,jb _,h0⟩,?_⟩;rintro i m U H ⟨rfl,hi,p⟩;have q:=hl i U H hi p;by_cases hlt:i < xs.length
 ·refine .inr ⟨⟨xs,xs[i],q,by simp[hlt]⟩,Pv (i+1),λU' H' p'=>⟨xs.length - (i+1),by lia,rfl,hlt,p'⟩,λx H' y=>?_⟩;obtain ⟨e,y⟩:=y;subst e;exact hs i x U _ (y xs q) p
 ·have e:i=xs.length:=by lia
  subst e;exact .inl ⟨⟨xs,q,qt _⟩,hd U H p⟩
theorem B9z {lo:Int} {n:Nat} {g:TG} {D:V0} (Pv:Nat->St->Hp->Prop) (h0:Pv 0 U H)
  (hs:∀ i U H,i < n->Pv i U H->g (.int (lo+i)) U H λσ2 H2=>tb { D with nx:=Pv (i+1),ct:=Pv (i+1),bk:=D.nx } σ2 H2) (hd:∀ U H,Pv n U H->D.nx U H) :
  ∃ W:Nat->Nat->St->Hp->Prop,(∃ m,W 0 m U H)/\∀ i m U H,W i m U H ->
   ((Itr lo n).stop i H/\D.nx U H)\/((Itr lo n).go i H/\∃ N:St->Hp->Prop,(∀ U' H',N U' H'->∃ m',m' < m/\W (i+1) m' U' H')/\∀ x H',(Itr lo n).yld i H x H'->g x U H' λσ2 H2=>tb { D with nx:=N,ct:=N,bk:=D.nx } σ2 H2):=by
 refine ⟨λi m U H=>m=n - i/\i<=n/\Pv i U H,⟨n,by simp,jb _,h0⟩,?_⟩;rintro i m U H ⟨rfl,hi,p⟩;by_cases hlt:i < n
 ·refine .inr ⟨hlt,Pv (i+1),λU' H' p'=>⟨n - (i+1),by lia,rfl,hlt,p'⟩,λx H' y=>?_⟩;obtain ⟨e,y⟩:=y;subst e y;exact hs i U _ hlt p
 ·have e:i=n:=by lia
  subst e;exact .inl ⟨qt _,hd U H p⟩
abbrev R2:=V->V->Hp->VK->Prop
def OpR (X:Cx) (f:Value->Value->Sem Value) (r:R2):Prop :=
 ∀ (pins:List (Addr × Obj)) (s:Shared) (U:St) (H:Hp) (x y:V) (v u:Value) (Q:VK),C0 X pins U H s->G1 x v->G1 y u->r x y H Q ->
  wpAny (model X.prog X.w) X.A (f v u) (EP X pins U Q) X.xe s
def UnR (X:Cx) (f:Value->Sem Value) (r:V->Hp->VK->Prop):Prop :=
 ∀ (pins:List (Addr × Obj)) (s:Shared) (U:St) (H:Hp) (x:V) (v:Value) (Q:VK),C0 X pins U H s->G1 x v->r x H Q ->
  wpAny (model X.prog X.w) X.A (f v) (EP X pins U Q) X.xe s
def R3 (X:Cx) (f:Value) (r:List V->Hp->VK->Prop):Prop :=
 ∀ (pins:List (Addr × Obj)) (s:Shared) (U:St) (H:Hp) (xs:List V) (us:List Value) (Q:VK),C0 X pins U H s->D7 xs us->r xs H Q ->
  wpAny (model X.prog X.w) X.A (call f us) (EP X pins U Q) X.xe s
def E0w (X:Cx) (r:V->Hp->(Bool->Hp->Prop)->Prop):Prop :=
 ∀ (pins:List (Addr × Obj)) (s:Shared) (U:St) (H:Hp) (x:V) (v:Value) (Q:Bool->Hp->Prop),C0 X pins U H s->G1 x v->r x H Q ->
  wpAny (model X.prog X.w) X.A (truthy v) (TP X pins U Q) X.xe s
def tOp (r:R2) (ta tb:TE):TE:=λU H Q=>ta U H λx H1=>tb U H1 λy H2=>r x y H2 Q
def tUn (r:V->Hp->VK->Prop) (ta:TE):TE:=λU H Q=>ta U H λx H1=>r x H1 Q
def rI (C:Int->Int->Prop) (g:Int->Int->V):R2:=λx y H Q=>∃ i j,x=.int i/\y=.int j/\C i j/\Q (g i j) H
def rI0 (g:Int->Int->V):R2:=λx y H Q=>∃ i j,x=.int i/\y=.int j/\Q (g i j) H
def rU (g:Int->V):V->Hp->VK->Prop:=λx H Q=>∃ i,x=.int i/\Q (g i) H
variable {r:R2}
section
variable {X:Cx} {a b:Expr} {ta tb:TE} {pos:Pos}
theorem D42 (ha:PE X a ta) (hb:PE X b tb) {R:V->V->Hp->Prop} (I:C0 X pins U H s)
  (h:ta U H λx H1=>tb U H1 λy H2=>R x y H2) 
  (hf:∀ v u s2 x y H2,C0 X pins U H2 s2->G1 x v->G1 y u->R x y H2->wpAny (model X.prog X.w) X.A (f v u) Q X.xe s2) :
  wpAny (model X.prog X.w) X.A (eval a X.env) (λv s₁=>wpAny (model X.prog X.w) X.A (eval b X.env) (λu s₂=>wpAny (model X.prog X.w) X.A (f v u) Q X.xe s₂) X.xe s₁) X.xe s:=by
 refine J9 (ha pins s U H _ I h) λv s1 ⟨x,H1,I1,r1,q1⟩=>?_;refine J9 (hb pins s1 U H1 _ I1 q1) λu s2 ⟨y,H2,I2,r2,q2⟩=>?_;exact hf v u s2 x y H2 I2 r1 r2 q2
theorem D9h {op:Operator} (ho:OpR X (binaryOp op) r) (ha:PE X a ta) (hb:PE X b tb):PE X (.BinOp a op b pos) (tOp r ta tb):=by
 sleep 3;exact wpAny_BinOp (D42 ha hb I h λv u s2 x y H2 I2 rx ry q=>ho pins s2 U H2 x y v u Q I2 rx ry q)
theorem D61 {op:UnaryOp} {r:V->Hp->VK->Prop} (ho:UnR X (unaryOp op) r) (ha:PE X a ta):PE X (.UnaryOp op a pos) (tUn r ta):=by
 sleep 3;exact UnaryOp_ (J9 (ha pins s U H _ I h) λv s1 ⟨x,H1,I1,r1,q1⟩=>ho pins s1 U H1 x v Q I1 r1 q1)
theorem opI {C:Int->Int->Prop} {g:Int->Int->Int}
  (rule:∀ (i j:Int) (t u:Tok) (s:Shared) (Q:Value->Shared->Prop) (E:Value->Shared->Prop),C i j->Q (.int (g i j) s.toks) { s with toks:=s.toks+1 }->wpAny (model X.prog X.w) X.A (f (.int i t) (.int j u)) Q E s) :
  OpR X f (rI C λi j=>.int (g i j)):=by
 sleep 2;obtain ⟨i,j,rfl,rfl,hc,q⟩:=h;sleep 7;sleep 27;exact rule i j t t' s _ _ hc ⟨.int (g i j),H,I.tok _,⟨_,rfl⟩,q⟩
theorem D99 {g:Int->Int->Int}
  (rule:∀ (i j:Int) (t u:Tok) (s:Shared) (Q:Value->Shared->Prop) (E:Value->Shared->Prop),Q (.int (g i j) s.toks) { s with toks:=s.toks+1 }->wpAny (model X.prog X.w) X.A (f (.int i t) (.int j u)) Q E s) :
  OpR X f (rI0 λi j=>.int (g i j)):=by
 sleep 2;obtain ⟨i,j,rfl,rfl,q⟩:=h;sleep 7;sleep 27;exact rule i j t t' s _ _ ⟨.int (g i j),H,I.tok _,⟨_,rfl⟩,q⟩
theorem D1n {g:Int->Int->Bool}
  (rule:∀ (i j:Int) (t u:Tok) (s:Shared) (Q:Value->Shared->Prop) (E:Value->Shared->Prop),Q (.bool (g i j)) s->wpAny (model X.prog X.w) X.A (f (.int i t) (.int j u)) Q E s) :
  OpR X f (rI0 λi j=>.bl (g i j)):=by
 sleep 2;obtain ⟨i,j,rfl,rfl,q⟩:=h;sleep 7;sleep 27;exact rule i j t t' s _ _ ⟨.bl (g i j),H,I,rfl,q⟩
def D2a (i j:Int):Prop:=0 < j/\j < 1073741824
def D4k (i j:Int):Prop:=0<=j/\j<=1000000/\i.natAbs < 2 ^ 64
def A5z (i j:Int):Prop:=(-(2 ^ 64) < i/\i < 2 ^ 64)\/(-(2 ^ 64) < j/\j < 2 ^ 64)
theorem A5z.ok {i j:Int} (h:A5z i j):IntMulOk i j:=by
 rcases h with ⟨h1,h2⟩|⟨h1,h2⟩
 ·exact .of_left (intBits_le_64 h1 h2)
 ·exact .of_right (intBits_le_64 h1 h2)
theorem B1n:OpR X (binaryOp .Add) (rI0 λi j=>.int (i+j)):=D99 λ_ _ _ _ _ _ _ q=>add_int q
theorem D4h:OpR X (binaryOp .Sub) (rI0 λi j=>.int (i - j)):=D99 λ_ _ _ _ _ _ _ q=>sub_int q
theorem C7z:OpR X (binaryOp .FloorDiv) (rI D2a λi j=>.int (i / j)):=opI λi j _ _ _ _ _ hc q=>by
 have h1:(0:Int) < j:=hc.1;have h2:j < 1073741824:=hc.2;exact floordiv_int (by lia) (by rw[Int.fdiv_eq_ediv_of_nonneg i (by lia)];exact q) (.inl (PyProof.noPylong_small (by lia)))
theorem D4c:OpR X (binaryOp .Mod) (rI (λ_ j=>0 < j) λi j=>.int (i % j)):=opI λi j _ _ _ _ _ hc q=>by
 have h1:(0:Int) < j:=hc;exact mod_int' (by lia) (by rw[Int.fmod_eq_emod_of_nonneg i (by lia)];exact q)
theorem B72:OpR X (binaryOp .Mod) (rI (λ_ j=>j≠0) λi j=>.int (i.fmod j)):=opI λ_ _ _ _ _ _ _ hc q=>mod_int' hc q
theorem D1h:OpR X (binaryOp .Pow) (rI D4k λi j=>.int (i ^ j.toNat)):=opI λ_ _ _ _ _ _ _ hc q=>pow_int_small hc.1 hc.2.1 hc.2.2 q
theorem unI {f:Value->Sem Value} {g:Int->Int}
  (rule:∀ (i:Int) (t:Tok) (s:Shared) (Q:Value->Shared->Prop) (E:Value->Shared->Prop),Q (.int (g i) s.toks) { s with toks:=s.toks+1 }->wpAny (model X.prog X.w) X.A (f (.int i t)) Q E s) :
  UnR X f (rU λi=>.int (g i)):=by
 intro pins s U H x v Q I rx h;obtain ⟨i,rfl,q⟩:=h;sleep 7;exact rule i t s _ _ ⟨.int (g i),H,I.tok _,⟨_,rfl⟩,q⟩
theorem A83:UnR X (unaryOp .USub) (rU λi=>.int (-i)):=unI λ_ _ _ _ _ q=>neg_int q
end
def D3f:V->V->Bool
 | .non,.non=>true|.non,.int _=>true|.int _,.non=>true|.non,.bl _=>true|.bl _,.non=>true|.non,.str _=>true|.str _,.non=>true
 | .int _,.int _=>true|.bl _,.bl _=>true|.str _,.str _=>true|.byt _,.byt _=>true
 | .int _,.str _=>true|.str _,.int _=>true|.bl _,.str _=>true|.str _,.bl _=>true
 | _,_=>false
def rEq:R2:=λx y H Q=>D3f x y=true/\Q (.bl (decide (x=y))) H
def rNe:R2:=λx y H Q=>D3f x y=true/\Q (.bl (!decide (x=y))) H
theorem B7f {i j:Int}:decide (V.int i=V.int j)=(i==j):=by
 rw[zz];simp
theorem C4b {i j:Bool}:decide (V.bl i=V.bl j)=(i==j):=by
 rw[zz];simp
theorem B6q {i j:Str}:decide (V.str i=V.str j)=(i==j):=by
 rw[zz];simp
theorem B7r {i j:Array UInt8}:decide (V.byt i=V.byt j)=(i.toList==j.toList):=by
 rw[zz];cases i;cases j;simp
section
variable {X:Cx} {a b c:Expr} {ta tb:TE} {pos:Pos}
theorem G6 {Q:VK} {k k':Bool} (I:C0 X pins U H s) (q:Q (.bl k) H) (e:k=k'):EP X pins U Q (.bool k') s:=by
 subst e;exact ⟨.bl k,H,I,rfl,q⟩
theorem D88:OpR X (compareOp .Eq) rEq:=by
 sleep 2;obtain ⟨hs,q⟩:=h;cases x with
 | non =>
  cases rx;cases y with
  | non=>cases ry;exact PySem.EqNone.eq_none_none (G6 I q (by simp))
  | bl j=>cases ry;exact PySem.EqNone.eq_none_bool (G6 I q (by simp))
  | int j=>obtain ⟨t',rfl⟩:=ry;exact PySem.EqNone.eq_none_int (G6 I q (by simp))
  | str j=>obtain ⟨t',rfl⟩:=ry;exact PySem.EqNone.eq_none_str (G6 I q (by simp))
  | _=>exact absurd (show false=true from hs) qw
 | bl i =>
  cases rx;cases y with
  | non=>cases ry;exact PySem.EqNone.eq_bool_none (G6 I q (by simp))
  | bl j=>cases ry;exact eq_bool (G6 I q C4b)
  | str j=>obtain ⟨t',rfl⟩:=ry;exact PySem.EqMixed.eq_bool_str (G6 I q (by simp))
  | _=>exact absurd (show false=true from hs) qw
 | int i =>
  sleep 7;cases y with
  | non=>cases ry;exact PySem.EqNone.eq_int_none (G6 I q (by simp))
  | int j=>obtain ⟨t',rfl⟩:=ry;exact eq_int (G6 I q B7f)
  | str j=>obtain ⟨t',rfl⟩:=ry;exact PySem.EqMixed.eq_int_str (G6 I q (by simp))
  | _=>exact absurd (show false=true from hs) qw
 | str i =>
  sleep 7;cases y with
  | non=>cases ry;exact PySem.EqNone.eq_str_none (G6 I q (by simp))
  | bl j=>cases ry;exact PySem.EqMixed.eq_str_bool (G6 I q (by simp))
  | int j=>obtain ⟨t',rfl⟩:=ry;exact PySem.EqMixed.eq_str_int (G6 I q (by simp))
  | str j=>obtain ⟨t',rfl⟩:=ry;exact eq_str (G6 I q B6q)
  | _=>exact absurd (show false=true from hs) qw
 | byt i =>
  sleep 7;cases y with
  | byt j=>obtain ⟨t',rfl⟩:=ry;exact W.eq_bytes (G6 I q B7r)
  | _=>exact absurd (show false=true from hs) qw
 | _=>cases y<;>exact absurd (show false=true from hs) qw
theorem C93:OpR X (compareOp .NotEq) rNe:=by
 sleep 2;obtain ⟨hs,q⟩:=h;cases x with
 | non =>
  cases rx;cases y with
  | non=>cases ry;exact PySem.EqNone.ne_none_none (G6 I q (by simp))
  | bl j=>cases ry;exact PySem.EqNone.ne_none_bool (G6 I q (by simp))
  | int j=>obtain ⟨t',rfl⟩:=ry;exact PySem.EqNone.ne_none_int (G6 I q (by simp))
  | str j=>obtain ⟨t',rfl⟩:=ry;exact PySem.EqNone.ne_none_str (G6 I q (by simp))
  | _=>exact absurd (show false=true from hs) qw
 | bl i =>
  cases rx;cases y with
  | non=>cases ry;exact PySem.EqNone.ne_bool_none (G6 I q (by simp))
  | bl j=>cases ry;exact ne_bool (G6 I q (congrArg not C4b))
  | str j=>obtain ⟨t',rfl⟩:=ry;exact PySem.EqMixed.ne_bool_str (G6 I q (by simp))
  | _=>exact absurd (show false=true from hs) qw
 | int i =>
  sleep 7;cases y with
  | non=>cases ry;exact PySem.EqNone.ne_int_none (G6 I q (by simp))
  | int j=>obtain ⟨t',rfl⟩:=ry;exact ne_int (G6 I q (congrArg not B7f))
  | str j=>obtain ⟨t',rfl⟩:=ry;exact PySem.EqMixed.ne_int_str (G6 I q (by simp))
  | _=>exact absurd (show false=true from hs) qw
 | str i =>
  sleep 7;cases y with
  | non=>cases ry;exact PySem.EqNone.ne_str_none (G6 I q (by simp))
  | bl j=>cases ry;exact PySem.EqMixed.ne_str_bool (G6 I q (by simp))
  | int j=>obtain ⟨t',rfl⟩:=ry;exact PySem.EqMixed.ne_str_int (G6 I q (by simp))
  | str j=>obtain ⟨t',rfl⟩:=ry;exact ne_str (G6 I q (congrArg not B6q))
  | _=>exact absurd (show false=true from hs) qw
 | byt i =>
  sleep 7;cases y with
  | byt j=>obtain ⟨t',rfl⟩:=ry;exact W.ne_bytes (G6 I q (congrArg not B7r))
  | _=>exact absurd (show false=true from hs) qw
 | _=>cases y<;>exact absurd (show false=true from hs) qw
theorem B7a:OpR X (compareOp .Lt) (rI0 λi j=>.bl (decide (i < j))):=D1n λ_ _ _ _ _ _ _ q=>lt_int q
theorem C2b:OpR X (compareOp .Gt) (rI0 λi j=>.bl (decide (j < i))):=D1n λ_ _ _ _ _ _ _ q=>gt_int q
theorem D81:OpR X (compareOp .GtE) (rI0 λi j=>.bl (decide (j<=i))):=D1n λ_ _ _ _ _ _ _ q=>ge_int q
theorem C5z:OpR X (compareOp .IsNot) (λx y H Q=>y=.non/\Q (.bl (!decide (x=.non))) H):=by
 sleep 2;obtain ⟨rfl,q⟩:=h;cases ry;refine isnot_none_gen (G6 I q ?_);cases x<;>first
  | (cases rx;rfl)
  | (obtain ⟨t,rfl⟩:=rx;rfl)
theorem OpR.or {r':R2} (h:OpR X f r) (h':OpR X f r'):OpR X f (λx y H Q=>r x y H Q\/r' x y H Q):=by
 intro pins s U H x y v u Q I rx ry q;rcases q with q|q
 ·exact h pins s U H x y v u Q I rx ry q
 ·exact h' pins s U H x y v u Q I rx ry q
variable {op:CmpOp}
theorem B6 (b:Expr) (h:op≠.In:=by decide) (h2:op≠.NotIn:=by decide):behindInMarks op b=false:=by
 have e1:(op==CmpOp.In)=false:=by cases op<;>first|rfl|exact absurd rfl h
 have e2:(op==CmpOp.NotIn)=false:=by cases op<;>first|rfl|exact absurd rfl h2
 cases b<;>simp[behindInMarks,e1,e2]
theorem C8e (ho:OpR X (compareOp op) r) (ha:PE X a ta) (hb:PE X b tb) (hm:behindInMarks op b=false):PE X (.Compare a [op] [b] pos) (tOp r ta tb):=by
 sleep 3;exact wpAny_Compare1 (D42 ha hb I h λv u s2 x y H2 I2 rx ry q=>ho pins s2 U H2 x y v u Q I2 rx ry q) hm
def C2z (t:TE):TT:=λU H Q=>t U H λx H'=>∃ k,x=.bl k/\Q k H'
theorem C8w (ho:OpR X (compareOp op) r) (ha:PE X a ta) (hb:PE X b tb) (hm:behindInMarks op b=false):PT X (.Compare a [op] [b] pos) (C2z (tOp r ta tb)):=by
 sleep 3;refine wpAny_isTrue_Compare1 (J9 (ha pins s U H _ I h) λv s1 ⟨x,H1,I1,r1,q1⟩=>J9 (hb pins s1 U H1 _ I1 q1) λu s2 ⟨y,H2,I2,r2,q2⟩ =>
  J9 (ho pins s2 U H2 x y v u _ I2 r1 r2 q2) λc s3 ⟨z,H3,I3,r3,k,e,q3⟩=>?_) hm
 subst e;cases r3;exact wpAny_truthy_bool ⟨H3,I3,q3⟩
def D7b (K:W.Frag) (x:V) (H:Hp) (k:Bool):Prop :=
 match x with
 | .non=>k=false
 | .bl b=>k=b
 | .int i=>k=(i != 0)
 | .str y=>y.length<=sizeLine/\k=((y.length:Int) != 0)
 | .byt y=>y.size<=sizeLine/\k=((y.size:Int) != 0)
 | .ref p=>(∃ xs,E6 K H p xs/\k=!xs.isEmpty)\/(∃ xs,SqT K H p xs/\k=!xs.isEmpty)\/∃ kvs,H p=some (.dK kvs)/\k=!kvs.isEmpty
 | _=>False
theorem B45 {κ:Type} {kvs:List (κ × V)} {vs:List (κ × Value)} (r:KV kvs vs):(!vs.isEmpty)=!kvs.isEmpty:=by
 cases r<;>rfl
theorem A6t {its:List Value} (r:D7 xs its):(!its.toArray.isEmpty)=!xs.isEmpty:=by
 cases r<;>simp
theorem A38:(sizeLine:Nat) < 2 ^ 63:=by rw[sizeLine_eq];decide
theorem D1y:E0w X (λx H Q=>∃ k,D7b X.K x H k/\Q k H):=by
 intro pins s U H x v Q I rx h;obtain ⟨k,e,q⟩:=h;have hl:=A38;have hs:sizeLine=16777216:=sizeLine_eq;cases x with
 | non =>
  cases rx;have e':k=false:=e;subst e';exact truthy_none ⟨H,I,q⟩
 | bl b =>
  cases rx;have e':k=b:=e;subst e';exact wpAny_truthy_bool ⟨H,I,q⟩
 | int i =>
  sleep 7;have e':k=(i != 0):=e;subst e';exact PySem.P.truthy_int ⟨H,I,q⟩
 | str y =>
  sleep 7;obtain ⟨hy,e'⟩:y.length<=sizeLine/\k=((y.length:Int) != 0):=e;subst e';exact PySem.P.truthy_str (by lia) ⟨H,I.tok _,q⟩
 | byt y =>
  sleep 7;obtain ⟨hy,e'⟩:y.size<=sizeLine/\k=((y.size:Int) != 0):=e;subst e';exact W.truthy_bytes (by lia) ⟨H,I.tok _,q⟩
 | ref p =>
  cases rx;have e':(∃ xs,E6 X.K H p xs/\k=!xs.isEmpty)\/(∃ xs,SqT X.K H p xs/\k=!xs.isEmpty)\/∃ kvs,H p=some (.dK kvs)/\k=!kvs.isEmpty:=e;rcases e' with ⟨xs,hx,e'⟩|⟨xs,hx,e'⟩|⟨kvs,hx,e'⟩
  ·subst e';obtain ⟨its,r,pl,hz⟩:=I.list hx;have hlen:=r.length;exact wpAny_truthy_list pl.isList (by simp only[size_toArray];lia) ⟨H,I.tok _,by rw[A6t r];exact q⟩
  ·subst e';obtain ⟨its,r,pl,hz⟩:=I.tuple hx;have hlen:=r.length;exact truthy_tuple pl (by simp only[size_toArray];lia) ⟨H,I.tok _,by rw[A6t r];exact q⟩
  ·subst e';obtain ⟨hz,hS,vs,r,m⟩:kvs.length<=sizeLine/\(p==sysModules)=false/\∃ vs,KV kvs vs/\s.heap.DictOf (B1p X.prog X.w) p vs:=I.hok p _ hx;have hlen:kvs.length=vs.length:=Paired.length r;exact wpAny_truthy_dict hS m (by lia) ⟨H,I.tok _,by rw[B45 r];exact q⟩
 | _=>exact (show False from e).elim
theorem C47 (ha:PE X a ta) (he:∀ whole,isTrue a X.env whole=(do let v <- whole;standAt a.pos;holding [v] (truthy v))) :
  PT X a (λU H Q=>ta U H λx H'=>∃ k,D7b X.K x H' k/\Q k H'):=by
 sleep 3;exact isTrue_plain (J9 (ha pins s U H _ I h) λv s1 ⟨x,H1,I1,r1,q1⟩=>D1y pins s1 U H1 x v Q I1 r1 q1) (he _)
theorem B44:OpR X (binaryOp .Add) (λx y H Q=>∃ i j,x=.str i/\y=.str j/\i.length+j.length<=sizeLine/\Q (.str (i++j)) H):=by
 sleep 2;obtain ⟨i,j,rfl,rfl,hz,q⟩:=h;sleep 7;sleep 27;exact add_str (λt' tk=>⟨.str (i++j),H,I.tok _,⟨_,rfl⟩,q⟩) hz
theorem A5u {x:V} (r:D7 [x] us):∃ u,us=[u]/\G1 x u:=by
 cases r with
 | cons r1 r2=>cases r2;exact ⟨_,rfl,r1⟩
theorem B2t {x y:V} (r:D7 [x,y] us):∃ u w',us=[u,w']/\G1 x u/\G1 y w':=by
 cases r with
 | cons r1 r2 =>
  cases r2 with
  | cons r3 r4=>cases r4;exact ⟨_,_,rfl,r1,r3⟩
theorem B8i (hc:X.calm=true):R3 X (.builtin "max") (λxs H Q=>∃ i j,xs=[.int i,.int j]/\Q (.int (if j > i then j else i)) H):=by
 sleep 10;obtain ⟨i,j,rfl,q⟩:=h;obtain ⟨u,w',rfl,⟨t,rfl⟩,⟨t',rfl⟩⟩:=B2t r;refine max_two_ints (I.ok.hd hc) λh' tk k=>⟨_,H,I.kept k,?_,q⟩;by_cases hj:j > i
 ·rw[qr hj,qr hj];exact ⟨_,rfl⟩
 ·rw[qs hj,qs hj];exact ⟨_,rfl⟩
theorem B03 (hc:X.calm=true):R3 X (.builtin "min") (λxs H Q=>∃ i j,xs=[.int i,.int j]/\Q (.int (if j < i then j else i)) H):=by
 sleep 10;obtain ⟨i,j,rfl,q⟩:=h;obtain ⟨u,w',rfl,⟨t,rfl⟩,⟨t',rfl⟩⟩:=B2t r;refine min_two_ints (I.ok.hd hc) λh' tk k=>⟨_,H,I.kept k,?_,q⟩;by_cases hj:j < i
 ·rw[qr hj,qr hj];exact ⟨_,rfl⟩
 ·rw[qs hj,qs hj];exact ⟨_,rfl⟩
end
structure D2q (h:Heap) (x dx C:Addr) (mA:Str->Option Value):Prop where
 obj:h.get? x=some (W.instObj C dx)
 ns:h.Ns1 dx mA
 ne:dx≠x
theorem B97 {h:Heap} {dx:Addr} (n:h.Ns1 dx mA):∃ od,h.get? dx=some od/\∀ name,W.lookIn name od=some (mA name):=by
 obtain ⟨o,es,ep,ho,hd,hk,_,hm⟩:=n;refine ⟨o,ho,λname=>?_⟩;have e:=hm name;unfold nsFind findBy at e;rw[<-Array.find?_toList] at e;unfold W.lookIn;rw[hd];dsimp only;split
 ·rename_i y q;rw[q] at e;exact congrArg some e
 ·rename_i q;rw[q] at e;have a:es.toList.any (·.refKey)=false:=by
   rw[List.any_eq_false];intro y hy;obtain ⟨z,t,hkey⟩:=hk y (Array.mem_toList_iff.mp hy);simp[DictEntry.refKey,hkey]
  have a':¬ es.toList.any (·.refKey)=true:=by rw[a];exact qw
  rw[qs a'];exact congrArg some e
theorem D2q.look {h:Heap} {x dx C:Addr} (I:D2q h x dx C mA):∃ od,W.InstAt h x (W.instObj C dx) C (some od)/\∀ name,W.lookIn name od=some (mA name) :=
 let ⟨od,ho,hl⟩:=B97 I.ns
 ⟨od,⟨I.obj,rfl,rfl,ho⟩,hl⟩
section
variable {P:Program} {w:World} {H:Hp} {h:Heap} {a C dx:Addr} {fs:List (Str × V)}
theorem C7e (hok:HOk P w H h) (e:H a=some (.ins C dx fs)):∃ mA,D2q h a dx C mA/\(∀ f,D4w (fs.lookup f) (mA f))/\PySem.Within mA (fs.map (·.1))/\fs.length<=1000/\H dx=some (.own a):=by
 obtain ⟨d,z,ne,ob,mA,n,r,q⟩:=(show P7 P w H h a (.ins C dx fs) from hok a _ e);exact ⟨mA,⟨ob,n,ne⟩,r,q,z,d⟩
end
structure Cls (K:W.Frag) (C:Addr):Prop where
 pg:W.plainGet K C Str.empty=true
 hd:W.hasDictIn K C=true
 po:W.plainOver K C=true
 sa:W.findIn K (.ref C) "__setattr__"=some (some (.builtin "object.__setattr__"))
theorem Cls.get {K:W.Frag} {C:Addr} (c:Cls K C) (f:Str):W.plainGet K C f=true:=c.pg
section
variable {X:Cx} {pins:List (Addr × Obj)} {U:St} {H:Hp} {s:Shared} {A:Around} {E:Value->Shared->Prop} {Q:Value->Shared->Prop} {c:Value} {b:Bool}
inductive A5g (K:W.Frag) (H:Hp):V->Value->Prop where
 | non:A5g K H .non (.type "NoneType")
 | bl (x:Bool):A5g K H (.bl x) (.type "bool")
 | int (i:Int):A5g K H (.int i) (.type "int")
 | str (x:Str):A5g K H (.str x) (.type "str")
 | flt (x:UInt64):A5g K H (.flt x) (.type "float")
 | lst {a:Addr} {xs:List V} (e:H a=some (.lst xs)):A5g K H (.ref a) (.type "list")
 | frz {a:Addr} {o:Obj} {xs:List V} (e:H a=some (.frz o (.lst xs))):A5g K H (.ref a) (.type "list")
 | tup {a:Addr} {xs:List V} (e:H a=some (.tup xs)):A5g K H (.ref a) (.type "tuple")
 | dK {a:Addr} {kvs:List (Key × V)} (e:H a=some (.dK kvs)):A5g K H (.ref a) (.type "dict")
 | dT {a:Addr} {kvs:List (List Key × V)} (e:H a=some (.dT kvs)):A5g K H (.ref a) (.type "dict")
 | ins {a C dx:Addr} {fs:List (Str × V)} (e:H a=some (.ins C dx fs)) (cl:Cls K C) (ha:W.findIn K (.ref C) "__class__"=some (some (.builtin "object.__class__")))
   (hn:W.specialIn K (.builtin "object.__class__") "__get__"=some (some (.builtin "getset_descriptor.__get__"))) (htk:W.takesIn K (.builtin "object.__class__")=some true)
   (hm:W.mroIn K C (.type "object")=some true):A5g K H (.ref a) (.ref C)
theorem A0q {x:V} {u t:Value} (I:C0 X pins U H s) (rx:G1 x u) (ty:A5g X.K H x t) (e:W.kitOne X.K t c=some b) (h:∀ tk,Q (.bool b) { s with toks:=tk }) :
  wpAny (model X.prog X.w) A (call (.builtin "isinstance") [u,c]) Q E s:=by
 cases ty with
 | non=>cases (show u=Value.none from rx);exact W.kia_one W.kitx_none I.kIn True.intro e (λz=>nomatch z) h
 | bl y=>cases (show u=Value.bool y from rx);exact W.kia_one W.kitx_bool I.kIn True.intro e (λz=>nomatch z) h
 | int i=>obtain ⟨t,q⟩:=(show ∃ t,u=Value.int i t from rx);cases q;exact W.kia_one W.kitx_int I.kIn True.intro e (λz=>nomatch z) h
 | str y=>obtain ⟨t,q⟩:=(show ∃ t,u=Value.str y t from rx);cases q;exact W.kia_one W.kitx_str I.kIn True.intro e (λz=>nomatch z) h
 | flt y=>obtain ⟨t,q⟩:=(show ∃ t,u=Value.float y t from rx);cases q;exact W.kia_one W.kitx_float I.kIn True.intro e (λz=>nomatch z) h
 | @lst a xs ea =>
  sleep 21;obtain ⟨_,_,n,_,h1⟩:=(show P7 X.prog X.w H s.heap a (.lst xs) from I.hok a _ ea);exact W.kia_one W.kitx_list I.kIn ⟨_,h1,rfl⟩ e (λz=>nomatch z) h
 | @frz a ob xs ea =>
  sleep 21;obtain ⟨_,_,_,n,_,h1⟩:=(show P7 X.prog X.w H s.heap a (.frz ob (.lst xs)) from I.hok a _ ea);exact W.kia_one W.kitx_list I.kIn ⟨_,h1,rfl⟩ e (λz=>nomatch z) h
 | @tup a xs ea =>
  sleep 21;obtain ⟨_,_,_,p⟩:=(show P7 X.prog X.w H s.heap a (.tup xs) from I.hok a _ ea);obtain ⟨o,h1,h2,_⟩:=p;exact W.kia_one W.kitx_tuple I.kIn ⟨o,h1,h2⟩ e (λz=>nomatch z) h
 | @dK a kvs ea =>
  sleep 21;obtain ⟨_,_,vs,_,p⟩:=(show P7 X.prog X.w H s.heap a (.dK kvs) from I.hok a _ ea);obtain ⟨o,es,ep,h1,h2,_⟩:=p;exact W.kia_one W.kitx_dict I.kIn ⟨o,h1,h2.1⟩ e (λz=>nomatch z) h
 | @dT a kvs ea =>
  sleep 21;obtain ⟨_,_,xs,_,o,es,ep,h1,h2,_⟩:=(show P7 X.prog X.w H s.heap a (.dT kvs) from I.hok a _ ea);exact W.kia_one W.kitx_dict I.kIn ⟨o,h1,h2.1⟩ e (λz=>nomatch z) h
 | @ins a C dx fs ea cl ha hn htk hm =>
  sleep 21;obtain ⟨mA,Oi,_⟩:=C7e I.hok ea;obtain ⟨od,J,_⟩:=Oi.look;exact W.kia_one (W.kitx_own (cl.get _) cl.hd ha hn htk hm) I.kIn J e (λz=>nomatch z) h
end
structure S0 (k:Nat) (A:Around):Prop where
 hd:A.handled=none
 dp:A.depth+3*k+5 < recursionLimit
 un:A.units+16*k+200 < cLine
 gd:A.guards=some []
theorem S0.mono {j k:Nat} {A:Around} (r:S0 k A) (h:j<=k):S0 j A:=⟨r.hd,by have:=r.dp;lia,by have:=r.un;lia,r.gd⟩
theorem S0.deeper {k:Nat} {A:Around} (r:S0 (k+1) A) (env:Env):S0 k (A.deeper env) :=
 ⟨r.hd,by have:=r.dp;show A.depth+1+3*k+5 < _;lia,by have:=r.un;show A.units+3+16*k+200 < _;lia,r.gd⟩
theorem S0.depth {k:Nat} {A:Around} (r:S0 k A):A.depth < recursionLimit:=by have:=r.dp;lia
theorem S0.units {k:Nat} {A:Around} (r:S0 k A):A.units+64 < cLine:=by have:=r.un;lia
def A77:TA:=λ_ H Q=>Q [] H
def A0j (ta:TE) (tr:TA):TA:=λU H Q=>ta U H λx H1=>tr U H1 λxs H2=>Q (x::xs) H2
section
variable {X:Cx} {e:Expr} {es:List Expr} {te:TE} {t:TA} {pos:Pos}
theorem A88:PA X [] A77:=λ_ _ _ _ H Q I h=>Calls.spliced_nil ⟨[],H,I,.nil,h⟩
theorem A2k (ha:PE X e te) (hr:PA X es t) (hs:starEach (e::es) X.env=(false,eval e X.env)::starEach es X.env:=by rfl):PA X (e::es) (A0j te t):=by
 intro pos pins s U H Q I h;rw[hs];show wpAny _ _ (spliced ((false,eval e X.env)::backTo pos (starEach es X.env))) _ _ s;refine Calls.spliced_cons (J9 (ha pins s U H _ I h) λu s1 ⟨x,H1,I1,r1,q1⟩=>?_);exact J9 (hr pos pins s1 U H1 _ I1 q1) λus s2 ⟨xs,H2,I2,r2,q2⟩=>⟨x::xs,H2,I2,.cons r1 r2,q2⟩
def D3e (t:TA):TE:=λU H Q=>t U H λxs H1=>xs.length<=sizeLine/\∀ p,H1 p=none->Q (.ref p) (E5 H1 p (.tup xs))
def D1c (t:TA):TE:=λU H Q=>t U H λxs H1=>xs.length<=sizeLine/\∀ p,H1 p=none->Q (.ref p) (E5 H1 p (.lst xs))
theorem D1j {x1} (h:PA X es t):PE X (.Tuple es x1 pos) (D3e t):=by
 intro pins s U H Q I hq;refine wpAny_Tuple_spliced (J9 (h pos pins s U H _ I hq) λus s1 ⟨xs,H1,I1,r,z,q⟩=>⟨by rw[<-r.length];exact z,?_⟩);have hf:H1 s1.heap.objs.size=none:=I1.hok.fresh (qt _);refine ⟨.ref s1.heap.objs.size,E5 H1 s1.heap.objs.size (.tup xs),I1.laid (t':=s1.toks) (λb u e=>qc _ e) (qt _) ?_,rfl,q _ hf⟩;exact ⟨z,us,r,⟨_,qq _ rfl,rfl,_,rfl⟩⟩
theorem D0c (h:PA X es t):PE X (.List es pos) (D1c t):=by
 intro pins s U H Q I hq;refine wpAny_List_spliced (J9 (h pos pins s U H _ I hq) λus s1 ⟨xs,H1,I1,r,z,q⟩=>⟨by rw[<-r.length];exact z,?_⟩);have hf:H1 s1.heap.objs.size=none:=I1.hok.fresh (qt _);refine ⟨.ref s1.heap.objs.size,E5 H1 s1.heap.objs.size (.lst xs),I1.laid (t':=s1.toks) (λb u e=>qc _ e) (qt _) ?_,rfl,q _ hf⟩;exact ⟨z,us,0,r,qq _ rfl⟩
end
abbrev Sp:=List V->Hp->VK->XK->Prop
abbrev CXT:=List Env->Hp->Shared->XK->Value->Shared->Prop
structure B31 (P:Program) (w:World) (K:W.Frag) (mg:Str->Option Value) (base:Heap) (A:Around) (outer:List Env) (s:Shared) (H:Hp):Prop where
 frames:A.frames=some outer
 mod:Mod K mg base
 bs:∀ b o,base.get? b=some o->s.heap.get? b=some o/\H b=none
 bsz:base.objs.size<=s.heap.objs.size
 funs:s.heap.FunFrames base outer
 frf:∀ b∈frs outer,H b=none
 hok:HOk P w H s.heap
 bare:AllBare s.gens
def CE (outer:List Env) (P:Program) (w:World) (H:Hp) (s:Shared) (Q:VK) (u:Value) (s':Shared):Prop :=
 ∃ v H',s'.os=s.os/\AllBare s'.gens/\Un (frs outer) [] H H' s.heap s'.heap/\HOk P w H' s'.heap/\G1 v u/\Q v H'
def CR (CX:CXT) (outer:List Env) (P:Program) (w:World) (H:Hp) (s:Shared) (Q:VK) (E:XK) (r:Result) (s':Shared):Prop :=
 match r with
 | .ok (.ret u)=>CE outer P w H s Q u s'
 | .ok _=>False
 | .error e=>CX outer H s E e s'
structure J5 (P:Program) (w:World) (K:W.Frag) (mg:Str->Option Value) (base:Heap) (CX:CXT) (k:Nat) (f:Addr) (fd:FuncData) (ps:List Str) (sp:Sp):Prop where
 len:∀ vs H Q E,sp vs H Q E->vs.length=ps.length
 run:∀ (A:Around) (outer:List Env) (s:Shared) (H:Hp) (args:Args) (us:List Value) (vs:List V) (Q:VK) (E:XK),S0 k A->B31 P w K mg base A outer s H->BindsTo s fd args (ps.zip us)->D7 vs us->sp vs H Q E ->
  codeAny (model P w) A (.call (.ref f) args) (CR CX outer P w H s Q E) s
variable {CX:CXT}
theorem J5.imp {w:World} {K:W.Frag} {mg:Str->Option Value} {base:Heap} {k:Nat} {f:Addr} {ps:List Str} {sp sp':Sp} (F:J5 P w K mg base CX k f fd ps sp)
  (h:∀ vs H Q E,sp' vs H Q E->sp vs H Q E):J5 P w K mg base CX k f fd ps sp' :=
 ⟨λvs H Q E q=>F.len vs H Q E (h _ _ _ _ q),λA outer s H args us vs Q E hr he hb hv hs=>F.run A outer s H args us vs Q E hr he hb hv (h _ _ _ _ hs)⟩
section
variable {X:Cx} {pins:List (Addr × Obj)} {U:St} {H:Hp} {s s':Shared}
theorem C0.env0 (I:C0 X pins U H s):B31 X.prog X.w X.K X.mg X.base X.A X.stack s H :=
 ⟨I.ok.frames,I.ok.mod,I.bs,zq I.ok.bsz I.sz,I.stack,I.stkFree,I.hok,I.bare⟩
theorem C0.after {Q:VK} {u:Value} (I:C0 X pins U H s) (h:CE X.stack X.prog X.w H s Q u s'):EP X pins U Q u s':=by
 obtain ⟨v,H',os,bare,un,hok,r,q⟩:=h;obtain ⟨hh,g,d,t,os'⟩:=s';obtain rfl:os'=s.os:=os;exact ⟨v,H',I.call (h':=hh) (g':=g) (d':=d) (t':=t) (ch:=[]) un hok bare (λb z=>absurd z (by simp)),r,q⟩
end
def A90 (sp:Sp) (dvs:List V) (E:XK) (t:TA):TE:=λU H Q=>t U H λvs H1=>sp (vs++dvs) H1 Q E
def A5n (K:W.Frag) (fd:FuncData) (ps:List Str) (ds:List Value):Prop :=
 ∀ (s:Shared) (us:List Value),K.In s.heap->(us++ds).length=ps.length->BindsTo s fd ⟨us,[]⟩ (ps.zip (us++ds))
theorem A5n.all {K:W.Frag} {ps:List Str} (h:∀ us:List Value,us.length=ps.length->bindArgs fd ⟨us,[]⟩=pure (ps.zip us)):A5n K fd ps []:=λs us _ hl=>by
 rw[append_nil] at hl ⊢;exact .of_eq (h us hl)
def A21 (CX:CXT) (X:Cx) (E:XK):Prop:=∀ (pins:List (Addr × Obj)) (U:St) (H:Hp) (s:Shared) (e:Value) (s':Shared),C0 X pins U H s->CX X.stack H s E e s'->X.xe e s'
section
variable {X:Cx} {CX:CXT} {k:Nat} {f:Addr} {fd:FuncData} {ps:List Str} {sp:L2.Sp} {dvs:List V} {ds:List Value} {E:XK} {x:Str} {p pos:Pos} {e:Expr} {es:List Expr} {t:TA}
theorem D1f {Q:VK} (F:J5 X.prog X.w X.K X.mg X.base CX k f fd ps sp) (hr:S0 k X.A) (hb:A5n X.K fd ps ds) (hd:D7 dvs ds) (hx:A21 CX X E)
  (I:C0 X pins U H s) (r:D7 vs us) (h:sp (vs++dvs) H Q E):wpAny (model X.prog X.w) X.A (call (.ref f) us) (EP X pins U Q) X.xe s:=by
 have r2:D7 (vs++dvs) (us++ds):=r.append hd;have hl:(us++ds).length=ps.length:=by rw[<-r2.length];exact F.len _ _ _ _ h
 refine wpAny_call (codeAny_mono (F.run X.A X.stack s H ⟨us,[]⟩ (us++ds) (vs++dvs) Q E hr I.env0 (hb s us I.kIn hl) r2 h) λr s' hq=>?_);cases r with
 | error e=>exact hx pins U H s e s' I hq
 | ok fl =>
  cases fl with
  | ret u=>exact I.after hq
  | next=>exact False.elim hq
  | brk=>exact False.elim hq
  | cont=>exact False.elim hq
theorem B6w (F:J5 X.prog X.w X.K X.mg X.base CX k f fd ps sp) (hr:S0 k X.A) (hg:Gl X x) (hm:X.mg x=some (.ref f)) (hk:W.keepIn X.K (.ref f)=true) (hb:A5n X.K fd ps ds) (hd:D7 dvs ds) (hx:A21 CX X E)
  (ha:PA X (e::es) t) (hdb:noD x:=by decide) (he:stE e es X.env:=by rfl) (hpl:stB pos es X.env:=by rfl) :
  PE X (.Call (.Name x p) (e::es) [] pos) (A90 sp dvs E t):=by
 sleep 3;refine wpAny_Call_Name_kw (A2l I hg hm ?_ hdb);refine W.callWith_K (h₀:=X.base) I.ok.mod.kin hk (J9 (ha pos pins s U H _ I h) λus s1 ⟨vs,H1,I1,r,q⟩=>⟨I1.kIn,?_⟩) he hpl;exact D1f F hr hb hd hx I1 r q
end
structure C2 (N P:List Str) (sc:Scope):Prop where
 kind:sc.kind=.function
 co:sc.isCoroutine=false
 gen:sc.isGenerator=false
 nd:N.Nodup
 pre:N.take P.length=P
 par:∀ x∈P,sc.names.lookup x=some .local\/sc.names.lookup x=some .cell
 nofree:∀ y∈sc.names,y.2≠.free
theorem A9v {kindOf:Str->Option NameKind} {x:Str}:∀ {binds:List (Str × Value)} {m:Str->Option Value},(∀ v,(x,v)∉binds)->bindL kindOf binds m x=m x
 | [],_,_=>rfl
 | (n,v)::r,m,h=>by
  unfold bindL;rw[A9v λw hw=>h w (qy _ hw)];split
  ·have:x≠n:=by rintro rfl;exact h v qx
   simp[this]
  ·rfl
theorem A96 {kindOf:Str->Option NameKind} {x:Str}:∀ {binds:List (Str × Value)} {m:Str->Option Value},(∀ v,(x,v)∉binds)->bindC kindOf binds m x=m x
 | [],_,_=>rfl
 | (n,v)::r,m,h=>by
  unfold bindC;rw[A96 λw hw=>h w (qy _ hw)];split
  ·rfl
  ·have:x≠n:=by rintro rfl;exact h v qx
   simp[this]
theorem A9i {kindOf:Str->Option NameKind} {x:Str} {v:Value}:∀ {P:List Str} {vs:List Value} {i:Nat} {m:Str->Option Value},P.Nodup->P[i]?=some x->vs[i]?=some v->kindOf x=some .local ->
  bindL kindOf (P.zip vs) m x=some v
 | [],_,_,_,_,h,_,_=>by simp at h
 | _::_,[],_,_,_,_,h,_=>by simp at h
 | p::P,w::vs,0,m,nd,h1,h2,hk=>by
  simp at h1 h2;subst h1;subst h2;show bindL kindOf ((p,w)::P.zip vs) m p=_;unfold bindL;rw[A9v λv hv=>(nodup_cons.mp nd).1 (of_mem_zip hv).1,qr hk];simp
 | p::P,w::vs,i+1,m,nd,h1,h2,hk=>by
  show bindL kindOf ((p,w)::P.zip vs) m x=_;unfold bindL;exact A9i (i:=i) (nodup_cons.mp nd).2 (by simpa using h1) (by simpa using h2) hk
theorem B04 {kindOf:Str->Option NameKind} {x:Str} {v:Value}:∀ {P:List Str} {vs:List Value} {i:Nat} {m:Str->Option Value},P.Nodup->P[i]?=some x->vs[i]?=some v->kindOf x≠some .local ->
  bindC kindOf (P.zip vs) m x=some v
 | [],_,_,_,_,h,_,_=>by simp at h
 | _::_,[],_,_,_,_,h,_=>by simp at h
 | p::P,w::vs,0,m,nd,h1,h2,hk=>by
  simp at h1 h2;subst h1;subst h2;show bindC kindOf ((p,w)::P.zip vs) m p=_;unfold bindC;rw[A96 λv hv=>(nodup_cons.mp nd).1 (of_mem_zip hv).1,qs hk];simp
 | p::P,w::vs,i+1,m,nd,h1,h2,hk=>by
  show bindC kindOf ((p,w)::P.zip vs) m x=_;unfold bindC;exact B04 (i:=i) (nodup_cons.mp nd).2 (by simpa using h1) (by simpa using h2) hk
def start (N:List Str) (vs:List V):St:=vs.map some++List.replicate (N.length - vs.length) none
def A2x (CX:CXT) (P:Program) (w:World) (K:W.Frag) (mg:Str->Option Value) (base:Heap) (N:List Str) (qual:Str) (scope:Scope) (f:Addr) (cd:Value) (A:Around) (outer:List Env) (s:Shared) (H:Hp) (E:XK):Cx where
 prog:=P
 w:=w
 K:=K
 mg:=mg
 base:=base
 A:=A.deeper (envOfC qual scope s.heap.objs.size f cd)
 N:=N
 s₀:=s
 H₀:=H
 env:=envOfC qual scope s.heap.objs.size f cd
 outer:=outer
 stack:=envOfC qual scope s.heap.objs.size f cd::outer
 ex:=[]
 calm:=true
 fn:=λ_=>true
 pn:=[]
 xe:=λe s'=>wpAny (model P w) (A.deeper (envOfC qual scope s.heap.objs.size f cd)) (leaving (envOfC qual scope s.heap.objs.size f cd) e) (λ_ s''=>CX outer H s E e s'') (λe' s''=>CX outer H s E e' s'') s'
theorem B3k {sc:Scope} {n:Nat} {x:Str} (h:sc.names.lookup x=some .cell):∃ c,(cellsFrom n sc.names []).lookup x=some c:=by
 have q:=W.cellsFrom_some sc.names n [] (.inl h);exact Option.isSome_iff_exists.mp q
theorem A9u {w:World} {K:W.Frag} {mg:Str->Option Value} {base:Heap} {N ps:List Str} {f:Addr} {A:Around} {outer:List Env} {s1:Shared} {E:XK} 
  (S:C2 N ps scope) (hd:A.handled=none) (e0:B31 P w K mg base A outer s H) (hl:vs.length=ps.length) (r:D7 vs us)
  (x:InCallC s s.heap.objs.size (bindL (envOfC qual scope s.heap.objs.size f cd).kindOf (ps.zip us) λ_=>none) (cellsFrom (s.heap.objs.size+1) scope.names []) (bindC (envOfC qual scope s.heap.objs.size f cd).kindOf (ps.zip us) λ_=>none) s1) :
  C0 (A2x CX P w K mg base N qual scope f cd A outer s H E) [] (start N vs) H s1:=by
 have hpl:ps.length<=N.length:=by have:=congrArg List.length S.pre;rw[jc] at this;lia
 obtain ⟨h1,tk,rfl,hk⟩:=x.done;have noA:∀ b:Addr,b∉(A2x CX P w K mg base N qual scope f cd A outer s H E).ex:=λb z=>absurd (show b∈([]:List Addr) from z) (by simp);refine ⟨⟨e0.mod,S.kind,rfl,rfl,qt _,λy z c h1 h2=>?_,λy hy=>?_,λy c _ h=>?_,λ_=>hd,Around.frames_deeper e0.frames,.inr ⟨rfl,rfl⟩,λb z=>absurd z (noA b),e0.bs,e0.bsz,λb _ _=>noA b,λb z=>absurd z (noA b),e0.funs,e0.frf⟩,
  rfl,e0.bare,Un.kept hk,⟨_,x.toInCall.ns,λi y v h1 h2 h3=>?_⟩,λy c h=>⟨_,x.cell y c h⟩,e0.hok.fresh (qt _),λy c h=>?_,λp hp=>absurd (show p∈([]:List (Addr × Obj)) from hp) (by simp),e0.hok.kept hk,?_⟩
 ·exact name_of_addr x.apart (ja h1) (ja h2)
 ·have hy:scope.names.lookup y=some .cell\/scope.names.lookup y=some .free:=hy;rcases hy with hy|hy
  ·exact B3k hy
  ·exact absurd rfl (S.nofree _ (ja hy))
 ·exact zk (x.above y c (ja h))
 ·have hi:i < vs.length:=by
   unfold start at h2;by_cases hi:i < vs.length
   ·exact hi
   ·rw[List.getElem?_append_right (by simpa using hi)] at h2;rw[List.getElem?_replicate] at h2;split at h2<;>cases h2
  have ha:vs[i]?=some v:=by
   unfold start at h2;rw[List.getElem?_append_left (by simpa using hi),qp] at h2;cases e:vs[i]? with
   | none=>rw[e] at h2;cases h2
   | some a=>rw[e] at h2;cases h2;rfl
  obtain ⟨u,hu,rv⟩:=r.get ha;have hp:ps[i]?=some y:=by
   rw[<-S.pre,List.getElem?_take_of_lt (by lia)];exact h1
  have ndP:ps.Nodup:=by rw[<-S.pre];exact S.nd.sublist (List.take_sublist _ _)
  refine ⟨u,rv,?_⟩;rcases S.par y (zx hp) with k|k
  ·exact .inl ⟨k,A9i ndP hp hu k⟩
  ·obtain ⟨c,e⟩:=B3k (n:=s.heap.objs.size+1) k;refine .inr ⟨.inl k,c,e,?_⟩;have q:=x.cell y c e;rw[B04 ndP hp hu (by show scope.names.lookup y≠_;rw[k];decide)] at q;exact q
 ·exact e0.hok.fresh (zk (x.above y c (ja h)))
 ·unfold start;show _=N.length;rw[length_append,qk,List.length_replicate];lia
theorem C9h {w:World} {K:W.Frag} {mg:Str->Option Value} {base:Heap} {k:Nat} {f:Addr} {kV ct:Value} {an:Option Addr}
  {N ps:List Str} {sp:Sp} (lk:K.lookup f=some ⟨oc,od,.func (W.fnOf name qual params body scope dV kV doc pm an cdv ct),osl⟩) (hcd:W.codeIn K cdv qual=true) (S:C2 N ps scope)
  (len:∀ vs H Q E,sp vs H Q E->vs.length=ps.length)
  (hbody:∀ (A:Around) (outer:List Env) (s:Shared) (H:Hp) (vs:List V) (Q:VK) (E:XK),S0 k (A.deeper (envOfC qual scope s.heap.objs.size f cdv))->sp vs H Q E ->
   ∃ t,PSs (A2x CX P w K mg base N qual scope f cdv A outer s H E) body t/\t { nx:=λ_ H'=>Q .non H',rt:=Q } (start N vs) H) :
  J5 P w K mg base CX (k+1) f (W.fnOf name qual params body scope dV kV doc pm an cdv ct) ps sp:=by
 refine ⟨len,λA outer s H args us vs Q E hr e0 hb r hsp=>?_⟩;have hl:=len _ _ _ _ hsp;have KX:K.In s.heap:=e0.mod.kin.keeps λb o e=>(e0.bs b o e).1;have lim:s.heap.NoLimit:=e0.mod.nolimit.keeps λb o e=>(e0.bs b o e).1;have hkind:∀ y∈ps.zip us,scope.names.lookup y.1=some .local\/(scope.names.lookup y.1=some .cell/\((cellsFrom (s.heap.objs.size+1) scope.names []).lookup y.1).isSome=true):=λ⟨n,v⟩ hy=>by
  rcases S.par n (of_mem_zip hy).1 with q|q
  ·exact .inl q
  ·exact .inr ⟨q,W.cellsFrom_some _ _ _ (.inl q)⟩
 refine codeAny_call_function hr.depth (KX _ _ lk) rfl S.co S.gen rfl (W.codeRec_of KX hcd) (hb _ _ _ _ ?_);refine wpAny_newFunctionEnv_cells S.kind hkind λenv he s1 x=>?_;subst he;refine ⟨lim.keeps x.toInCall.keep,codeAny_func ?_⟩;obtain ⟨t,ht,hq⟩:=hbody A outer s H vs Q E (hr.deeper _) hsp;have I:C0 (A2x CX P w K mg base N qual scope f cdv A outer s H E) [] (start N vs) H s1:=A9u S hr.hd e0 hl r x;refine jd (ht [] s1 (start N vs) H _ I hq) (λfl s' hs=>?_) λe s' hs=>hs;have fin:∀ {U':St} {H':Hp} {v:V} {u:Value},C0 (A2x CX P w K mg base N qual scope f cdv A outer s H E) [] U' H' s'->G1 v u->Q v H'->CE outer P w H s Q u s' :=
  λ{U' H' v u} J rv q=>⟨v,H',J.os,J.bare,J.base,J.hok,rv,q⟩
 cases fl with
 | ret u =>
  obtain ⟨v,U',H',J,rv,q⟩:=hs;exact fin J rv q
 | next =>
  obtain ⟨U',H',J,q⟩:=hs;exact fin (v:=V.non) (u:=Value.none) J rfl q
 | brk =>
  obtain ⟨_,_,_,q⟩:=hs;exact False.elim q
 | cont =>
  obtain ⟨_,_,_,q⟩:=hs;exact False.elim q
section
variable {X:Cx} {x:Str} {p pos:Pos} {e:Expr} {es:List Expr} {t:TA} {id T:String} {r:List V->Hp->VK->Prop}
def tCB (r:List V->Hp->VK->Prop) (t:TA):TE:=λU H Q=>t U H λvs H1=>r vs H1 Q
theorem C34 (hc:R3 X (.builtin id) r) (hg:Gl X x) (hm:X.mg x=none) (hv:bootBuiltins x=some (.builtin id)) (ha:PA X (e::es) t) (hn:x≠"__name__":=by decide) (hdb:noD x:=by decide)
  (he:stE e es X.env:=by rfl) (hpl:stB pos es X.env:=by rfl):PE X (.Call (.Name x p) (e::es) [] pos) (tCB r t):=by
 sleep 3;refine wpAny_Call_Name_kw (A04 I hg hm hv ?_ hn hdb);exact PyProof.Rows.callWith_builtin1 (J9 (ha pos pins s U H _ I h) λus s1 ⟨vs,H1,I1,r1,q1⟩=>hc pins s1 U H1 vs us Q I1 r1 q1) he hpl
theorem B8u (hc:R3 X (.type T) r) (hg:Gl X x) (hm:X.mg x=none) (hv:bootBuiltins x=some (.type T)) (ha:PA X (e::es) t) (hn:x≠"__name__":=by decide) (hdb:noD x:=by decide)
  (he:stE e es X.env:=by rfl) (hpl:stB pos es X.env:=by rfl):PE X (.Call (.Name x p) (e::es) [] pos) (tCB r t):=by
 sleep 3;refine wpAny_Call_Name_kw (A04 I hg hm hv ?_ hn hdb);exact PyProof.Rows.callWith_type1 (J9 (ha pos pins s U H _ I h) λus s1 ⟨vs,H1,I1,r1,q1⟩=>hc pins s1 U H1 vs us Q I1 r1 q1) he hpl
end
end L2
namespace HT
open PySem PyProof.Rows
section
open PySem.SeqAt
open PySem.AutoSeq1 (wpAny_loadPart')
open PySem.MeetsSeq PySem.MeetsSeq2 PySem.MeetsSeq3
end
section
def sIx (n d:Nat):Option Int->Nat
 | none=>d
 | some v=>if v < 0 then (v+(n:Int)).toNat else min v.toNat n
theorem sIx_none (n d:Nat):sIx n d none=d:=rfl
theorem sIx_nat (n d k:Nat):sIx n d (some (k:Int))=min k n:=by
 show (if (k:Int) < 0 then ((k:Int)+(n:Int)).toNat else min (k:Int).toNat n)=min k n;rw[qs (by lia),Int.toNat_natCast]
end
end HT
namespace L2
abbrev TO:=St->Hp->(Option Int->Hp->Prop)->Prop
def PO (X:Cx) (e:Option Expr) (t:TO):Prop :=
 ∀ (pins:List (Addr × Obj)) (s:Shared) (U:St) (H:Hp) (Q:Option Int->Hp->Prop),C0 X pins U H s->t U H Q ->
  wpAny (model X.prog X.w) X.A (evalPart e X.env) (λu s'=>∃ o H',C0 X pins U H' s'/\IsPart u o/\Q o H') X.xe s
def A2s:TO:=λ_ H Q=>Q none H
def A9c (t:TE):TO:=λU H Q=>t U H λx H1=>∃ i,x=.int i/\Q (some i) H1
theorem A8e {ns:List Int}:∀ {us:List Value},D7 (ns.map V.int) us->IntsAre us ns:=by
 induction ns with
 | nil=>intro us r;rw[List.map_nil] at r;cases r;exact .nil
 | cons n ns ih =>
  intro us r;rw[map_cons] at r;cases r with
  | cons r1 r2 =>
   obtain ⟨t,e⟩:=r1;subst e;exact .cons n t (ih r2)
section
variable {X:Cx} {e:Expr} {te:TE} {lo hi:Option Expr} {tl th:TO} {pos p2:Pos}
theorem C6g:PO X none A2s:=by
 sleep 3;rw[evalPart_none];exact qe ⟨none,H,I,.none,h⟩
theorem C5n (h:PE X e te):PO X (some e) (A9c te):=by
 intro pins s U H Q I hw;rw[evalPart_some];refine J9 (h pins s U H _ I hw) λu s1 ⟨x,H1,I1,r1,q1⟩=>?_;obtain ⟨i,rfl,q⟩:=q1;obtain ⟨t,rfl⟩:=r1;exact ⟨some i,H1,I1,.int i t,q⟩
def SlR (X:Cx) (r:V->Option Int->Option Int->Hp->VK->Prop):Prop :=
 ∀ (pins:List (Addr × Obj)) (s:Shared) (U:St) (H:Hp) (x:V) (v vl vu:Value) (lo hi:Option Int) (sl:Addr) (Q:VK),C0 X pins U H s->G1 x v->s.heap.IsSliceOf sl vl vu .none->IsPart vl lo->IsPart vu hi->r x lo hi H Q ->
  ∃ T id,typeLookup (.type T) "__getitem__"=pure (some (.builtin id))/\s.TypeIs v T/\wpAny (model X.prog X.w) X.A (getItem v (.ref sl)) (EP X pins U Q) X.xe s
def tSl (r:V->Option Int->Option Int->Hp->VK->Prop) (te:TE) (tl th:TO):TE:=λU H Q=>te U H λx H1=>tl U H1 λl H2=>th U H2 λu H3=>r x l u H3 Q
theorem C0z {r:V->Option Int->Option Int->Hp->VK->Prop} (hr:SlR X r) (he:PE X e te) (hl:PO X lo tl) (hu:PO X hi th):PE X (.Subscript e (.Slice lo hi none p2) pos) (tSl r te tl th):=by
 sleep 3;refine Subscript_ (J9 (he pins s U H _ I h) λv s1 ⟨x,H1,I1,r1,q1⟩=>?_);refine wpAny_Slice (J9 (hl pins s1 U H1 _ I1 q1) λvl s2 ⟨l,H2,I2,pl,q2⟩=>J9 (hu pins s2 U H2 _ I2 q2) λvu s3 ⟨u,H3,I3,pu,q3⟩=>?_);rw[evalPart_none];refine qe ?_;have I4:C0 X pins U H3 { s3 with heap:=s3.heap.push { cls:=.type "slice",data:=.fields #[vl,vu,.none] } }:=I3.kept (t':=s3.toks) λb ob q=>qc _ q;obtain ⟨T,id,hT,ht,hg⟩:=hr pins { s3 with heap:=s3.heap.push { cls:=.type "slice",data:=.fields #[vl,vu,.none] } } U H3 x v vl vu l u s3.heap.objs.size Q I4 r1 (Heap.IsSliceOf.new ..) pl pu q3;show wpAny (model X.prog X.w) X.A (subscriptTail e (.Slice lo hi none p2) v (.ref s3.heap.objs.size)) (EP X pins U Q) X.xe { s3 with heap:=s3.heap.push { cls:=.type "slice",data:=.fields #[vl,vu,.none] } };exact tail_any (ops:=[.ref s3.heap.objs.size,v]) ht hT hg (by with_unfolding_all rfl)
def A6u (xs:List V) (lo hi:Option Int):List V:=(xs.drop (HT.sIx xs.length 0 lo)).take (HT.sIx xs.length xs.length hi - HT.sIx xs.length 0 lo)
theorem B3h (xs:List V) (lo hi:Option Int):(A6u xs lo hi).length<=xs.length:=by
 unfold A6u;rw[jc,length_drop];lia
end
def ixN (n:Nat) (i:Int):Option Nat:=if 0<=i then (if i < n then some i.toNat else none) else if -(n:Int)<=i then some (i+n).toNat else none
def atI {α:Type} (xs:List α) (i:Int):Option α:=(ixN xs.length i).bind λj=>xs[j]?
variable {n j:Nat} {its us:List Value} {s:Shared} {v u:Value} {xs:List V} {y:V} {A:Around} {U:St} {H:Hp}
theorem A64 {i:Int} (h:ixN n i=some j):seqIndex? i n=some j/\j < n/\-(n:Int)<=i/\i < n:=by
 unfold ixN at h;by_cases h0:0<=i
 ·rw[qr h0] at h;by_cases h1:i < n
  ·rw[qr h1] at h;have e:i.toNat=j:=zu h;exact ⟨by rw[seqIndex_of h0 h1,e],by lia,by lia,h1⟩
  ·rw[qs h1] at h;cases h
 ·rw[qs h0] at h;by_cases h1:-(n:Int)<=i
  ·rw[qr h1] at h;have e:(i+n).toNat=j:=zu h;exact ⟨by rw[seqIndex_neg (by lia) h1,e],by lia,h1,by lia⟩
  ·rw[qs h1] at h;cases h
theorem B1j {α:Type} {xs:List α} {i:Int} {v:α} (h:atI xs i=some v):∃ j,seqIndex? i xs.length=some j/\xs[j]?=some v/\j < xs.length/\-(xs.length:Int)<=i/\i < xs.length:=by
 unfold atI at h;cases e:ixN xs.length i with
 | none=>rw[e] at h;cases h
 | some j =>
  rw[e] at h;obtain ⟨h1,h2,h3,h4⟩:=A64 e;exact ⟨j,h1,h,h2,h3,h4⟩
theorem B9 {α:Type} {xs:List α} {v:α} (h:xs[j]?=some v):atI xs (j:Int)=some v:=by
 have hj:j < xs.length:=(ql.mp h).1;have e:ixN xs.length (j:Int)=some j:=by
  unfold ixN;rw[qr (by lia),qr (by lia)];simp
 unfold atI;rw[e];exact h
def A4o (b:Expr):Prop:=∀ o i,subscripted b false o i=operate [o,i] (getItem o i)
def IxR (X:Cx) (r:R2):Prop :=
 ∀ (value slice:Expr) (pins:List (Addr × Obj)) (s:Shared) (U:St) (H:Hp) (x y:V) (v u:Value) (Q:VK),C0 X pins U H s->G1 x v->G1 y u->r x y H Q ->
  subscripted slice false v u=operate [v,u] (getItem v u)->wpAny (model X.prog X.w) X.A (subscriptTail value slice v u) (EP X pins U Q) X.xe s
def MtR (X:Cx) (id:String) (r:V->List V->Hp->VK->Prop):Prop :=
 ∀ (pins:List (Addr × Obj)) (s:Shared) (U:St) (H:Hp) (x:V) (xs:List V) (v:Value) (us:List Value) (Q:VK),C0 X pins U H s->G1 x v->D7 xs us->r x xs H Q ->
  wpAny (model X.prog X.w) X.A (call (.builtin id) (v::us)) (EP X pins U Q) X.xe s
section
variable {X:Cx} {a b:Expr} {ta tb:TE} {pos:Pos}
theorem IxR.or {r r':R2} (h:IxR X r) (h':IxR X r'):IxR X (λx y H Q=>r x y H Q\/r' x y H Q):=by
 intro value slice pins s U H x y v u Q I rx ry q hs;rcases q with q|q
 ·exact h value slice pins s U H x y v u Q I rx ry q hs
 ·exact h' value slice pins s U H x y v u Q I rx ry q hs
theorem D7s {r:R2} (hr:IxR X r) (ha:PE X a ta) (hb:PE X b tb) (hs:A4o b):PE X (.Subscript a b pos) (tOp r ta tb):=by
 sleep 3;exact Subscript_ (D42 ha hb I h λv u s2 x y H2 I2 rx ry q=>hr a b pins s2 U H2 x y v u Q I2 rx ry q (hs _ _))
def C6o (K:W.Frag):R2:=λx y H Q=>∃ p xs i v,x=.ref p/\y=.int i/\E6 K H p xs/\atI xs i=some v/\Q v H
def D50 (K:W.Frag):R2:=λx y H Q=>∃ p xs i v,x=.ref p/\y=.int i/\SqT K H p xs/\atI xs i=some v/\Q v H
def D8y:R2:=λx y H Q=>∃ z i c,x=.str z/\y=.int i/\z.length<=sizeLine/\atI z.cps.toList i=some c/\Q (.str ⟨#[c]⟩) H
theorem B6x:IxR X (C6o X.K):=by
 intro value slice pins s U H x y v u Q I rx ry h hs;obtain ⟨p,xs,i,z,rfl,rfl,hq,he,q⟩:=h;cases rx;obtain ⟨t,rfl⟩:=ry;obtain ⟨its,r,pl,hz⟩:=I.list hq;obtain ⟨j,h1,h2,h3,h4,h5⟩:=B1j he;obtain ⟨w,ew,rw'⟩:=r.get h2;have hl:=r.length;have hn:=A38;have fin:EP X pins U Q w s:=⟨z,H,I,rw',q⟩;by_cases h0:0<=i
 ·have hj:i.toNat=j:=by
   rw[seqIndex_of h0 h5] at h1;exact zu h1
  exact item_listR pl.isList h0 (by lia) (by rw[hj];simpa using ew) fin hs
 ·have hj:(i+(its.toArray.size:Int)).toNat=j:=by
   rw[seqIndex_neg (by lia) h4] at h1;rw[size_toArray,<-hl];exact zu h1
  exact subscriptTail_builtinR (x:=w) pl.isList.typeIs slot_list_getitem.lookup
   (wpAny_getItem_list_neg (Q:=λr s'=>r=w/\EP X pins U Q r s') pl.isList (by lia) (by rw[size_toArray]<;>lia) (by lia) (by rw[hj];simpa using ew) ⟨rfl,fin⟩) hs
theorem D33:IxR X (D50 X.K):=by
 intro value slice pins s U H x y v u Q I rx ry h hs;obtain ⟨p,xs,i,z,rfl,rfl,hq,he,q⟩:=h;cases rx;obtain ⟨t,rfl⟩:=ry;obtain ⟨its,r,pl,hz⟩:=I.tuple hq;obtain ⟨j,h1,h2,h3,h4,h5⟩:=B1j he;obtain ⟨w,ew,rw'⟩:=r.get h2;have hl:=r.length;have hn:=A38;have fin:EP X pins U Q w s:=⟨z,H,I,rw',q⟩;exact subscriptTail_builtinR (x:=w) pl.typeIs slot_tuple_getitem.lookup
  (getItem_tuple (j:=j) (Q:=λr s'=>r=w/\EP X pins U Q r s') pl (by lia) (by lia) (by rw[size_toArray,<-hl];exact h1) (by simpa using ew) ⟨rfl,fin⟩) hs
theorem D0r:IxR X D8y:=by
 intro value slice pins s U H x y v u Q I rx ry h hs;obtain ⟨z,i,c,rfl,rfl,hz,he,q⟩:=h;sleep 7;sleep 27;obtain ⟨j,h1,h2,h3,h4,h5⟩:=B1j he;have hl:z.cps.toList.length=z.length:=by simp[Str.length]
 rw[hl] at h1 h4 h5;have hn:=A38;exact tail_any (typeIs_str s z t) slot_str_getitem.lookup (getItem_str (c:=c) (by
  have e1:decide (i < -(2 ^ 63:Int))=false:=decide_eq_false (by lia);have e2:decide (i ≥ 2 ^ 63)=false:=decide_eq_false (by lia);rw[e1,e2,Bool.or_false]) (by rw[h1];simpa using h2) ⟨.str ⟨#[c]⟩,H,I.tok _,⟨_,rfl⟩,q⟩) hs
def rIx (K:W.Frag):R2:=λx y H Q=>C6o K x y H Q\/D50 K x y H Q\/D8y x y H Q
theorem D4n:IxR X (rIx X.K):=B6x.or (D33.or D0r)
theorem B4i (its:List Value) (n j:Nat) (u:Value):Obj.mapSeq (·.setIfInBounds j u) { cls:=.type "list",data:=.seq its.toArray n }={ cls:=.type "list",data:=.seq (its.set j u).toArray n }:=by
 simp[Obj.mapSeq]
theorem C0.lst {pins:List (Addr × Obj)} {U:St} {H:Hp} {s:Shared} {p:Addr} {xs:List V} (I:C0 X pins U H s) (h:H p=some (.lst xs)) :
  ∃ (its:List Value) (n:Nat),D7 xs its/\s.heap.get? p=some { cls:=.type "list",data:=.seq its.toArray n }/\xs.length<=sizeLine:=by
 obtain ⟨z,its,n,r,e⟩:=I.hok p _ h;exact ⟨its,n,r,e,z⟩
theorem C0.lstUpd {s:Shared} {p:Addr} {ys:List V} {f:Obj->Obj} (I:C0 X pins U H s) (h:H p=some (.lst xs))
  (ho:s.heap.get? p=some { cls:=.type "list",data:=.seq its.toArray n }) (hf:f { cls:=.type "list",data:=.seq its.toArray n }={ cls:=.type "list",data:=.seq its'.toArray n' }) (r:D7 ys its') (hz:ys.length<=sizeLine) (t:Nat) :
  C0 X pins U (E5 H p (.lst ys)) { s with heap:=s.heap.update p f,toks:=t }:=by
 have e:(s.heap.update p f).get? p=some { cls:=.type "list",data:=.seq its'.toArray n' }:=by
  rw[Heap.get?_update_self f ho (by rw[hf]<;>rfl),hf]
 refine I.write (x:=p) (e:=p) (by rw[h];trivial) (.inl rfl) (λb u hb q=>(zy _ _ (Ne.symm hb)).trans q) ⟨_,e⟩ ?_;exact ⟨hz,its',n',r,e⟩
def C9o:V->V->V->Hp->(Hp->Prop)->Prop:=λo i v H Q=>∃ p xs k j,o=.ref p/\i=.int k/\H p=some (.lst xs)/\ixN xs.length k=some j/\Q (E5 H p (.lst (xs.set j v)))
theorem Q2:C1j X C9o:=by
 intro pins s U H o i v ov iv u Q I ro ri rv h;obtain ⟨p,xs,k,j,rfl,rfl,hp,hj,q⟩:=h;cases ro;obtain ⟨t,rfl⟩:=ri;obtain ⟨its,n,r,ho,hz⟩:=I.lst hp;obtain ⟨h1,h2,h3,h4⟩:=A64 hj;have hl:=r.length;have hn:=A38;have I':C0 X pins U (E5 H p (.lst (xs.set j v))) { s with heap:=s.heap.update p (Obj.mapSeq (·.setIfInBounds j u)) } :=
  I.lstUpd hp ho (B4i its n j u) (r.set rv j) (by rw[length_set];exact hz) s.toks
 by_cases h0:0<=k
 ·have hk:k.toNat=j:=by
   rw[seqIndex_of h0 h4] at h1;exact zu h1
  exact W.ki_setAt ho h0 (by lia) (by rw[size_toArray,<-hl];exact h4) (by rw[hk];exact ⟨_,I',q⟩)
 ·have hk:(k+(its.toArray.size:Int)).toNat=j:=by
   rw[seqIndex_neg (by lia) h3] at h1;rw[size_toArray,<-hl];exact zu h1
  exact W.ki_setBack ho (by lia) (by rw[size_toArray,<-hl];exact h3) (by lia) (by rw[hk];exact ⟨_,I',q⟩)
theorem B19 (lo hi:Option Int) (n:Nat):(sliceBounds lo hi none n).1=((HT.sIx n 0 lo:Nat):Int)/\(sliceBounds lo hi none n).2.1=((HT.sIx n n hi:Nat):Int)/\(sliceBounds lo hi none n).2.2=1:=by
 refine ⟨?_,?_,rfl⟩
 ·cases lo with
  | none=>simp[sliceBounds,HT.sIx]
  | some i =>
   simp only[sliceBounds,HT.sIx,Option.getD_none,show (1:Int) > 0 by decide,if_true];by_cases h:i < 0
   ·simp only[h,if_true]<;>lia
   ·simp only[h,if_false]<;>lia
 ·cases hi with
  | none=>simp[sliceBounds,HT.sIx]
  | some i =>
   simp only[sliceBounds,HT.sIx,Option.getD_none,show (1:Int) > 0 by decide,if_true];by_cases h:i < 0
   ·simp only[h,if_true]<;>lia
   ·simp only[h,if_false]<;>lia
theorem A8t (its:List Value) (lo hi:Option Int):slicePick its.toArray lo hi none=((its.drop (HT.sIx its.length 0 lo)).take (HT.sIx its.length its.length hi - HT.sIx its.length 0 lo)).toArray:=by
 obtain ⟨h1,h2,h3⟩:=B19 lo hi its.toArray.size;unfold slicePick;rw[h1,h2,h3];simp only[sliceRange_one,pick_run,size_toArray]<;>rfl
def B9a (K:W.Frag):V->Option Int->Option Int->Hp->VK->Prop:=λx lo hi H Q=>∃ a xs,x=.ref a/\E6 K H a xs/\∀ p,H p=none->Q (.ref p) (E5 H p (.lst (A6u xs lo hi)))
theorem B66:SlR X (B9a X.K):=by
 intro pins s U H x v vl vu lo hi sl Q I rx hs pl pu h;obtain ⟨a,xs,rfl,hx,q⟩:=h;cases rx;obtain ⟨its,r,ht,hz⟩:=I.list hx;have hlen:=r.length;refine ⟨"list",_,slot_list_getitem.lookup,ht.isList.typeIs,?_⟩;refine wpAny_getItem_list_slice ht.isList hs pl pu .none (by simp) ?_ (by rw[size_toArray]<;>lia);rw[A8t,<-hlen];refine ⟨.ref s.heap.objs.size,_,I.laid (t':=s.toks) (o:=.lst (A6u xs lo hi)) (λb ob q=>qc _ q) (qt _) ?_,rfl,q _ (I.hok.fresh (qt _))⟩;exact ⟨zq (B3h xs lo hi) hz,_,0,(r.drop (HT.sIx xs.length 0 lo)).take (HT.sIx xs.length xs.length hi - HT.sIx xs.length 0 lo),qq _ rfl⟩
def A31:V->Bool
 | .non=>true
 | .bl _=>true
 | .int _=>true
 | .str _=>true
 | _=>false
def eqV:V->V->Bool
 | .non,.non=>true
 | .bl a,.bl b=>a==b
 | .bl a,.int b=>(if a then 1 else 0)==b
 | .int a,.bl b=>a==(if b then 1 else 0)
 | .int a,.int b=>a==b
 | .str a,.str b=>a==b
 | _,_=>false
theorem D4m {x:V} (ry:G1 y u) (rx:G1 x v) (fy:A31 y=true) (fx:A31 x=true):SeqAt.EqAt A s u v (eqV y x):=by
 cases y with
 | non =>
  cases ry;cases x with
  | non=>cases rx;exact SeqAt.EqAt.same _
  | bl b=>cases rx;exact SeqAt.EqAt.none_bool b
  | int b=>obtain ⟨t,rfl⟩:=rx;exact SeqAt.EqAt.none_int b t
  | str b=>obtain ⟨t,rfl⟩:=rx;exact SeqAt.EqAt.none_str b t
  | _=>exact absurd (show false=true from fx) qw
 | bl a =>
  cases ry;cases x with
  | non=>cases rx;exact SeqAt.EqAt.bool_none a
  | bl b=>cases rx;exact SeqAt.EqAt.bool_bool a b
  | int b=>obtain ⟨t,rfl⟩:=rx;exact SeqAt.EqAt.bool_int a b t
  | str b=>obtain ⟨t,rfl⟩:=rx;exact SeqAt.EqAt.bool_str a b t
  | _=>exact absurd (show false=true from fx) qw
 | int a =>
  sleep 27;cases x with
  | non=>cases rx;exact SeqAt.EqAt.int_none a t'
  | bl b=>cases rx;exact SeqAt.EqAt.int_bool a t' b
  | int b=>obtain ⟨t,rfl⟩:=rx;exact SeqAt.EqAt.int_int a t' b t
  | str b=>obtain ⟨t,rfl⟩:=rx;exact SeqAt.EqAt.int_str a t' b t
  | _=>exact absurd (show false=true from fx) qw
 | str a =>
  sleep 27;cases x with
  | non=>cases rx;exact SeqAt.EqAt.str_none a t'
  | bl b=>cases rx;exact SeqAt.EqAt.str_bool a t' b
  | int b=>obtain ⟨t,rfl⟩:=rx;exact SeqAt.EqAt.str_int a t' b t
  | str b=>obtain ⟨t,rfl⟩:=rx;exact SeqAt.EqAt.str_str a t' b t
  | _=>exact absurd (show false=true from fx) qw
 | _=>exact absurd (show false=true from fy) qw
def eqU (x:V) (u:Value):Bool:=match u with
 | .none=>eqV .non x
 | .bool b=>eqV (.bl b) x
 | .int i _=>eqV (.int i) x
 | .str z _=>eqV (.str z) x
 | _=>false
theorem C0s {x:V} (r:G1 y u) (f:A31 y=true):eqU x u=eqV y x:=by
 cases y with
 | non=>cases r;rfl
 | bl b=>cases r;rfl
 | int i=>obtain ⟨t,rfl⟩:=r;rfl
 | str z=>obtain ⟨t,rfl⟩:=r;rfl
 | _=>exact absurd (show false=true from f) qw
theorem B0u {x:V}:∀ {xs:List V} {us:List Value},D7 xs us->xs.all A31=true->us.any (eqU x)=xs.any λy=>eqV y x
 | _,_,.nil,_=>rfl
 | y::xs,u::us,.cons r t,f=>by
  rw[List.all_cons,zb] at f;rw[List.any_cons,List.any_cons,C0s r f.1,B0u t f.2]
theorem A6w {x:V} (rx:G1 x v) (fx:A31 x=true):∀ {xs:List V} {us:List Value},D7 xs us->xs.all A31=true->∀ u∈us,SeqAt.EqAt A s u v (eqU x u)
 | _,_,.nil,_=>λu hu=>by cases hu
 | y::xs,u::us,.cons r t,f=>λu' hu=>by
  rw[List.all_cons,zb] at f;rcases zn.mp hu with rfl|hu
  ·rw[C0s r f.1];exact D4m r rx f.1 fx
  ·exact A6w rx fx t f.2 u' hu
def inV (x:V) (xs:List V):Bool:=xs.any λy=>eqV y x
def rIn (K:W.Frag) (neg:Bool):R2:=λx y H Q=>∃ p xs,y=.ref p/\(E6 K H p xs\/SqT K H p xs)/\A31 x=true/\xs.all A31=true/\Q (.bl (if neg then !inV x xs else inV x xs)) H
theorem B22:OpR X (compareOp .NotIn) (rIn X.K true):=by
 sleep 2;obtain ⟨p,xs,rfl,hq,fx,fs,q⟩:=h;cases ry;rcases hq with hq|hq
 ·obtain ⟨its,r,pl,hz⟩:=I.list hq;refine SeqAt.notIn_listAt (eqU x) pl.isList (λw hw=>A6w rx fx r fs w (by simpa using hw)) ⟨.bl _,H,I,rfl,?_⟩;rw[show its.toArray.any (eqU x)=its.any (eqU x) by simp,B0u r fs];exact q
 ·obtain ⟨its,r,pl,hz⟩:=I.tuple hq;refine SeqAt.notIn_tupleAt (eqU x) pl (λw hw=>A6w rx fx r fs w (by simpa using hw)) ⟨.bl _,H,I,rfl,?_⟩;rw[show its.toArray.any (eqU x)=its.any (eqU x) by simp,B0u r fs];exact q
theorem B1e:R3 X (.builtin "len") (λxs H Q=>∃ p ys,xs=[.ref p]/\(E6 X.K H p ys\/SqT X.K H p ys)/\Q (.int ys.length) H):=by
 sleep 10;obtain ⟨p,ys,rfl,hq,q⟩:=h;obtain ⟨u,rfl,rx⟩:=A5u r;cases rx;have hn:=A38;rcases hq with hq|hq
 ·obtain ⟨its,r',pl,hz⟩:=I.list hq;have hlen:=r'.length;exact Calls.call_len_list pl.isList (by simp only[size_toArray]<;>lia) ⟨.int ys.length,H,I.tok _,⟨s.toks+1,by rw[size_toArray,hlen]⟩,q⟩
 ·obtain ⟨its,r',pl,hz⟩:=I.tuple hq;have hlen:=r'.length;exact len_tuple pl (by simp only[size_toArray]<;>lia) ⟨.int ys.length,H,I.tok _,⟨s.toks+1,by rw[size_toArray,hlen]⟩,q⟩
theorem B1a:R3 X (.type "list") (λxs H Q=>∃ p ys,xs=[.ref p]/\(E6 X.K H p ys\/SqT X.K H p ys)/\∀ l,H l=none->Q (.ref l) (E5 H l (.lst ys))):=by
 sleep 10;obtain ⟨p,ys,rfl,hq,q⟩:=h;obtain ⟨u,rfl,rx⟩:=A5u r;cases rx;have fin:∀ (its:List Value),D7 ys its->ys.length<=sizeLine->∀ (h':Heap) (c':Nat),(∀ b o',s.heap.get? b=some o'->h'.get? b=some o') ->
   h'.get? s.heap.objs.size=some { cls:=.type "list",dict:=none,data:=.seq its.toArray c',slots:=#[] }->EP X pins U Q (.ref s.heap.objs.size) { s with heap:=h' }:=λits r' hz h' c' kp e =>
  ⟨.ref s.heap.objs.size,_,I.laid (t':=s.toks) kp (qt _) (show P7 X.prog X.w _ h' _ (.lst ys) from ⟨hz,its,c',r',e⟩),rfl,q _ (I.hok.fresh (qt _))⟩
 rcases hq with hq|hq
 ·obtain ⟨its,r',pl,hz⟩:=I.list hq;have hlen:=r'.length;obtain ⟨o,ho,hc,n,hd⟩:=pl.isList;exact call_list_seq p (.inl rfl) ho hc hd (λh' c' kp e=>fin its r' hz h' c' kp e) (by simp only[size_toArray]<;>lia)
 ·obtain ⟨its,r',pl,hz⟩:=I.tuple hq;have hlen:=r'.length;obtain ⟨o,ho,hc,n,hd⟩:=pl;exact call_list_seq p (.inr rfl) ho hc hd (λh' c' kp e=>fin its r' hz h' c' kp e) (by simp only[size_toArray]<;>lia)
def tyV (K:W.Frag) (T:String) (x:V) (H:Hp):Prop:=match x with
 | .str _=>T="str"
 | .int _=>T="int"
 | .ref p=>(T="list"/\∃ xs,E6 K H p xs)\/(T="tuple"/\∃ o,K.lookup p=some o/\o.cls=.type "tuple"/\o.dict=none) \/
   (T="dict"/\((∃ kvs,H p=some (.dK kvs))\/∃ kvs,H p=some (.dT kvs)))\/(T="set"/\∃ S n,H p=some (.set S n))
 | _=>False
theorem D4z {T:String} {x:V} (I:C0 X pins U H s) (r:G1 x v) (ty:tyV X.K T x H) :
  s.TypeIs v T/\∀ a,v=.ref a->∃ ob,s.heap.get? a=some ob/\ob.dict=none:=by
 cases x with
 | str z =>
  obtain ⟨t,rfl⟩:=r;cases (show T="str" from ty);exact ⟨typeIs_str s z t,λ_ e=>nomatch e⟩
 | int i =>
  obtain ⟨t,rfl⟩:=r;cases (show T="int" from ty);exact ⟨typeIs_int s i t,λ_ e=>nomatch e⟩
 | ref p =>
  cases r;rcases ty with ⟨rfl,xs,hq⟩|⟨rfl,o,hk,hc,hd⟩|⟨rfl,hk⟩|⟨rfl,S,n,hk⟩
  ·obtain ⟨its,_,pl,_⟩:=I.list hq;refine ⟨pl.isList.typeIs,λa e=>?_⟩;cases e;obtain ⟨o,n,e,c,hd,_⟩:=pl;exact ⟨o,e,hd⟩
  ·refine ⟨⟨o,I.kIn p o hk,hc⟩,λa e=>?_⟩;cases e;exact ⟨o,I.kIn _ o hk,hd⟩
  ·have z:∃ o,s.heap.get? p=some o/\o.ExactDict:=by
    rcases hk with ⟨kvs,hk⟩|⟨kvs,hk⟩
    ·obtain ⟨_,_,_,_,o,_,_,e,ex,_⟩:=I.hok p _ hk;exact ⟨o,e,ex⟩
    ·obtain ⟨_,_,_,_,o,_,_,e,ex,_⟩:=I.hok p _ hk;exact ⟨o,e,ex⟩
   obtain ⟨o,e,ex⟩:=z;refine ⟨⟨o,e,ex.1⟩,λa e2=>?_⟩;cases e2;exact ⟨o,e,ex.2.1⟩
  ·obtain ⟨o,_,_,_,e,ex,_⟩:=I.hok p _ hk;refine ⟨⟨o,e,ex.1⟩,λa e2=>?_⟩;cases e2;exact ⟨o,e,ex.2.1⟩
 | _=>exact False.elim ty
def E1q (K:W.Frag) (T:String) (r:V->List V->Hp->VK->Prop) (to:TE):TE:=λU H Q=>to U H λx H1=>tyV K T x H1/\r x [] H1 Q
def tBM (K:W.Frag) (T:String) (r:V->List V->Hp->VK->Prop) (to:TE) (t:TA):TE:=λU H Q=>to U H λx H1=>tyV K T x H1/\t U H1 λxs H2=>r x xs H2 Q
variable {o e:Expr} {es:List Expr} {to:TE} {t:TA} {name:Str} {apos cpos:Pos} {T id:String} {r:V->List V->Hp->VK->Prop}
theorem B80 (pa:PlainAttrs T) (slot:Slot T name id) (hty:typeOf (.builtin id)=pure (.type "method_descriptor")) (hm:MtR X id r) (ho:PE X o to) (ha:PA X (e::es) t)
  (hbase:attributeBase o name X.env (eval o X.env)=eval o X.env:=by rfl)
  (hfew:((backTo cpos (starEach (e::es) X.env)).all (λx=>!x.1)&&(backToKw cpos (keywordEach [] X.env)).all (λx=>x.1.isSome)
   && decide ((e::es).length+([]:List Keyword).length+(if ([]:List Keyword).isEmpty then 0 else 1) < 30))=true:=by rfl)
  (hline:(apos.endLine==cpos.line)=true:=by rfl) (hs:starEach (e::es) X.env=(false,eval e X.env)::starEach es X.env:=by rfl) (hplain:(backTo cpos (starEach es X.env)).any (·.1)=false:=by rfl) :
  PE X (.Call (.Attribute o name apos) (e::es) [] cpos) (tBM X.K T r to t):=by
 sleep 3;refine wpAny_Call_method_late hbase hfew hline rfl (J9 (ho pins s U H _ I h) λv s1 ⟨x,H1,I1,r1,ty,q1⟩=>?_);obtain ⟨h1,h2⟩:=D4z I1 r1 ty;refine ⟨T,id,pa,slot,hty,h1,h2,?_⟩;have hA:=ha cpos pins s1 U H1 _ I1 q1;rw[hs] at hA ⊢;refine Calls.callWith_builtin (by show (false||(backTo cpos (starEach es X.env)).any (·.1))=false;rw[hplain]<;>rfl) (Calls.evalArgs_plain ?_);exact J9 hA λus s2 ⟨vs,H2,I2,r2,q2⟩=>hm pins s2 U H2 x vs v us Q I2 r1 r2 q2
/- xs.append(e),list.index on a module's tuple .. are MtR facts of 06m -/
end
def MtM (X:Cx) (id:String) (r:V->List V->Hp->VK->Prop):Prop :=
 ∀ (pins:List (Addr × Obj)) (s:Shared) (U:St) (H:Hp) (x:V) (xs:List V) (v:Value) (us:List Value) (Q:VK),C0 X pins U H s->G1 x v->D7 xs us->r x xs H Q ->
  wpAny (model X.prog X.w) X.A (call (.builtin id) (v::us)) (EP X pins U Q) X.xe s
theorem D7.one {x:V} (h:D7 [x] us):∃ u,us=[u]/\G1 x u:=by
 cases h with
 | cons r q=>cases q;exact ⟨_,rfl,r⟩
theorem D7.two {x:V} (h:D7 [x,y] us):∃ u v,us=[u,v]/\G1 x u/\G1 y v:=by
 cases h with
 | cons r q =>
  obtain ⟨u,e,s⟩:=D7.one q;subst e;exact ⟨_,_,rfl,r,s⟩
theorem D7.eraseIdx:∀ {xs:List V} {us:List Value} (i:Nat),D7 xs us->D7 (xs.eraseIdx i) (us.eraseIdx i)
 | _,_,_,.nil=>.nil
 | _,_,0,.cons _ t=>t
 | _,_,i+1,.cons r t=>.cons r (D7.eraseIdx i t)
theorem D7.rep (h:D7 xs us):∀ k:Nat,D7 (List.replicate k xs).flatten (List.replicate k us).flatten
 | 0=>.nil
 | k+1=>by
  rw[replicate_succ,replicate_succ,List.flatten_cons,List.flatten_cons];exact D7.append h (D7.rep h k)
theorem A9n {α:Type}:∀ (l:List α) (i:Nat),(l.eraseIdx i).length<=l.length
 | [],_=>qt _
 | _::_,0=>Nat.le_succ _
 | _::r,i+1=>Nat.succ_le_succ (A9n r i)
theorem A9r (its:List Value):∀ (k:Nat) (acc:List Value),
  List.foldl (λx1 x2=>x1++x2) acc.toArray (List.replicate k its.toArray)=(acc++(List.replicate k its).flatten).toArray
 | 0,acc=>by simp
 | k+1,acc=>by
  have e:acc.toArray++its.toArray=(acc++its).toArray:=by simp
  have e2:(acc++its)++(List.replicate k its).flatten=acc++(List.replicate (k+1) its).flatten:=by
   rw[replicate_succ,List.flatten_cons,append_assoc]
  rw[<-e2,<-A9r its k (acc++its),<-e,replicate_succ,List.foldl_cons]
section
variable {X:Cx} {pins:List (Addr × Obj)} {U:St} {H:Hp} {s:Shared} {l:Addr} {xs ys:List V}
theorem C0.lset {f:Array Value->Array Value} (I:C0 X pins U H s) (hH:H l=some (.lst xs))
  (e:s.heap.get? l=some { cls:=.type "list",data:=.seq its.toArray n }) (hf:f its.toArray=its'.toArray) (hv:D7 ys its') (hz:ys.length<=sizeLine) :
  C0 X pins U (E5 H l (.lst ys)) { s with heap:=s.heap.update l (Obj.mapSeq f),toks:=t' }:=by
 have q:=PySem.IsL.update e f;rw[hf] at q;refine I.write (x:=l) (e:=l) (by rw[hH];exact trivial) (.inl rfl) (λb' u hb hu=>(zy s.heap (Obj.mapSeq f) (Ne.symm hb)).trans hu) ⟨_,q⟩ ?_;exact ⟨hz,its',_,hv,q⟩
theorem C0.lnew (I:C0 X pins U H s) (hv:D7 ys its) (hz:ys.length<=sizeLine) :
  C0 X pins U (E5 H s.heap.objs.size (.lst ys)) { s with heap:=s.heap.push { cls:=.type "list",data:=.seq its.toArray },toks:=t' } :=
 I.laid (λ_ _ q=>qc _ q) (qt _) ⟨hz,its,0,hv,qq _ rfl⟩
theorem C0.fresh (I:C0 X pins U H s):H s.heap.objs.size=none:=I.hok.fresh (qt _)
theorem C0.lstM (I:C0 X pins U H s) (hH:H l=some (.lst xs)):xs.length<=sizeLine/\∃ (its:List Value) (n:Nat),D7 xs its/\xs.length=its.length/\s.heap.get? l=some { cls:=.type "list",data:=.seq its.toArray n }:=by
 obtain ⟨z,its,n,r,e⟩:=I.hok l _ hH;exact ⟨z,its,n,r,r.length,e⟩
theorem B37 (h:n<=sizeLine):Builtin.List.listTooLong n=false:=by
 unfold Builtin.List.listTooLong;exact decide_eq_false (by lia)
end
section
variable {X:Cx}
def A46:V->List V->Hp->VK->Prop:=λx vs H Q=>∃ l xs y,x=.ref l/\vs=[y]/\H l=some (.lst xs)/\xs.length < sizeLine/\Q .non (E5 H l (.lst (xs++[y])))
theorem B05:MtM X "list.append" A46:=by
 intro pins s U H x vs v us Q I rx rv h;obtain ⟨l,xs,y,rfl,rfl,hH,hz,q⟩:=h;cases rx;obtain ⟨u,rfl,ru⟩:=rv.one;sleep 31;refine call_meets F.slot_list_append ⟨_,e,rfl⟩ F.entry_list_append (F.args_list_append_2 _ _) (PySem.list_append l its.toArray n u (by rw[size_toArray];lia)) ⟨e,?_⟩;refine ⟨.non,_,I.lset (its':=its++[u]) hH e (by simp) (r.append (.cons ru .nil)) ?_,rfl,q⟩;rw[length_append,List.length_singleton];lia
def C69:V->List V->Hp->VK->Prop:=λx vs H Q=>∃ l b xs zs,x=.ref l/\vs=[.ref b]/\H l=some (.lst xs)/\H b=some (.lst zs)/\xs.length+zs.length<=sizeLine/\Q .non (E5 H l (.lst (xs++zs)))
def A5a:V->List V->Hp->VK->Prop:=λx vs H Q=>∃ l xs i k y,x=.ref l/\vs=[.int i]/\H l=some (.lst xs)/\-(2 ^ 63)<=i/\i < 2 ^ 63/\seqIndex? i xs.length=some k/\xs[k]?=some y/\Q y (E5 H l (.lst (xs.eraseIdx k)))
theorem C0q:MtM X "list.pop" A5a:=by
 intro pins s U H x vs v us Q I rx rv h;obtain ⟨l,xs,i,k,y,rfl,rfl,hH,h1,h2,hk,hy,q⟩:=h;cases rx;obtain ⟨u,rfl,ru⟩:=rv.one;obtain ⟨t,rfl⟩:=ru;sleep 31;obtain ⟨w,hw,rw'⟩:=r.get hy;refine call_meets F.slot_list_pop ⟨_,e,rfl⟩ F.entry_list_pop (F.args_list_pop_2 _ _)
  (MeetsSeq.list_pop_at l its.toArray n i t k w (fitsIndex_both h1 h2) (by rw[size_toArray,<-hl];exact hk) (by rw[<-zp];exact hw) (by rw[size_toArray];lia)) ⟨e,?_⟩
 refine ⟨y,_,I.lset (its':=its.eraseIdx k) hH e ?_ (r.eraseIdx k) ?_,rw',q⟩
 ·show its.toArray.eraseIdxIfInBounds k=(its.eraseIdx k).toArray;rw[List.eraseIdxIfInBounds_toArray]
 ·have:=A9n xs k;lia
def C1e:V->List V->Hp->VK->Prop:=λx vs H Q=>∃ l xs,x=.ref l/\vs=[]/\H l=some (.lst xs)/\Q .non (E5 H l (.lst xs.reverse))
def D2p:R2:=λx y H Q=>∃ l b xs zs,x=.ref l/\y=.ref b/\H l=some (.lst xs)/\H b=some (.lst zs)/\xs.length+zs.length<=sizeLine/\∀ p,H p=none->Q (.ref p) (E5 H p (.lst (xs++zs)))
theorem B5e:OpR X (binaryOp .Add) D2p:=by
 sleep 2;obtain ⟨l,b,xs,zs,rfl,rfl,hH,hB,hz,q⟩:=h;cases rx;cases ry;sleep 31;obtain ⟨z2,its2,n2,r2,hl2,e2⟩:=I.lstM hB;refine PySem.P.add_list e e2 ?_ (by rw[size_toArray,size_toArray];lia);have ea:its.toArray++its2.toArray=(its++its2).toArray:=by simp
 rw[ea];exact ⟨.ref _,_,I.lnew (t':=s.toks) (r.append r2) (by rw[length_append];lia),rfl,q _ I.fresh⟩
def D94:R2:=λx y H Q=>∃ l k xs,x=.ref l/\y=.int k/\H l=some (.lst xs)/\-(2 ^ 63)<=k/\k < 2 ^ 63/\xs.length*k.toNat<=sizeLine /\
 ∀ p,H p=none->Q (.ref p) (E5 H p (.lst (List.replicate k.toNat xs).flatten))
theorem C85 {α:Type} (xs:List α) (k:Nat):(List.replicate k xs).flatten.length=k*xs.length:=by
 induction k with
 | zero=>simp
 | succ k ih=>rw[replicate_succ,List.flatten_cons,length_append,ih,Nat.succ_mul,Nat.add_comm]
theorem D27:OpR X (binaryOp .Mult) D94:=by
 sleep 2;obtain ⟨l,k,xs,rfl,rfl,hH,h1,h2,hz,q⟩:=h;cases rx;obtain ⟨t,rfl⟩:=ry;sleep 31;have hlen:its.toArray.size*k.toNat<=sizeLine:=by rw[size_toArray,<-hl];exact hz
 have hcap:¬ its.toArray.size*k.toNat > (2 ^ 63 - 1) / 8:=by
  have:(sizeLine:Nat)<=(2 ^ 63 - 1) / 8:=by decide
  lia
 have hfit:¬ (!Builtin.List.listFitsIndex k)=true:=by
  rw[fitsIndex_both h1 h2];exact qw
 have hlong:¬ Builtin.List.listTooLong (its.toArray.size*k.toNat)=true:=by
  rw[B37 hlen];exact qw
 have hnew:List.foldl (λx1 x2=>x1++x2) #[] (List.replicate (if its.toArray.isEmpty=true then 0 else k.toNat) its.toArray)=(List.replicate k.toNat its).flatten.toArray:=by
  have f0:∀ m:Nat,List.foldl (λx1 x2=>x1++x2) #[] (List.replicate m its.toArray)=(List.replicate m its).flatten.toArray:=λm=>by
   have:=A9r its m [];rw[nil_append] at this;exact this
  rw[f0];cases its with
  | nil=>simp
  | cons a r'=>rw[qs (by simp)]
 refine wpAny_binaryOp_repeat_ref (T:="list") (U:="int") (by decide) ⟨_,e,rfl⟩ (λs'=>typeIs_int s' k t) noFill_list_mul F.fills_int_mul F.slot_int_rmul repeat_list F.slot_int_index.lookup
  (call_meets F.slot_int_rmul (typeIs_int s k t) F.entry_int_rmul (F.args_int_rmul_2 _ _) (int___rmul___int_list k t l its.toArray n)
   ⟨e,rfl,⟨_,e,rfl⟩,call_meets F.slot_list_mul ⟨_,e,rfl⟩ F.entry_list_mul (F.args_list_mul_2 _ _) (AutoListH.list___mul___list_int_3 l its.toArray n k t hfit hcap hlong) ⟨e,?_⟩⟩)
 rw[hnew];exact ⟨.ref _,_,I.lnew (t':=s.toks) (r.rep k.toNat) (by rw[C85,Nat.mul_comm];exact hz),rfl,q _ I.fresh⟩
end
end L2
namespace Att
open PySem PySem.W PySem.Calls PyProof.Rows
theorem A5w {P:Params} {h:Heap}:∀ (ns:List Int) (vs:List Value),WellAll P h vs (ns.map WData.int)->IntsAre vs ns:=by
 intro ns
 induction ns with
 | nil =>
  intro vs w;rw[List.map_nil] at w;cases w;exact .nil
 | cons n ns ih =>
  intro vs w;rw[map_cons] at w;cases w with
  | cons a b =>
   cases a;exact .cons _ _ (ih _ b)
variable {l:OpenLaw} {n:Nat}
theorem B8v (hn:l.most=some n) {P:Params} {h:Heap} {args:List WData} {vals:List Value}
  (hpre:l.row.toRowW.claim.pre args=true) (hwl:WellAll P h vals args) :
  ∃ a vs ns,vals=[Value.ref a]/\args=[WData.list (ns.map WData.int)]/\h.get? a=some { cls:=.type "list",data:=.seq vs.toArray }/\IntsAre vs ns/\ns.length<=n:=by
 have hsh:WShape.hasAll [] args [.list .int]=true:=(pre_splitW hpre).1;have hc:l.pre.holds [] { args:=args }=true:=(pre_splitW hpre).2;obtain ⟨d,r,rfl,h1,h2⟩:=hasAllW_cons hsh;obtain rfl:=hasAllW_nil h2;obtain ⟨xs,rfl,h3⟩:=hasW_list h1;obtain ⟨ns,rfl⟩:=items_int h3;have hlen:ns.length<=n:=by
  unfold OpenLaw.pre at hc;have h4:(WTm.not (.lt (.lit (.int (n:Int))) (.len (.arg 0)))).holds [] { args:=[.list (ns.map .int)] }=true:=by
   have h4:=(holds_andW hc).1;rw[hn] at h4;exact h4
  have h5:=condW_of h4 (w_not (w_lt w_lit (w_len_list (w_arg rfl))));rw[qk] at h5;refine Nat.le_of_not_lt λq=>?_;have q':(n:Int) < ((ns.length:Nat):Int):=by lia
  first
   | (rw[decide_eq_true q'] at h5;exact absurd h5 (by decide))
   | (simp at h5;lia)
 cases hwl with
 | cons w1 w2 =>
  cases w2;cases w1 with
  | list ho hall=>exact ⟨_,_,ns,rfl,rfl,ho,A5w ns _ hall,hlen⟩
theorem B9s (l:OpenLaw) (args:List WData):l.row.toRowW.claim.post args (.bool true) args=true :=
 postW_of (r:=l.row.toRowW) (X:=(true==true))
  (show WShape.has [] (.bool true) .bool=true by first|rfl|decide|simp[WShape.has,WShape.arms,WShape.armsAll])
  (show (WTm.eq .res (.lit (.bool true))).value [] { args:=args,res:=some (.bool true),after:=args }=some (.bool (true==true)) from w_eq_bool (w_res rfl) w_lit) rfl
theorem attach_call {q:Program} {d:DefRec}
  (hn:l.most=some n) (hdf:d.params.defaults=[])
  (call:∀ (w:World) (s₀ s₁:Shared) (mg mb:Str->Option Value) (fa:Addr) (o:Obj) (pm cd doc:Value) (a:Addr) (vs:List Value) (ns:List Int),
   Ground q loose [] XP w s₀ mg mb s₁.heap->YP w s₁.heap ->
   s₁.heap.get? fa=some o->o.data=.func (docDef d.name d.params d.body d.scope pm cd doc)->s₁.heap.CodeRec cd d.name->mg d.name=some (.ref fa) ->
   s₁.heap.get? a=some { cls:=.type "list",data:=.seq vs.toArray }->IntsAre vs ns->ns.length<=n->s₁.gens=#[] ->
   codeAny (model l.prog w) callerA (.call (.ref fa) ⟨[.ref a],[]⟩) (λr s'=>r=.ok (.ret (.bool true))/\OldK s₁.heap s'.heap/\s'.os=s₁.os/\AllBare s'.gens) s₁) :
  WalkO q loose XP YP l.row.toRowW d [] (λf vs=>PySem.call f vs):=by
 intro w s₀ s₁ mg mb G Y fa o pm cd doc dV kV ho hd hcd hD hmg hg args vals as hpre hlay hrd hwl hlo;obtain rfl:dV=.none:=Dflts.none hD hdf;obtain rfl:kV=.none:=Dflts.noKw hD;obtain ⟨a,vs,ns,rfl,rfl,hobj,hints,hlen⟩:=B8v hn hpre hwl;refine enter_call (codeAny_mono (call w s₀ s₁ mg mb fa o pm cd doc a vs ns G Y ho (fd_plain hd) hcd hmg hobj hints hlen hg) λr s' hq=>?_);obtain ⟨rfl,h2,h3,h4⟩:=hq;exact ⟨.inl ⟨.bool true,.bool true,[],rfl,λ_=>rfl,.bool true,B9s l _,λ_=>⟨List.Pairwise.nil,λ_ hm=>(nomatch hm)⟩⟩,h2,h3,h4⟩
end Att
variable {H1 H2 H0 Hs F0 Hm:Hp} {sp:L2.Sp} {wi:TI} {ti tc:TT} {t2:TE} {ws Oi:List V} {En:V0} {u2 v2:V}
namespace L2
theorem B07:∀ {vs:List Value} {ns:List Int},IntsAre vs ns->D7 (ns.map V.int) vs
 | _,_,.nil=>.nil
 | _,_,.cons n t h=>.cons ⟨t,rfl⟩ (B07 h)
def D4l (H:Hp):Prop:=∀ b,H b=none\/∃ o xs,H b=some (.frz o (.lst xs))
variable {k:Nat} {K:W.Frag} {qual:Str} {st:Stmt} {f:Addr} {H H':Hp}
theorem C0n {w:World} {mg mb:Str->Option Value} {CX:CXT} {a:Addr} {x:Str} {s₁:Shared} {vs:List Value} {ns:List Int}
  (KX:K.In s₁.heap) (hns:s₁.heap.Ns mainGlobals mg) (hb:s₁.heap.Ns builtinsNs mb) (hbb:∀ x:Str,x≠"__name__"->mb x=bootBuiltins x) (hlim:s₁.heap.NoLimit) (hse:s₁.heap.NoSeer) (hg:s₁.gens=#[])
  (ha:s₁.heap.get? a=some { cls:=.type "list",data:=.seq vs.toArray }) (hi:IntsAre vs ns) (hl:ns.length<=sizeLine) (hr:S0 k callerA)
  (F:∀ base:Heap,K.In base->base.Ns mainGlobals mg->J5 P w K mg base CX k fa fd [x] sp) (hbind:∀ (s:Shared) (u:Value),BindsTo s fd ⟨[u],[]⟩ [(x,u)])
  (hsp:∀ H:Hp,D4l H->E6 K H a (ns.map V.int)->sp [.ref a] H (λv _=>v=.bl true) λ_ _ _=>False)
  (hCX:∀ H e s',CX [] H s₁ (λ_ _ _=>False) e s'->False) :
  codeAny (model P w) callerA (.call (.ref fa) ⟨[.ref a],[]⟩) (λr s'=>r=.ok (.ret (.bool true))/\OldK s₁.heap s'.heap/\s'.os=s₁.os/\AllBare s'.gens) s₁:=by
 have rv:=B07 hi;have lenV:=hi.length;have core:∀ H:Hp,D4l H->E6 K H a (ns.map V.int)->HOk P w H s₁.heap->(∀ b,H b≠none->b=a)->(H a≠none->K.lookup a=none) ->
   codeAny (model P w) callerA (.call (.ref fa) ⟨[.ref a],[]⟩) (λr s'=>r=.ok (.ret (.bool true))/\OldK s₁.heap s'.heap/\s'.os=s₁.os/\AllBare s'.gens) s₁:=by
  intro H hO hS hok hA hK;have base_of:∀ {b:Addr} {o:Obj},s₁.heap.get? b=some o->H b=none->(A8p s₁.heap H).get? b=some o:=λe n=>C3b e n;have noA:∀ {b:Addr} {o:Obj} {es:Array DictEntry} {ep:Nat},s₁.heap.get? b=some o->o.data=.dict es ep->H b=none:=λ{b o es ep} e d=>by
   cases q:H b with
   | none=>rfl
   | some u =>
    have e':b=a:=hA b (by rw[q];simp);subst e';rw[ha] at e;cases e;have d':Data.seq vs.toArray _=Data.dict es ep:=d;cases d'
  have nsK:∀ {b:Addr} {m:Str->Option Value},s₁.heap.Ns b m->(A8p s₁.heap H).Ns b m:=λ{b m} ⟨o,es,ep,e,d,r⟩=>⟨o,es,ep,base_of e (noA e d),d,r⟩;have hKb:K.In (A8p s₁.heap H):=λb o e=>base_of (KX b o e) (by
   cases q:H b with
   | none=>rfl
   | some u =>
    have e':b=a:=hA b (by rw[q];simp);subst e';rw[hK (by rw[q];simp)] at e;cases e)
  have seK:(A8p s₁.heap H).NoSeer:=⟨let ⟨mc,h1,h2⟩:=hse.statics;⟨mc,nsK h1,h2⟩,let ⟨mm,h1,h2⟩:=hse.mods;⟨mm,nsK h1,h2⟩,let ⟨mx,h1,h2⟩:=hse.imp;⟨mx,nsK h1,h2⟩,by
   obtain ⟨mx,bm,ob,h1,h2,h3,h4,h5⟩:=hse.main;refine ⟨mx,bm,ob,nsK h1,h2,base_of h3 ?_,h4,h5⟩;cases q:H bm with
   | none=>rfl
   | some u =>
    have e':bm=a:=hA bm (by rw[q];simp);subst e';rw[ha] at h3;cases h3;exact absurd (show (Value.type "list")=.type "module" from h4) (by decide)⟩
  have hM:Mod K mg (A8p s₁.heap H):=⟨hKb,nsK hns,⟨mb,nsK hb,hbb⟩,let ⟨mc,h1,h2⟩:=hlim;⟨mc,nsK h1,h2⟩,seK⟩;have e0:B31 P w K mg (A8p s₁.heap H) callerA [] s₁ H:=⟨rfl,hM,λb o e=>C8o e,Nat.le_of_eq (B9c _ _),trivial,λb hb=>absurd (show b∈([]:List Addr) from hb) (by simp),hok,.of_eq hg⟩;refine codeAny_mono ((F _ hKb (nsK hns)).run callerA [] s₁ H ⟨[.ref a],[]⟩ [.ref a] [.ref a] _ _ hr e0 (hbind s₁ (.ref a)) (.cons rfl .nil) (hsp H hO hS)) λr s' h=>?_;cases r with
  | error e=>exact (hCX H e s' h).elim
  | ok fl =>
   cases fl with
   | next=>exact False.elim h
   | brk=>exact False.elim h
   | cont=>exact False.elim h
   | ret u =>
    obtain ⟨v,H',os,bare,un,hok',r',q⟩:=h;have q':v=.bl true:=q;subst q';obtain rfl:u=Value.bool true:=r';refine ⟨rfl,OldK.of_keep λb o e=>?_,os,bare⟩;cases q:H b with
    | none=>exact un.keep b o e q (by intro z;exact absurd (show b∈([]:List Addr) from z) (by simp)) (by simp)
    | some u =>
     rcases hO b with z|⟨ob,xs,z⟩
     ·rw[q] at z;cases z
     ·have z2:=un.frzs b ob _ z;obtain ⟨e1,_⟩:=hok b _ z;obtain ⟨e2,_⟩:=hok' b _ z2;rw[e] at e1;cases e1;exact e2
 cases hk:K.lookup a with
 | some o =>
  have e:=KX a o hk;rw[ha] at e;cases e;refine core (λ_=>none) (λ_=>.inl rfl) (.inr ⟨_,vs.toArray,_,hk,rfl,rfl,rfl,by rw[size_toArray,lenV];exact hl,by simpa using rv⟩) (λb u z=>by have z':(none:Option HO)=some u:=z;cases z') (λb z=>absurd rfl z) λz=>absurd rfl z
 | none =>
  refine core (λb=>if b=a then some (.frz { cls:=.type "list",data:=.seq vs.toArray } (.lst (ns.map V.int))) else none) (λb=>?_) (.inl (.inr ⟨{ cls:=.type "list",data:=.seq vs.toArray },qr rfl⟩)) (λb u z=>?_) (λb z=>?_) λ_=>hk
  ·by_cases hb:b=a
   ·exact .inr ⟨_,_,qr hb⟩
   ·exact .inl (qs hb)
  ·by_cases hb:b=a
   ·have z':=(qr hb).symm.trans z;cases z';subst hb;exact ⟨ha,by rw[qk];exact hl,vs,_,rv,ha⟩
   ·have z':=(qs hb).symm.trans z;cases z'
  ·by_cases hb:b=a
   ·exact hb
   ·exact absurd (qs hb) z
theorem C8i {l:W.OpenLaw} {n:Nat} {q:Program} {d:DefRec} {K:Params->W.Frag} {CX:World->CXT} {sp:World->Sp} {x:Str}
  (hn:l.most=some n) (hn2:n<=sizeLine) (hdf:d.params.defaults=[]) (hr:S0 k callerA) (hi:importsNone q=true)
  (hY:∀ (w:World) (h:Heap),YP w h->(K w.params).In h)
  (F:∀ (w:World) (mg:Str->Option Value) (fa:Addr) (h:Heap),(K w.params).In h->h.Ns mainGlobals mg->mg d.name=some (.ref fa) ->
   ∃ fd:FuncData,(∀ (s:Shared) (u:Value),BindsTo s fd ⟨[u],[]⟩ [(x,u)]) /\
    ∀ base:Heap,(K w.params).In base->base.Ns mainGlobals mg->J5 l.prog w (K w.params) mg base (CX w) k fa fd [x] (sp w))
  (hsp:∀ (w:World) (H:Hp) (a:Addr) (ns:List Int),ns.length<=n->D4l H->E6 (K w.params) H a (ns.map V.int)->sp w [.ref a] H (λv _=>v=.bl true) λ_ _ _=>False)
  (hCX:∀ (w:World) (H:Hp) (s:Shared) (e:Value) (s':Shared),CX w [] H s (λ_ _ _=>False) e s'->False) :
  W.WalkO q loose XP YP l.row.toRowW d [] (λf vs=>PySem.call f vs):=by
 refine Att.attach_call hn hdf λw s₀ s₁ mg mb fa o pm cd doc a vs ns G Y ho hd hcd hmg hobj hints hlen hg=>?_;have KX:=hY w _ Y;obtain ⟨fd,hb,hF⟩:=F w mg fa _ KX G.T.g hmg;exact C0n KX G.T.g G.T.b G.T.builtins G.T.nolimit (G.T.seer hi) hg hobj hints (zq hlen hn2) hr hF hb (λH hO hS=>hsp w H a ns hlen hO hS) λH e s'=>hCX w H s₁ e s'
def A0w (s:Stmt):Arguments:=match s with
 | .FunctionDef _ a _ _ _ _ _ _ _ _=>a
 | _=>{ posonlyargs:=[],args:=[],vararg:=none,kwonlyargs:=[],kw_defaults:=[],kwarg:=none,defaults:=[] }
def Q9 (s:Stmt):List Stmt:=match s with
 | .FunctionDef _ _ b _ _ _ _ _ _ _=>b
 | _=>[]
def B1 (s:Stmt):Scope:=match s with
 | .FunctionDef _ _ _ _ _ _ sc _ _ _=>sc
 | _=>{ kind:=.function,names:=[],isGenerator:=false,isCoroutine:=false }
abbrev CX0:CXT:=λ_ _ _ _ _ _=>False
abbrev E0:XK:=λ_ _ _=>False
theorem D97 {X:Cx}:A21 CX0 X E0:=λ_ _ _ _ _ _ _ h=>h.elim
structure W5 (K:W.Frag) (x qual:Str) (st:Stmt) (f:Addr) (fd:FuncData):Prop where
 ex:∃ (oc:Value) (od:Option Addr) (kV doc pm:Value) (an:Option Addr) (cdv ct:Value) (osl:Array (Option Value)),
  fd=W.fnOf x qual (A0w st) (Q9 st) (B1 st) .none kV doc pm an cdv ct/\K.lookup f=some ⟨oc,od,.func fd,osl⟩/\W.codeIn K cdv qual=true
 kp:W.keepIn K (.ref f)=true
section
variable {P:Program} {w:World} {K:W.Frag} {mg:Str->Option Value} {base:Heap}
theorem W5.ok {x:Str} {N ps:List Str} (F:W5 K x qual st f fd) (S:C2 N ps (B1 st)) (len:∀ vs H Q E,sp vs H Q E->vs.length=ps.length)
  (hbody:∀ (cdv:Value) (A:Around) (outer:List Env) (s:Shared) (H:Hp) (vs:List V) (Q:VK) (E:XK),S0 k (A.deeper (envOfC qual (B1 st) s.heap.objs.size f cdv))->sp vs H Q E ->
   ∃ t,PSs (A2x CX0 P w K mg base N qual (B1 st) f cdv A outer s H E).nox (Q9 st) t/\t { nx:=λ_ H'=>Q .non H',rt:=Q } (start N vs) H):J5 P w K mg base CX0 (k+1) f fd ps sp:=by
 sleep 25;refine C9h lk hcd S len λA outer s H vs Q E hr hsp=>?_;obtain ⟨t,h,q⟩:=hbody cdv A outer s H vs Q E hr hsp;exact ⟨t,h.nox,q⟩
theorem W5.binds {x:Str} {ps:List Str} (F:W5 K x qual st f fd)
  (h:∀ (kV doc pm:Value) (an:Option Addr) (cdv ct:Value) (us:List Value),us.length=ps.length->bindArgs (W.fnOf x qual (A0w st) (Q9 st) (B1 st) .none kV doc pm an cdv ct) ⟨us,[]⟩=pure (ps.zip us)):A5n K fd ps []:=by
 sleep 25;exact .all (h kV doc pm an cdv ct)
theorem C4u {x:Str} {an:Option Addr} {kV ct:Value} (l:K.lookup f=some ⟨oc,od,.func (W.fnOf x qual (A0w st) (Q9 st) (B1 st) .none kV doc pm an cdv ct),osl⟩)
  (c:W.codeIn K cdv qual=true) (k:W.keepIn K (.ref f)=true):W5 K x qual st f (W.fnOf x qual (A0w st) (Q9 st) (B1 st) .none kV doc pm an cdv ct):=⟨⟨oc,od,kV,doc,pm,an,cdv,ct,osl,rfl,l,c⟩,k⟩
end
section
variable {X:Cx}
theorem pv (i:Nat) {x:Str} {pos:Pos} (hN:X.N[i]?=some x:=by rfl) (hv:Vis X.env.scope x:=by first|exact Or.inl rfl|exact Or.inr (Or.inl rfl)|exact Or.inr (Or.inr rfl)) (hd:noD x:=by decide)
  (hcd:(x==("__classdict__":Str))=false:=by decide):PE X (.Name x pos) (B0v i):=D24 hN hv hd hcd
end
theorem V8 {c A:Prop} [Decidable c] (h1:c->A) (h2:¬ c->B):if c then A else B:=by
 by_cases h:c
 ·rw[qr h];exact h1 h
 ·rw[qs h];exact h2 h
def A8 (H H':Hp):Prop:=∀ b o,H b=some o->H' b=some o
theorem A8.refl (H:Hp):A8 H H:=λ_ _ h=>h
theorem A8.trans (a:A8 H H1) (b:A8 H1 H2):A8 H H2:=λc o h=>b c o (a c o h)
theorem A8.free (e:A8 H H') {l:Addr} (h:H' l=Option.none):H l=Option.none:=by
 cases q:H l with
 | none=>rfl
 | some o =>
  rw[e l o q] at h;cases h
theorem A8.seq {a:Addr} {xs:List V} (e:A8 H H') (h:E6 K H a xs):E6 K H' a xs:=by
 rcases h with (h|⟨o,h⟩)|h
 ·exact .inl (.inl (e _ _ h))
 ·exact .inl (.inr ⟨o,e _ _ h⟩)
 ·exact .inr h
end L2
set_option maxHeartbeats 4000000
namespace L2
def PTs (Y:Cx) (ifs:List Expr) (t:TT):Prop :=
 ∀ (pins:List (Addr × Obj)) (s:Shared) (U:St) (H:Hp) (Q:Bool->Hp->Prop),C0 Y pins U H s->t U H Q ->
  wpAny (model Y.prog Y.w) Y.A (forIn ifs true λc r=>if r=true then do let ok <- isTrue c Y.env (eval c Y.env);pure (ForInStep.yield ok) else pure (ForInStep.yield r)) (TP Y pins U Q) Y.xe s
theorem C7p {Y:Cx}:PTs Y [] (λ_ H Q=>Q true H):=by
 sleep 3;rw[List.forIn_nil];exact qe ⟨H,I,h⟩
theorem C79 {Y:Cx} {c:Expr} {t:TT} (hc:PT Y c t):PTs Y [c] t:=by
 sleep 3;rw[List.forIn_cons];refine qd ?_;rw[qr rfl];refine qd (J9 (hc pins s U H Q I h) λb s1 q=>qe ?_);show wpAny _ _ (forIn [] b _) _ _ _;rw[List.forIn_nil];exact qe q
def LcW (prog:Program) (w:World) (A:Around) (elt:Expr) (gens:List Comprehension) (scope:Scope) (pos:Pos) (d:Nat) (acc:Value) (env:Env) (Q:Shared->Prop) (s:Shared):Prop :=
 match gens[d+1]? with
 | some g'=>(g'.is_async=0/\∀ x,foldedSetIterable g'.iter env x=pure x)/\wpAny (model prog w) A (eval g'.iter env) (λx s4=>wpAny (model prog w) A (pyIter x) (λitv s5 =>
   codeAny (model prog w) A (.compStart (.ListComp elt gens scope pos) (d+1) itv acc env) (λr s6=>r=.ok .next/\Q s6) s5) (λ_ _=>False) s4) (λ_ _=>False) s
 | none=>wpAny (model prog w) A (eval elt env) (λx s4=>wpAny (model prog w) A (call (.builtin "list.append") [acc,x]) (λ_ s5=>Q s5) (λ_ _=>False) s4) (λ_ _=>False) s
variable {it:Value} {H H':Hp} {U:St} {s:Shared} {A:Around} {y:Str} {w:World} {tp:Pos} {K:W.Frag} {o:Expr} {to:TE} {st:Stmt}
section
variable {prog:Program} {w:World} {A:Around} {R:Result->Shared->Prop} {s:Shared}
variable {gens:List Comprehension} {scope:Scope} {acc:Value} {elt:Expr} {env:Env} {d:Nat}
theorem B0o {pos:Pos} (hg:gens[d]?=some ⟨target,iter,ifs,0⟩) (I:Nat->Shared->Prop)
  (turn:∀ n s,I n s->wpAny (model prog w) A (pyNext it) (λr s₁=>match r with
   | none=>R (.ok .next) s₁
   | some v=>wpAny (model prog w) A (letOwnedTupleGo target it v) (λ_ s₁'=>wpAny (model prog w) A (assign target env v) (λ_ s₂ =>
     wpAny (model prog w) A (forIn ifs true λc r=>if r=true then do let ok <- isTrue c env (eval c env);pure (ForInStep.yield ok) else pure (ForInStep.yield r)) (λok s₃ =>
      if ok=true then LcW prog w A elt gens scope pos d acc env (λs₅=>∃ m,m < n/\I m s₅) s₃
      else ∃ m,m < n/\I m s₃) (λ_ _=>False) s₂) (λ_ _=>False) s₁') (λ_ _=>False) s₁) (λ_ _=>False) s)
  (n:Nat) (h:I n s) :
  codeAny (model prog w) A (.compLoop (.ListComp elt gens scope pos) d it acc env) R s:=by
 refine codeAny_loop rfl I (λn s hI=>?_) n h;show wpAny _ A ((compTurn (.ListComp elt gens scope pos) d it acc env).onRaise (λx=>do noteFrame x env;theTreesLotGoes x)) _ _ s;refine wpAny_noted (wpAny_noRaise ?_);unfold compTurn;dsimp only;rw[hg];dsimp only;refine qd (wpAny_standAt (qd (J9 (turn n s hI) (λr s₁ h₁=>?_))));cases r with
 | none=>exact qe h₁
 | some v =>
  refine qd (J9 h₁ λ_ s₁' h₁=>qd (J9 h₁ λ_ s₂ h₂=>qd (J9 h₂ λok s₃ h₃=>?_)));cases ok with
  | false=>exact qe ⟨rfl,h₃⟩
  | true =>
   rw[qr rfl] at h₃ ⊢;unfold LcW at h₃;cases e:gens[d+1]? with
   | none =>
    rw[e] at h₃;exact qd (qd (J9 h₃ λx s₄ h₄=>qd (J9 h₄ λ_ s₅ h₅=>qe (qe ⟨rfl,h₅⟩))))
   | some g' =>
    rw[e] at h₃;dsimp only at h₃ ⊢;obtain ⟨⟨ha,hf⟩,h₃⟩:=h₃;refine qd (J9 h₃ λx s₄ h₄=>qd (wpAny_standAt ?_));rw[ha,qs (by decide)];refine qd (wpAny_of_eq (hf x) (qd (wpAny_holding ?_)));rw[qs (by decide)];refine J9 h₄ λitv s₅ h₅=>qd (wpAny_runOwn (codeAny_mono h₅ λr s₆ ⟨hr,q⟩=>?_));subst hr;exact qe ⟨rfl,q⟩
theorem A06 {pos:Pos} (hg:gens[d]?=some ⟨target,iter,ifs,0⟩)
  (h0:codeAny (model prog w) A (.compLoop (.ListComp elt gens scope pos) d it acc env) R s)
  (h:wpAny (model prog w) A (pyIter it) (λit' s'=>codeAny (model prog w) A (.compLoop (.ListComp elt gens scope pos) d it' acc env) R s') (λ_ _=>False) s) :
  codeAny (model prog w) A (.compStart (.ListComp elt gens scope pos) d it acc env) R s:=by
 refine codeAny_of_tree ?_;show wpAny _ _ ((compStart (.ListComp elt gens scope pos) d it acc env).onRaise (λx=>do noteFrame x env;standAt theWindowsPlace)) _ _ s;refine wpAny_notedAt (wpAny_noRaise ?_);unfold compStart;have hc:clausesOf (.ListComp elt gens scope pos)=gens:=rfl;rw[hc,hg];show wpAny _ _ (ask >>= _) _ _ s;refine qd (wpAny_askSetting (wpAny_ite ?_));split
 ·first
   | exact qd (qe (qe (And.intro rfl h0)))
   | exact qe (And.intro rfl h0)
 ·first
   | exact qd (wpAny_rule (qd (wpAny_standAt (qd (jd h (λit' s' h'=>qe (And.intro rfl h')) λ_ _ x=>x)))))
   | (refine qd (wpAny_rule ?_);show wpAny _ _ (standAt iter.pos >>= _) _ _ s;exact qd (wpAny_standAt (qd (jd h (λit' s' h'=>qe (And.intro rfl h')) λ_ _ x=>x))))
end
def A45 (J:It) (g:TG) (tb:TS):TS:=λD U H=>∃ W:Nat->Nat->St->Hp->Prop,(∃ m,W 0 m U H)/\∀ i m U H,W i m U H ->
 (J.stop i H/\D.nx U H)\/(J.go i H/\∃ N:St->Hp->Prop,(∀ U' H',N U' H'->∃ m',m' < m/\W (i+1) m' U' H')/\∀ x H',J.yld i H x H'->g x U H' λσ2 H2=>tb { D with nx:=N,ct:=N,bk:=D.nx } σ2 H2)
def B2o (ti:TT) (tb:TS):TS:=λD U H=>ti U H λb H1=>if b=true then tb D U H1 else D.nx U H1
def PB (Y:Cx) (elt:Expr) (gens:List Comprehension) (scope:Scope) (pos:Pos) (d:Nat) (acc:Addr) (tb:TS):Prop :=
 ∀ (pins:List (Addr × Obj)) (s:Shared) (U:St) (H:Hp) (D:V0),C0 Y pins U H s->tb D U H->LcW Y.prog Y.w Y.A elt gens scope pos d (.ref acc) Y.env (λs'=>∃ U' H',C0 Y pins U' H' s'/\D.nx U' H') s
section
variable {Y:Cx} {elt:Expr} {gens:List Comprehension} {scope:Scope} {pos:Pos} {d:Nat} {acc:Addr}
def B3n (acc:Addr) (te:TE):TS:=λD U H=>te U H λv H1=>∃ xs,H1 acc=some (.lst xs)/\xs.length < sizeLine/\D.nx U (E5 H1 acc (.lst (xs++[v])))
theorem C8t {te:TE} (hg:gens[d+1]?=none) (hx:Y.xe=λ_ _=>False) (he:PE Y elt te):PB Y elt gens scope pos d acc (B3n acc te):=by
 sleep 5;unfold LcW;rw[hg];dsimp only;have he':=he pins s U H _ I h;rw[hx] at he';refine J9 he' λu s1 ⟨v,H1,I1,r1,xs,e,hl,q⟩=>?_;have a2:=B05 pins s1 U H1 (.ref acc) [v] (.ref acc) [u] (λ_ H2=>D.nx U H2) I1 rfl (.cons r1 .nil) ⟨acc,xs,v,rfl,rfl,e,hl,q⟩;rw[hx] at a2;exact J9 a2 λ_ s2 ⟨_,H2,I2,_,q2⟩=>⟨U,H2,I2,q2⟩
variable {tg:Expr} {tb:TS}
theorem B0n {g:TG} {D:V0} {J:It} {it:Addr} {tn:Nat->Heap->Prop}
  (hgd:gens[d]?=some ⟨tg,iter,ifs,0⟩) (hx:Y.xe=λ_ _=>False) (hc:Y.calm=true) (hg:PG Y tg g) (ht:PTs Y ifs ti) (hb:PB Y elt gens scope pos d acc tb)
  (I:C0 Y pins U H s) (T:B3w Y.prog Y.w Y.K tg J fp it tn) (st:tn 0 s.heap) (f2:∀ b∈fp,A1d Y pins H b) (h:A45 J g (B2o ti tb) D U H) :
  codeAny (model Y.prog Y.w) Y.A (.compLoop (.ListComp elt gens scope pos) d (.ref it) (.ref acc) Y.env) (λr s'=>r=.ok .next/\∃ U' H',C0 Y pins U' H' s'/\D.nx U' H') s:=by
 obtain ⟨W,⟨m0,w0⟩,turn⟩:=h;have stat:∀ {H':Hp},(∀ b∈fp,H' b=none)->∀ b∈fp,A1d Y pins H' b:=λhn b hb=>⟨hn b hb,(f2 b hb).2⟩;refine B0o hgd (λn s'=>∃ i U' H',C0 Y pins U' H' s'/\tn i s'.heap/\(∀ b∈fp,H' b=none)/\W i n U' H') ?_ m0 ⟨0,U,H,I,st,λb hb=>(f2 b hb).1,w0⟩;rintro n s3 ⟨i,σ3,H3,I3,st3,fr3,w3⟩;rcases turn i n σ3 H3 w3 with ⟨stop,qn⟩|⟨go,N,hN,step⟩
 ·refine J9 (T.done Y rfl rfl rfl hc i pins s3 σ3 H3 _ I3 (stat fr3) st3 stop) λr s4 ⟨hr,I4⟩=>?_;subst hr;exact ⟨rfl,σ3,H3,I4,qn⟩
 ·refine J9 (T.item Y rfl rfl rfl hc i pins s3 σ3 H3 _ I3 (stat fr3) st3 go) λr s4 ⟨u,hr,h4⟩=>?_;subst hr;refine J9 h4 λ_ s5 ⟨x,H5,I5,r5,y5,st5,fr5⟩=>?_;have I5':=I5.pinned (stat fr5) (T.obj _ _ st5);have a1:=hg _ s5 σ3 H5 x u _ I5' r5 (step x H5 y5);rw[hx] at a1;refine J9 a1 λ_ s6 ⟨σ6,H6,I6,q6⟩=>?_;have a2:=ht _ s6 σ6 H6 _ I6 q6;rw[hx] at a2;refine J9 a2 λok s7 ⟨H7,I7,q7⟩=>?_;have again:∀ {s8:Shared} {σ7:St} {H7:Hp},C0 Y (pins++A56 fp s5.heap) σ7 H7 s8->N σ7 H7->∃ m,m < n/\∃ i U' H',C0 Y pins U' H' s8/\tn i s8.heap/\(∀ b∈fp,H' b=none)/\W i m U' H':=λ{s8 σ7 H7} I7 n7=>by
   obtain ⟨m',hm,w7⟩:=hN σ7 H7 n7;sleep 29;obtain ⟨o,e,d⟩:=T.obj _ _ st5 b hb;exact (I7.pin (b,o) (qz _ (qz _ (V2 hb e)))).2.1
  cases ok with
  | false =>
   rw[qs qw] at q7 ⊢;exact again I7 q7
  | true =>
   rw[qr rfl] at q7 ⊢;have a3:=hb _ s7 σ6 H7 _ I7 q7;unfold LcW at a3 ⊢;cases e:gens[d+1]? with
   | none =>
    rw[e] at a3;exact J9 a3 λx s8 h8=>J9 h8 λ_ s9 ⟨σ9,H9,I9,n9⟩=>again I9 n9
   | some g' =>
    rw[e] at a3;exact ⟨a3.1,J9 a3.2 λx s8 h8=>J9 h8 λ_ s9 h9=>codeAny_mono h9 λr s10 ⟨hr,σ9,H9,I9,n9⟩=>⟨hr,again I9 n9⟩⟩
theorem D18 {g:TG} (hgd:gens[d+1]?=some ⟨tg,iter,ifs,0⟩) (hx:Y.xe=λ_ _=>False) (hc:Y.calm=true) (hs:∀ x,foldedSetIterable iter Y.env x=pure x) (hi:PI Y tg iter wi) (hg:PG Y tg g) (ht:PTs Y ifs ti)
  (hb:PB Y elt gens scope pos (d+1) acc tb):PB Y elt gens scope pos d acc (C4k wi g (B2o ti tb)):=by
 sleep 5;unfold LcW;rw[hgd];dsimp only;refine ⟨⟨rfl,hs⟩,?_⟩;have a1:=hi pins s U H _ I h;rw[hx] at a1;refine J9 a1 λx s1 h1=>J9 h1 λitv s2 ⟨it,fp,tn,J,H2,e,I2,T,st2,f2,q2⟩=>?_;subst e;have lp:=B0n (acc:=acc) hgd hx hc hg ht hb I2 T st2 f2 q2;exact A06 hgd lp (T.self _ _ _ _ _ st2 lp)
end
def O0 (env:Env):List (Str × NameKind)->List (Str × Addr)->List (Str × Addr)
 | [],acc=>acc
 | (n,k)::r,acc=>if k==.free then O0 env r ((n,(env.cells.lookup n).getD 0)::acc) else O0 env r acc
theorem A5d {env:Env} (f:Str × NameKind->List (Str × Addr)->Sem (ForInStep (List (Str × Addr))))
  (hf:∀ n k cs,f (n,k) cs=if k==.free then (do let c <- cellOf env n;pure (.yield ((n,c)::cs))) else pure (.yield cs)) :
  ∀ (names:List (Str × NameKind)) (acc:List (Str × Addr)),(∀ x∈names,x.2=.free->∃ c,env.cells.lookup x.1=some c)->forIn names acc f=pure (O0 env names acc)
 | [],acc,_=>by rw[List.forIn_nil];rfl
 | (n,k)::r,acc,h=>by
  rw[List.forIn_cons,hf];unfold O0;by_cases hk:(k==NameKind.free)=true
  ·rw[qr hk,qr hk];obtain ⟨c,hc⟩:=h (n,k) qx (by simpa using hk);have hc':env.cells.lookup n=some c:=hc;have e:cellOf env n=pure c:=by unfold cellOf;rw[hc']
   rw[e,hc'];exact A5d f hf r _ λx hx=>h x (qy _ hx)
  ·rw[qs hk,qs hk];exact A5d f hf r _ λx hx=>h x (qy _ hx)
theorem A34 {scope:Scope} {env:Env} (h:∀ x∈scope.names,x.2=.free->∃ c,env.cells.lookup x.1=some c):closureFor scope env=pure (O0 env scope.names []):=by
 unfold closureFor;dsimp only;rw[A5d (env:=env) _ (λn k cs=>by cases hk:k==NameKind.free<;>simp[hk]) scope.names [] h];rfl
theorem A1i {env:Env} {x:Str} {c:Addr}:∀ (names:List (Str × NameKind)) (acc:List (Str × Addr)),(∀ y∈names,y.2=.free->∃ c,env.cells.lookup y.1=some c) ->
  (O0 env names acc).lookup x=some c->(((x,NameKind.free)∈names/\env.cells.lookup x=some c)\/acc.lookup x=some c)
 | [],acc,_,e=>.inr e
 | (n,k)::r,acc,h,e=>by
  unfold O0 at e;have hr:∀ y∈r,y.2=.free->∃ c,env.cells.lookup y.1=some c:=λy hy=>h y (qy _ hy);by_cases hk:(k==NameKind.free)=true
  ·rw[qr hk] at e;have hk':k=.free:=by simpa using hk
   subst hk';rcases A1i r _ hr e with ⟨h1,h2⟩|h1
   ·exact .inl ⟨qy _ h1,h2⟩
   ·rw[List.lookup_cons] at h1;cases q:x==n with
    | true =>
     rw[q] at h1;have:x=n:=by simpa using q
     subst this;obtain ⟨c',hc'⟩:=h (x,.free) qx rfl;have hc'':env.cells.lookup x=some c':=hc';rw[hc''] at h1;exact .inl ⟨qx,by rw[hc''];exact h1⟩
    | false =>
     rw[q] at h1;exact .inr h1
  ·rw[qs hk] at e;rcases A1i r _ hr e with ⟨h1,h2⟩|h1
   ·exact .inl ⟨qy _ h1,h2⟩
   ·exact .inr h1
theorem Y7 {env:Env} {x:Str}:∀ (names:List (Str × NameKind)) (acc:List (Str × Addr)),(x,NameKind.free)∈names\/(acc.lookup x).isSome=true->((O0 env names acc).lookup x).isSome=true
 | [],acc,h=>by rcases h with h|h;cases h;exact h
 | (n,k)::r,acc,h=>by
  unfold O0;by_cases hk:(k==NameKind.free)=true
  ·rw[qr hk];refine Y7 r _ ?_;rw[List.lookup_cons];cases q:x==n with
   | true=>exact .inr rfl
   | false =>
    rcases h with h|h
    ·rcases zn.mp h with e|e
     ·cases e;simp at q
     ·exact .inl e
    ·exact .inr h
  ·rw[qs hk];refine Y7 r _ ?_;rcases h with h|h
   ·rcases zn.mp h with e|e
    ·cases e;exact absurd rfl hk
    ·exact .inl e
   ·exact .inr h
theorem A3n {env:Env} {x:Str} {c:Addr}:∀ (names:List (Str × NameKind)) (acc:List (Str × Addr)),(∀ y∈names,y.2=.free->∃ c,env.cells.lookup y.1=some c)->(x,c)∈O0 env names acc->env.cells.lookup x=some c\/(x,c)∈acc
 | [],acc,_,e=>.inr e
 | (n,k)::r,acc,h,e=>by
  unfold O0 at e;have hr:∀ y∈r,y.2=.free->∃ c,env.cells.lookup y.1=some c:=λy hy=>h y (qy _ hy);by_cases hk:(k==NameKind.free)=true
  ·rw[qr hk] at e;have hk':k=.free:=by simpa using hk
   subst hk';rcases A3n r _ hr e with h1|h1
   ·exact .inl h1
   ·rcases zn.mp h1 with q|q
    ·obtain ⟨c',hc'⟩:=h (n,.free) qx rfl;have hc'':env.cells.lookup n=some c':=hc';rw[hc''] at q;cases q;exact .inl hc''
    ·exact .inr q
  ·rw[qs hk] at e;exact A3n r _ hr e
theorem X5 {x:Str} {c:Addr}:∀ (names:List (Str × NameKind)) (n:Nat) (acc:List (Str × Addr)),(cellsFrom n names acc).lookup x=some c->((x,NameKind.cell)∈names/\n<=c)\/acc.lookup x=some c
 | [],n,acc,e=>.inr e
 | (y,k)::r,n,acc,e=>by
  unfold cellsFrom at e;by_cases hk:(k==NameKind.cell)=true
  ·rw[qr hk] at e;have hk':k=.cell:=by simpa using hk
   subst hk';rcases X5 r _ _ e with ⟨h1,h2⟩|h1
   ·exact .inl ⟨qy _ h1,by lia⟩
   ·rw[List.lookup_cons] at h1;cases q:x==y with
    | true =>
     rw[q] at h1;have:x=y:=by simpa using q
     subst this;cases h1;exact .inl ⟨qx,qt _⟩
    | false=>rw[q] at h1;exact .inr h1
  ·rw[qs hk] at e;rcases X5 r _ _ e with ⟨h1,h2⟩|h1
   ·exact .inl ⟨qy _ h1,h2⟩
   ·exact .inr h1
theorem A02 {x:Str}:∀ (names:List (Str × NameKind)) (n:Nat) (acc:List (Str × Addr)),(x,NameKind.cell)∉names->(cellsFrom n names acc).lookup x=acc.lookup x
 | [],n,acc,_=>rfl
 | (y,k)::r,n,acc,h=>by
  unfold cellsFrom;have hr:(x,NameKind.cell)∉r:=λz=>h (qy _ z);by_cases hk:(k==NameKind.cell)=true
  ·rw[qr hk,A02 r _ _ hr,List.lookup_cons];cases q:x==y with
   | true =>
    have:x=y:=by simpa using q
    subst this;have hk':k=.cell:=by simpa using hk
    subst hk';exact absurd qx h
   | false=>rfl
  ·rw[qs hk];exact A02 r _ _ hr
theorem A07:∀ (names:List (Str × NameKind)) (h:Heap) (acc:List (Str × Addr)) (lo:Nat),lo<=h.objs.size->(∀ y c,(y,c)∈acc->lo<=c->h.IsCell c none)->(acc.Pairwise λx y=>lo<=x.2->x.2≠y.2)->(∀ y c,(y,c)∈acc->c < h.objs.size) ->
  (∀ y c,(y,c)∈cellsFrom h.objs.size names acc->lo<=c->(pushCells h names).IsCell c none)/\((cellsFrom h.objs.size names acc).Pairwise λx y=>lo<=x.2->x.2≠y.2)
 | [],h,acc,lo,_,h1,h2,_=>⟨h1,h2⟩
 | (n,k)::r,h,acc,lo,hlo,h1,h2,h3=>by
  unfold cellsFrom pushCells;by_cases hk:(k==NameKind.cell)=true
  ·rw[qr hk,qr hk];have:=A07 r (h.push { cls:=.type "cell",data:=.cell none }) ((n,h.objs.size)::acc) lo (by rw[Heap.size_push];lia) (λy c hm hc=>by
    rcases zn.mp hm with e|hm
    ·cases e;exact ⟨_,qq _ rfl,rfl⟩
    ·exact (h1 y c hm hc).keeps λb o e=>qc _ e) (List.pairwise_cons.mpr ⟨λy hy _ e=>by
     have:=h3 y.1 y.2 hy;have e':h.objs.size=y.2:=e;exact absurd (e' ▸ this) (Nat.lt_irrefl _),h2⟩) (λy c hm=>by
    rw[Heap.size_push];rcases zn.mp hm with e|hm
    ·cases e;exact Nat.lt_succ_self _
    ·exact Nat.lt_succ_of_lt (h3 y c hm))
   rw[Heap.size_push] at this;exact this
  ·rw[qs hk,qs hk];exact A07 r h acc lo hlo h1 h2 h3
def D6s (scope:Scope) (env:Env) (C:Addr):Env :=
 { scope:=relabel scope env,locals:=C,globals:=env.globals,cells:=cellsFrom (C+1) scope.names (O0 env scope.names []),qual:=env.qual,func:=none,code:=env.code,frame:=env.frame,builtins:=env.builtins }
theorem A9b {M:Model} {scope:Scope} {env:Env} {Q:Env->Shared->Prop}
  (h:Q (newEnv scope s.heap.objs.size env.globals (cellsFrom (s.heap.objs.size+1) scope.names (O0 env scope.names [])) env.qual none .none (some env) builtinsNs)
   { s with heap:=pushCells (s.heap.push { cls:=.type "dict",data:=.dict #[] }) scope.names }) :
  wpAny M A (newFunctionEnv scope env.globals (O0 env scope.names []) [] env.qual none .none (some env)) Q E s:=by
 simp only[newFunctionEnv,Option.isSome_some,if_true];refine qd (wpAny_alloc ?_);refine qd (wpAny_layCells _ (λname kind cells=>by cases hkc:kind==NameKind.cell<;>simp[hkc]) _ _ _ _ ?_);rw[show ({ s with heap:=s.heap.push { cls:=.type "dict",data:=.dict #[] } }:Shared).heap.objs.size=s.heap.objs.size+1 from Heap.size_push ..];rw[List.forIn_nil];exact qd (qe (qe h))
def Cx.inn (X:Cx) (scope:Scope) (N:List Str) (s₃:Shared) (H₃:Hp) (fp:List Addr):Cx :=
 { X with N:=N,s₀:=s₃,H₀:=H₃,env:=D6s scope X.env s₃.heap.objs.size,outer:=X.stack,stack:=X.stack,ex:=fp,fn:=λx=>scope.names.lookup x==some .cell,pn:=[],xe:=λ_ _=>False }
def N6 (own:List Str) (cap:List (Str × Nat)):List Str:=own++cap.map (·.1)
def A8r (own:List Str) (cap:List (Str × Nat)) (U:St):St:=own.map (λ_=>none)++cap.map λp=>(U[p.2]?).join
structure C7 (X:Cx) (scope:Scope) (own:List Str) (cap:List (Str × Nat)):Prop where
 kind:scope.kind=.function
 nd:(scope.names.map (·.1)).Nodup
 loc:∀ x∈scope.names,x.2=.local->scope.names.lookup x.1=some .local
 fre:∀ x∈scope.names,x.2=.free->X.env.kindOf x.1=some .cell\/X.env.kindOf x.1=some .free
 cap:∀ p∈cap,X.N[p.2]?=some p.1/\(p.1,NameKind.free)∈scope.names
theorem A7g {names:List (Str × NameKind)} (nd:(names.map (·.1)).Nodup) {x:Str} {k k':NameKind} (h:(x,k)∈names) (h':(x,k')∈names):k=k':=by
 induction names with
 | nil=>cases h
 | cons p r ih =>
  rw[map_cons,nodup_cons] at nd;rcases zn.mp h with e|h<;>rcases zn.mp h' with e'|h'
  ·rw[<-e] at e';cases e';rfl
  ·exact absurd (zg.mpr ⟨_,h',by rw[<-e]⟩) nd.1
  ·exact absurd (zg.mpr ⟨_,h,by rw[<-e']⟩) nd.1
  ·exact ih nd.2 h h'
theorem B4e {names:List (Str × NameKind)} (nd:(names.map (·.1)).Nodup) {x:Str} {k:NameKind} (h:(x,k)∈names):names.lookup x=some k:=by
 cases e:names.lookup x with
 | some k'=>rw[A7g nd h (ja e)]
 | none =>
  have:∀ p∈names,(x==p.1)=false:=by
   have:=List.lookup_eq_none_iff.mp e;intro p hp;have:=this p hp;simpa using this
  have:=this _ h;simp at this
theorem A32 {lo:Nat}:∀ {cs:List (Str × Addr)},(cs.Pairwise λx y=>lo<=x.2->x.2≠y.2)->∀ {n n':Str} {c:Addr},(n,c)∈cs->(n',c)∈cs->lo<=c->n=n'
 | x::r,hp,n,n',c,h,h',hc=>by
  obtain ⟨h1,h2⟩:=List.pairwise_cons.mp hp;rcases zn.mp h with e|h<;>rcases zn.mp h' with e'|h'
  ·rw[<-e'] at e;exact (Prod.mk.inj e).1
  ·exact absurd (by rw[<-e]) (h1 _ h' (by rw[<-e];exact hc))
  ·exact absurd (by rw[<-e']) (h1 _ h (by rw[<-e'];exact hc))
  ·exact A32 h2 h h' hc
theorem B2r {f:Str->NameKind->Bool} {x:Str}:∀ {names:List (Str × NameKind)},(names.map λp=>if f p.1 p.2=true then (p.1,NameKind.cell) else p).lookup x=(names.lookup x).map λk=>if f x k=true then NameKind.cell else k
 | []=>rfl
 | (n,k)::r=>by
  rw[map_cons];have ih:=@B2r f x r;cases hx:x==n with
  | true =>
   have:x=n:=by simpa using hx
   subst this;cases hc:f x k<;>simp[List.lookup_cons,hc]
  | false =>
   cases hc:f n k<;>simp only[List.lookup_cons,hx,hc,if_true,if_false,zt]<;>exact ih
theorem B0j {scope:Scope} {env:Env} {x:Str}:(relabel scope env).names.lookup x =
  (scope.names.lookup x).map λk=>if (k==NameKind.free&&env.scope.kind==.function&&env.kindOf x==some .cell)=true then NameKind.cell else k:=by
 have e:(relabel scope env).names=scope.names.map λp=>if (λn k=>(k==NameKind.free&&env.scope.kind==.function&&env.kindOf n==some .cell)) p.1 p.2=true then (p.1,NameKind.cell) else p:=by
  unfold relabel;dsimp only
 rw[e];exact B2r (f:=λn k=>(k==NameKind.free&&env.scope.kind==.function&&env.kindOf n==some .cell))
section
variable {X:Cx} {pins:List (Addr × Obj)} {U:St} {H:Hp} {s:Shared} {scope:Scope} {own:List Str} {cap:List (Str × Nat)} {fp:List Addr}
theorem C31 (L:C7 X scope own cap) (I:C0 X pins U H s) (hf:∀ b∈fp,A1d X pins H b) (ho:∀ b∈fp,∃ o,s.heap.get? b=some o) :
  C0 (X.inn scope (N6 own cap) s H fp) [] (A8r own cap U) H { s with heap:=pushCells (s.heap.push { cls:=.type "dict",data:=.dict #[] }) scope.names }:=by
 have hcl:∀ x∈scope.names,x.2=.free->∃ c,X.env.cells.lookup x.1=some c:=λx hx hk=>I.ok.has x.1 (L.fre x hx hk);have old:∀ x c,(O0 X.env scope.names []).lookup x=some c->(x,NameKind.free)∈scope.names/\X.env.cells.lookup x=some c:=λx c e=>by
  rcases A1i _ _ hcl e with h|h
  ·exact h
  ·cases h
 have keep:∀ b o,s.heap.get? b=some o->(pushCells (s.heap.push { cls:=.type "dict",data:=.dict #[] }) scope.names).get? b=some o:=λb o e=>pushCells_keeps _ _ b o (qc _ e);have look:∀ x c,(X.inn scope (N6 own cap) s H fp).env.cells.lookup x=some c->((x,NameKind.cell)∈scope.names/\s.heap.objs.size+1<=c)\/((x,NameKind.free)∈scope.names/\X.env.cells.lookup x=some c):=λx c e=>by
  rcases X5 _ _ _ e with h|h
  ·exact .inl h
  ·exact .inr (old x c h)
 have oldlt:∀ x c,X.env.cells.lookup x=some c->c < s.heap.objs.size:=λx c e=>by
  obtain ⟨v,hv⟩:=I.cell x c e;exact hv.lt
 have nf:∀ x,(x,NameKind.free)∈scope.names->(x,NameKind.cell)∉scope.names:=λx h h'=>by cases A7g L.nd h h'
 have ml:∀ y c,(y,c)∈O0 X.env scope.names []->c < s.heap.objs.size:=λy c hm=>by
  rcases A3n _ _ hcl hm with h|h
  ·exact oldlt y c h
  ·cases h
 have clnd:(O0 X.env scope.names []).Pairwise λx y=>s.heap.objs.size+1<=x.2->x.2≠y.2:=List.pairwise_iff_forall_sublist.mpr λ{a b} hs hle=>by
  have:a∈O0 X.env scope.names []:=hs.subset qx;have:=ml a.1 a.2 this;exact absurd (qu hle this) (Nat.not_lt.mpr (Nat.le_succ _))
 have nst:=A07 scope.names (s.heap.push { cls:=.type "dict",data:=.dict #[] }) (O0 X.env scope.names []) (s.heap.objs.size+1) (by rw[Heap.size_push];exact qt _)
  (λy c hm hc=>absurd (qu hc (ml y c hm)) (Nat.not_lt.mpr (Nat.le_succ _))) clnd (λy c hm=>by rw[Heap.size_push];exact Nat.lt_succ_of_lt (ml y c hm))
 rw[Heap.size_push] at nst;have newcell:∀ x c,(X.inn scope (N6 own cap) s H fp).env.cells.lookup x=some c->s.heap.objs.size+1<=c->(pushCells (s.heap.push { cls:=.type "dict",data:=.dict #[] }) scope.names).IsCell c none:=λx c e hc=>nst.1 x c (ja e) hc;have kindY:∀ x,(X.inn scope (N6 own cap) s H fp).env.kindOf x=(scope.names.lookup x).map λk=>if (k==NameKind.free&&X.env.scope.kind==.function&&X.env.kindOf x==some .cell)=true then NameKind.cell else k:=λx=>B0j
 refine ⟨⟨I.ok.mod,L.kind,I.ok.glob,I.ok.blt,qt _,λx y c h1 h2=>?inj,λx hx=>?has,λx c hx h=>?cab,I.ok.hd,I.ok.frames,.inl rfl,λb hb=>⟨?ex1,λx c h=>?ex2⟩,λb o e=>I.bs b o e,zq I.ok.bsz I.sz,λb o e hb=>?noex,λb hb hb'=>?exfs,I.stack,I.stkFree⟩,
  rfl,I.bare,Un.kept keep,⟨λ_=>none,?ns,λi x v h1 h2 h3=>?look⟩,λx c h=>?cell,I.fresh,λx c h=>?freeC,λp hp=>absurd (show p∈([]:List (Addr × Obj)) from hp) (by simp),I.hok.kept keep,?len⟩
 case inj =>
  rcases look x c h1 with ⟨_,g1⟩|⟨_,g1⟩<;>rcases look y c h2 with ⟨_,g2⟩|⟨_,g2⟩
  ·exact A32 nst.2 (ja h1) (ja h2) g1
  ·exact absurd (qu g1 (oldlt y c g2)) (Nat.not_lt.mpr (Nat.le_succ _))
  ·exact absurd (qu g2 (oldlt x c g1)) (Nat.not_lt.mpr (Nat.le_succ _))
  ·exact I.ok.inj x y c g1 g2
 case has =>
  rw[kindY] at hx;cases e:scope.names.lookup x with
  | none=>rw[e] at hx;rcases hx with h|h<;>cases h
  | some k =>
   rw[e] at hx;have hm:=ja e;have hk:k=.cell\/k=.free:=by
    by_cases hc:(k==NameKind.free&&X.env.scope.kind==.function&&X.env.kindOf x==some .cell)=true
    ·simp only[zb,beq_iff_eq] at hc;exact .inr hc.1.1
    ·rw[Option.map_some,qs hc] at hx;rcases hx with h|h
     ·exact .inl (zu h)
     ·exact .inr (zu h)
   rcases hk with rfl|rfl
   ·exact Option.isSome_iff_exists.mp (W.cellsFrom_some scope.names _ _ (.inl e))
   ·exact Option.isSome_iff_exists.mp (W.cellsFrom_some scope.names _ _ (.inr (Y7 _ _ (.inl hm))))
 case cab =>
  have hx':scope.names.lookup x=some .cell:=by simpa [Cx.inn] using hx
  rcases look x c h with ⟨_,g⟩|⟨g,_⟩
  ·exact Nat.le_of_succ_le g
  ·exact absurd (ja hx') (nf x g)
 case ex1 =>
  obtain ⟨o,e⟩:=ho b hb;exact ze (qm e)
 case ex2 =>
  obtain ⟨o,e⟩:=ho b hb;rcases look x c h with ⟨_,g⟩|⟨_,g⟩
  ·rintro rfl;exact absurd (qu g (qm e)) (Nat.not_lt.mpr (Nat.le_succ _))
  ·exact (hf b hb).2.2.2.2.1 x c g
 case noex =>
  rcases (hf b hb).2.2.2.1 with g|g
  ·exact I.ok.noex b o e g
  ·exact absurd (qv (qm e) I.ok.bsz) (Nat.not_lt.mpr g)
 case exfs =>
  rcases zn.mp (I.stkSub b hb') with g|g
  ·exact (hf b hb).2.1 g
  ·exact (hf b hb).2.2.1 g
 case ns=>exact (Heap.Ns.new s.heap (.type "dict")).keeps (pushCells_keeps _ _)
 case look =>
  obtain ⟨j,p,hp,rfl,hv⟩:∃ (j:Nat) (p:Str × Nat),cap[j]?=some p/\p.1=x/\U[p.2]?=some (some v):=by
   have h1:(own++cap.map (·.1))[i]?=some x:=h1;unfold A8r at h2;by_cases hi:i < own.length
   ·rw[List.getElem?_append_left (by simpa using hi),qp] at h2;cases e:own[i]? with
    | none=>rw[e] at h2;cases h2
    | some y=>rw[e] at h2;cases h2
   ·rw[List.getElem?_append_right (by lia)] at h1;rw[List.getElem?_append_right (by simpa using hi)] at h2;rw[qk] at h2;rw[qp] at h1 h2;cases e:cap[i - own.length]? with
    | none=>rw[e] at h1;cases h1
    | some p =>
     rw[e] at h1 h2;refine ⟨_,p,e,zu h1,?_⟩;have h2:(U[p.2]?).join=some v:=zu h2;cases q:U[p.2]? with
     | none=>rw[q] at h2;cases h2
     | some z=>rw[q] at h2;exact congrArg some h2
  obtain ⟨c1,c2⟩:=L.cap p (zx hp);have hk:=L.fre _ c2 rfl;obtain ⟨m,hn,hl⟩:=I.loc;obtain ⟨u,ru,lk⟩:=hl p.2 p.1 v c1 hv (.inr hk);refine ⟨u,ru,.inr ?_⟩;rcases lk with ⟨lk,_⟩|⟨_,c,e,hc⟩
  ·rcases hk with hk|hk
   ·have:X.env.kindOf p.1=some .cell:=hk;rw[lk] at this;cases this
   ·have:X.env.kindOf p.1=some .free:=hk;rw[lk] at this;cases this
  ·have hlk:=B4e L.nd c2;refine ⟨?_,c,?_,hc.keeps keep⟩
   ·rw[kindY,hlk,Option.map_some];split
    ·exact .inl rfl
    ·exact .inr rfl
   ·show (cellsFrom _ scope.names _).lookup p.1=some c;rw[A02 _ _ _ (nf _ c2)];obtain ⟨c',e'⟩:=Option.isSome_iff_exists.mp (Y7 (env:=X.env) scope.names [] (.inl c2));rw[e',<-e];exact (old _ _ e').2.symm
 case cell =>
  rcases look x c h with ⟨_,g⟩|⟨_,g⟩
  ·exact ⟨_,newcell x c h g⟩
  ·obtain ⟨v,hv⟩:=I.cell x c g;exact ⟨v,hv.keeps keep⟩
 case freeC =>
  rcases look x c h with ⟨_,g⟩|⟨_,g⟩
  ·exact I.hok.fresh (Nat.le_of_succ_le g)
  ·exact I.freeC x c g
 case len =>
  show (A8r own cap U).length=(N6 own cap).length;unfold A8r N6;simp
end
def tLC (wi:TI) (g:TG) (ti:TT) (tb:Addr->TS) (own:List Str) (cap:List (Str × Nat)):TE:=λU H Q=>wi U H λJ H1=>∀ acc,H1 acc=none ->
 A45 J g (B2o ti (tb acc)) { nx:=λ_ H'=>Q (.ref acc) H',rt:=λ_ _=>False } (A8r own cap U) (E5 H1 acc (.lst []))
theorem D62 {X:Cx} {elt tg:Expr} {G4:List Comprehension} {scope:Scope} {pos:Pos} {g:TG} {tb:Addr->TS} (own:List Str) (cap:List (Str × Nat)) (hc:X.calm=true) (L:C7 X scope own cap) (hi:PI X tg iter wi)
  (hin:∀ (s₃:Shared) (H₃:Hp) (fp:List Addr) (acc:Addr),PG (X.inn scope (N6 own cap) s₃ H₃ fp) tg g/\PTs (X.inn scope (N6 own cap) s₃ H₃ fp) ifs ti/\PB (X.inn scope (N6 own cap) s₃ H₃ fp) elt (⟨tg,iter,ifs,0⟩::G4) scope pos 0 acc (tb acc))
  (hs:∀ x,foldedSetIterable iter X.env x=pure x:=by intro _;rfl):PE X (.ListComp elt (⟨tg,iter,ifs,0⟩::G4) scope pos) (tLC wi g ti tb own cap):=by
 sleep 3;rw[eval_ListComp];have hcl:∀ x∈scope.names,x.2=.free->∃ c,X.env.cells.lookup x.1=some c:=λx hx hk=>I.ok.has x.1 (L.fre x hx hk);refine wpAny_comprehension_free (use:=none) rfl hs (A34 hcl) L.kind L.loc (J9 (hi pins s U H _ I h) λx s1 h1=>J9 h1 λitv s2 ⟨it,fp,tn,J,H2,e,I2,T,st2,f2,q2⟩=>?_);subst e;refine wpAny_newObj_type ?_;have I3:=I2.lnew (t':=s2.toks) (ys:=[]) (its:=[]) .nil (jb _);have fr2:H2 s2.heap.objs.size=none:=I2.fresh;have f3:∀ b∈fp,A1d X pins (E5 H2 s2.heap.objs.size (.lst [])) b:=λb hb=>by
  obtain ⟨o,eo,_⟩:=T.obj 0 _ st2 b hb;obtain ⟨g1,g2⟩:=f2 b hb;exact ⟨by rw[B4 (ze (qm eo))];exact g1,g2⟩
 have k3:∀ b o,s2.heap.get? b=some o->(s2.heap.push { cls:=.type "list",data:=.seq ([]:List Value).toArray }).get? b=some o:=λb o e=>qc _ e;have st3:tn 0 (s2.heap.push { cls:=.type "list",data:=.seq ([]:List Value).toArray }):=T.keep 0 _ _ st2 λb _ o e=>k3 b o e;refine A9b ?_;have I4:=C31 L I3 f3 λb hb=>by obtain ⟨o,eo,_⟩:=T.obj 0 _ st3 b hb;exact ⟨o,eo⟩
 obtain ⟨hg,ht,hb⟩:=hin { s2 with heap:=s2.heap.push { cls:=.type "list",data:=.seq ([]:List Value).toArray },toks:=s2.toks } (E5 H2 s2.heap.objs.size (.lst [])) fp s2.heap.objs.size;have st4:=T.keep 0 _ (pushCells ((s2.heap.push { cls:=.type "list",data:=.seq ([]:List Value).toArray }).push { cls:=.type "dict",data:=.dict #[] }) scope.names) st3 λb _ o e=>pushCells_keeps _ _ b o (qc _ e);have f4:∀ b∈fp,A1d (X.inn scope (N6 own cap) { s2 with heap:=s2.heap.push { cls:=.type "list",data:=.seq ([]:List Value).toArray },toks:=s2.toks } (E5 H2 s2.heap.objs.size (.lst [])) fp) [] (E5 H2 s2.heap.objs.size (.lst [])) b:=λb hb =>
  ⟨(f3 b hb).1,(I4.ok.exf b hb).1,I4.ok.exfs b hb,.inl hb,(I4.ok.exf b hb).2,λp hp=>absurd (show p∈([]:List (Addr × Obj)) from hp) (by simp)⟩
 have lp:=B0n (Y:=X.inn scope (N6 own cap) { s2 with heap:=s2.heap.push { cls:=.type "list",data:=.seq ([]:List Value).toArray },toks:=s2.toks } (E5 H2 s2.heap.objs.size (.lst [])) fp) (acc:=s2.heap.objs.size) (gens:=⟨tg,iter,ifs,0⟩::G4) (d:=0) rfl rfl hc hg ht hb I4 T st4 f4 (q2 _ fr2);have lp':=codeAny_mono lp (R':=compPost (model X.prog X.w) X.A X.xe none (EP X pins U Q) (.ref s2.heap.objs.size) (s2.heap.push { cls:=.type "list",data:=.seq ([]:List Value).toArray }).objs.size) λr s' ⟨hr,U',H',I',q'⟩=>by
  subst hr;obtain ⟨m',hn',_⟩:=id I'.loc;refine ⟨m',hn',λh' hsb=>?_⟩;refine ⟨.ref s2.heap.objs.size,H',?_,rfl,q'⟩;have neC:∀ b o,(s2.heap.push { cls:=.type "list",data:=.seq ([]:List Value).toArray }).get? b=some o->b≠(s2.heap.push { cls:=.type "list",data:=.seq ([]:List Value).toArray }).objs.size:=λb o e=>ze (qm e);have B:=I'.base;refine I3.call' (ch:=fp) I'.os ⟨λb o e n hb hx=>(hsb.2 b (neC b o e)).trans (B.keep b o e n hb hx),λb o e n hb hx=>?_,B.free,λb o e hx=>?_,B.tups,B.frzs,B.tbls⟩ (λb u e=>?_) I'.bare λb hb=>⟨(f3 b hb).2.2.2.1,(f3 b hb).2.1,(f3 b hb).2.2.2.2.1,(f3 b hb).2.2.2.2.2⟩
  ·obtain ⟨sl,e1⟩:=B.slot b o e n hb hx;exact ⟨sl,(hsb.2 b (neC b o e)).trans e1⟩
  ·obtain ⟨o',e1⟩:=B.there b o e hx;exact ⟨o',(hsb.2 b (neC b o e)).trans e1⟩
  ·have hC:H' (s2.heap.push { cls:=.type "list",data:=.seq ([]:List Value).toArray }).objs.size=none:=I'.free;refine (I'.hok b u e).stay (λc v hc' q=>(hsb.2 c ?_).trans q) (λ_ q=>q) λ_ _ q=>q;rintro rfl;rcases hc' with hc'|hc'
   ·rw[<-hc',hC] at e;cases e
   ·rw[hC] at hc';cases hc'
 exact A06 rfl lp' (T.self _ _ _ _ _ st4 lp')
theorem C1o {X:Cx} {i:Nat} {elt tg:Expr} {G4:List Comprehension} {scope:Scope} {pos:Pos} {g:TG} {tb:Addr->TS} (own:List Str) (cap:List (Str × Nat)) (hN:X.N.Nodup) (hyi:X.N[i]?=some y) (hy:X.env.scope.names.lookup y=some .local) (hc:X.calm=true) (L:C7 X scope own cap) (hi:PI X tg iter wi)
  (hin:∀ (s₃:Shared) (H₃:Hp) (fp:List Addr) (acc:Addr),PG (X.inn scope (N6 own cap) s₃ H₃ fp) tg g/\PTs (X.inn scope (N6 own cap) s₃ H₃ fp) ifs ti/\PB (X.inn scope (N6 own cap) s₃ H₃ fp) elt (⟨tg,iter,ifs,0⟩::G4) scope pos 0 acc (tb acc))
  (hsw:swapsWith (.ListComp elt (⟨tg,iter,ifs,0⟩::G4) scope pos) (some (.Name y py)) spos.line X.env=pure true:=by rfl) (hs:∀ x,foldedSetIterable iter X.env x=pure x:=by intro _;rfl) :
  PS X (.Assign [.Name y py] (.ListComp elt (⟨tg,iter,ifs,0⟩::G4) scope pos) spos) (B2i (tLC wi g ti tb own cap) (A19 i)):=by
 sleep 5;rw[exec_Assign_Name_used _ _ _ _ hsw];refine qd (wpAny_standAt (qd ?_));show wpAny _ X.A (do let _ <- comprehension (.ListComp elt (⟨tg,iter,ifs,0⟩::G4) scope pos) scope X.env _ (newList []) false (eval iter X.env) (some (assign (.Name y py) X.env))) _ _ s;have hcl:∀ x∈scope.names,x.2=.free->∃ c,X.env.cells.lookup x.1=some c:=λx hx hk=>I.ok.has x.1 (L.fre x hx hk);refine qd (jd (wpAny_comprehension_free (use:=some (assign (.Name y py) X.env)) (Q:=λ_ s'=>SP X pins D .next s') rfl hs (A34 hcl) L.kind L.loc (J9 (hi pins s U H _ I h) λx s1 h1=>J9 h1 λitv s2 ⟨it,fp,tn,J,H2,e,I2,T,st2,f2,q2⟩=>?_)) (λ_ s' hq=>qe (qe hq)) λ_ _ e=>e);subst e;refine wpAny_newObj_type ?_;have I3:=I2.lnew (t':=s2.toks) (ys:=[]) (its:=[]) .nil (jb _);have fr2:H2 s2.heap.objs.size=none:=I2.fresh;have f3:∀ b∈fp,A1d X pins (E5 H2 s2.heap.objs.size (.lst [])) b:=λb hb=>by
  obtain ⟨o,eo,_⟩:=T.obj 0 _ st2 b hb;obtain ⟨g1,g2⟩:=f2 b hb;exact ⟨by rw[B4 (ze (qm eo))];exact g1,g2⟩
 have k3:∀ b o,s2.heap.get? b=some o->(s2.heap.push { cls:=.type "list",data:=.seq ([]:List Value).toArray }).get? b=some o:=λb o e=>qc _ e;have st3:tn 0 (s2.heap.push { cls:=.type "list",data:=.seq ([]:List Value).toArray }):=T.keep 0 _ _ st2 λb _ o e=>k3 b o e;refine A9b ?_;have I4:=C31 L I3 f3 λb hb=>by obtain ⟨o,eo,_⟩:=T.obj 0 _ st3 b hb;exact ⟨o,eo⟩
 obtain ⟨hg,ht,hb⟩:=hin { s2 with heap:=s2.heap.push { cls:=.type "list",data:=.seq ([]:List Value).toArray },toks:=s2.toks } (E5 H2 s2.heap.objs.size (.lst [])) fp s2.heap.objs.size;have st4:=T.keep 0 _ (pushCells ((s2.heap.push { cls:=.type "list",data:=.seq ([]:List Value).toArray }).push { cls:=.type "dict",data:=.dict #[] }) scope.names) st3 λb _ o e=>pushCells_keeps _ _ b o (qc _ e);have f4:∀ b∈fp,A1d (X.inn scope (N6 own cap) { s2 with heap:=s2.heap.push { cls:=.type "list",data:=.seq ([]:List Value).toArray },toks:=s2.toks } (E5 H2 s2.heap.objs.size (.lst [])) fp) [] (E5 H2 s2.heap.objs.size (.lst [])) b:=λb hb =>
  ⟨(f3 b hb).1,(I4.ok.exf b hb).1,I4.ok.exfs b hb,.inl hb,(I4.ok.exf b hb).2,λp hp=>absurd (show p∈([]:List (Addr × Obj)) from hp) (by simp)⟩
 have lp:=B0n (Y:=X.inn scope (N6 own cap) { s2 with heap:=s2.heap.push { cls:=.type "list",data:=.seq ([]:List Value).toArray },toks:=s2.toks } (E5 H2 s2.heap.objs.size (.lst [])) fp) (acc:=s2.heap.objs.size) (gens:=⟨tg,iter,ifs,0⟩::G4) (d:=0) rfl rfl hc hg ht hb I4 T st4 f4 (q2 _ fr2);have lp':=codeAny_mono lp (R':=compPost (model X.prog X.w) X.A X.xe (some (assign (.Name y py) X.env)) (λ_ s'=>SP X pins D .next s') (.ref s2.heap.objs.size) (s2.heap.push { cls:=.type "list",data:=.seq ([]:List Value).toArray }).objs.size) λr s' ⟨hr,U',H',I',q'⟩=>by
  subst hr;obtain ⟨m',hn',_⟩:=id I'.loc;have B:=I'.base;have I5:C0 X pins U H' s':=I3.call' (ch:=fp) I'.os B I'.hok I'.bare λb hb=>⟨(f3 b hb).2.2.2.1,(f3 b hb).2.1,(f3 b hb).2.2.2.2.1,(f3 b hb).2.2.2.2.2⟩;have hC:H' (s2.heap.push { cls:=.type "list",data:=.seq ([]:List Value).toArray }).objs.size=none:=I'.free;show wpAny _ X.A (assign (.Name y py) X.env (.ref s2.heap.objs.size)) _ _ _;refine wpAny_assign_Name (A9z I5 hN hyi (.inl hy) (v:=.ref s2.heap.objs.size) rfl (λs6 I6 ⟨a6,sb6,ha6⟩=>?_) (.inr hy));have neL:X.env.locals≠(s2.heap.push { cls:=.type "list",data:=.seq ([]:List Value).toArray }).objs.size:=ze I3.lt;have ha:a6≠(s2.heap.push { cls:=.type "list",data:=.seq ([]:List Value).toArray }).objs.size:=by
   rcases ha6 with rfl|ha6
   ·exact neL
   ·obtain ⟨v,hv⟩:=I3.cell y a6 ha6;exact ze hv.lt
  refine ⟨m',hn'.sameBut sb6 ha.symm,λh' hsb=>?_⟩;refine ⟨_,H',?_,q'⟩;have kb:∀ b o,b≠(s2.heap.push { cls:=.type "list",data:=.seq ([]:List Value).toArray }).objs.size->s6.heap.get? b=some o->h'.get? b=some o:=λb o hb e=>(hsb.2 b hb).trans e;refine I6.turned (t':=s6.toks) (it:=(s2.heap.push { cls:=.type "list",data:=.seq ([]:List Value).toArray }).objs.size) kb hC neL.symm (.inr I3.sz) (λx c e z=>?_) (λp hp z=>?_)
  ·obtain ⟨v,hv⟩:=I3.cell x c e;exact absurd z (ze hv.lt)
  ·have:=(I3.pin p hp).1;exact absurd z (ze (qm this))
 exact A06 rfl lp' (T.self _ _ _ _ _ st4 lp')
mutual
inductive Den (K:W.Frag) (H:Hp):V->PyData->Prop
 | non:Den K H .non .none
 | bl (b):Den K H (.bl b) (.bool b)
 | int (i):Den K H (.int i) (.int i)
 | str (x):Den K H (.str x) (.str x)
 | lst {a us ds}:E6 K H a us->Dens K H us ds->Den K H (.ref a) (.list ds)
 | tup {a us ds}:SqT K H a us->Dens K H us ds->Den K H (.ref a) (.tuple ds)
inductive Dens (K:W.Frag) (H:Hp):List V->List PyData->Prop
 | nil:Dens K H [] []
 | cons {v vs d ds}:Den K H v d->Dens K H vs ds->Dens K H (v::vs) (d::ds)
end
theorem A8.tup {K:W.Frag} {H H':Hp} {a:Addr} {xs:List V} (e:A8 H H') (h:SqT K H a xs):SqT K H' a xs:=by
 rcases h with (h|⟨o,h⟩)|h
 ·exact .inl (.inl (e _ _ h))
 ·exact .inl (.inr ⟨o,e _ _ h⟩)
 ·exact .inr h
section
variable {X:Cx} {pins:List (Addr × Obj)} {U:St} {H:Hp} {s:Shared}
mutual
theorem Den.reads (I:C0 X pins U H s):∀ {v d} {u:Value},Den X.K H v d->G1 v u->∃ as,Reads s.heap u d as
 | _,_,_,.non,r=>by cases r;exact ⟨_,.none⟩
 | _,_,_,.bl b,r=>by cases r;exact ⟨_,.bool b⟩
 | _,_,_,.int i,r=>by obtain ⟨t,rfl⟩:=r;exact ⟨_,.int i t⟩
 | _,_,_,.str i,r=>by obtain ⟨t,rfl⟩:=r;exact ⟨_,.str i t⟩
 | _,_,_,.lst h hr,r=>by
  cases r;obtain ⟨its,rv,⟨o,n,e,c,_,d⟩,_⟩:=I.list h;obtain ⟨as,q⟩:=Dens.reads I hr rv;exact ⟨_,.list e c d (by simpa using q)⟩
 | _,_,_,.tup h hr,r=>by
  cases r;obtain ⟨its,rv,⟨o,e,c,n,d⟩,_⟩:=I.tuple h;obtain ⟨as,q⟩:=Dens.reads I hr rv;exact ⟨_,.tuple e c d (by simpa using q)⟩
theorem Dens.reads (I:C0 X pins U H s):∀ {vs ds} {us:List Value},Dens X.K H vs ds->D7 vs us->∃ as,ReadsAll s.heap us ds as
 | _,_,_,.nil,r=>by cases r;exact ⟨_,.nil⟩
 | _,_,_,.cons h hr,r=>by
  cases r with
  | cons r1 r2 =>
   obtain ⟨as,q⟩:=Den.reads I h r1;obtain ⟨bs,q2⟩:=Dens.reads I hr r2;exact ⟨_,.cons q q2⟩
end
end
def B9r (K:W.Frag) (f:Bool->Bool):R2:=λx y H Q=>∃ dx dy,Den K H x dx/\Den K H y dy/\dx.canLay0=true/\dy.canLay0=true/\dx.depth<=32/\Q (.bl (f (PyData.eqv dx dy))) H
section
variable {X:Cx}
theorem D4b (hu:X.A.units+64 < cLine):OpR X (compareOp .Eq) (B9r X.K id):=by
 sleep 2;obtain ⟨dx,dy,h1,h2,h3,h4,h5,q⟩:=h;obtain ⟨as,r1⟩:=h1.reads I rx;obtain ⟨bs,r2⟩:=h2.reads I ry;exact SeqAt.compareEq_reads r1 r2 h3 h4 (by lia) ⟨.bl _,H,I,rfl,q⟩
theorem D22 (hu:X.A.units+64 < cLine):OpR X (compareOp .NotEq) (B9r X.K not):=by
 sleep 2;obtain ⟨dx,dy,h1,h2,h3,h4,h5,q⟩:=h;obtain ⟨as,r1⟩:=h1.reads I rx;obtain ⟨bs,r2⟩:=h2.reads I ry;exact SeqAt.compareNe_reads r1 r2 h3 h4 (by lia) ⟨.bl _,H,I,rfl,q⟩
theorem A89 {bs:List Bool}:∀ {us:List Value},D7 (bs.map V.bl) us->us=bs.map Value.bool:=by
 induction bs with
 | nil=>intro us h;cases h;rfl
 | cons b r ih =>
  intro us h;cases h with
  | cons h1 h2=>cases h1;rw[ih h2];rfl
theorem B8l {bs:List Bool}:(List.range bs.length).all (λi=>bs.getD i false)=bs.all id:=by
 rw[zz,all_eq_true,all_eq_true];constructor
 ·intro h b hb;obtain ⟨i,hi,rfl⟩:=mem_iff_getElem.mp hb;have:=h i (mem_range.mpr hi);simpa [hi] using this
 ·intro h i hi;have hi:=mem_range.mp hi;have:=h _ (List.getElem_mem hi);simpa [hi] using this
theorem C01 {bs:List Bool}:(List.range bs.length).any (λi=>bs.getD i false)=bs.any id:=by
 rw[zz,List.any_eq_true,List.any_eq_true];constructor
 ·rintro ⟨i,hi,h⟩;have hi:=mem_range.mp hi;exact ⟨_,List.getElem_mem hi,by simpa [hi] using h⟩
 ·rintro ⟨b,hb,h⟩;obtain ⟨i,hi,rfl⟩:=mem_iff_getElem.mp hb;exact ⟨i,mem_range.mpr hi,by simpa [hi] using h⟩
theorem A5v {prog:Program} {bs:List Bool}:TruthOf prog w A (λi v=>(bs.map Value.bool).toArray[i]?=some v) (λi=>bs.getD i false):=by
 intro i v s Q E hv hq;simp only[List.getElem?_toArray,qp] at hv;cases e:bs[i]? with
 | none=>rw[e] at hv;cases hv
 | some b =>
  rw[e] at hv;cases hv;have hq:Q (bs.getD i false) s:=hq;rw[getD_eq_getElem?_getD,e] at hq;exact wpAny_truthy_bool hq
theorem A84 (hc:X.calm=true):R3 X (.builtin "all") (λxs H Q=>∃ (a:Addr) (bs:List Bool),xs=[.ref a]/\E6 X.K H a (bs.map V.bl)/\Q (.bl (bs.all id)) H):=by
 sleep 10;obtain ⟨a,bs,rfl,hq,q⟩:=h;obtain ⟨u,rfl,r1⟩:=A5u r;cases r1;sleep 13;cases A89 rv;refine call_all_walk (wpAny_pyIter_list p.isList ?_);have hne:a≠s.heap.objs.size:=by obtain ⟨o,n,e,_⟩:=p;exact ze (qm e)
 refine ⟨_,_,_,_,_,_,_,rfl,Walks.list (A:=X.A.in1) (I.ok.hd hc) s.heap.objs.size a hne _,⟨⟨_,qq _ rfl,rfl,rfl⟩,(p.keeps λb o e=>qc _ e).isList⟩,A5v,λh' tk k=>?_⟩;have e1:((bs.map Value.bool).toArray.size)=bs.length:=by simp
 rw[e1,B8l];refine ⟨.bl _,H,I.kept λb o e=>k b o ?_ (qc _ e),rfl,q⟩;simp only[zc];exact ze (qm e)
theorem A7c (hc:X.calm=true):R3 X (.builtin "any") (λxs H Q=>∃ (a:Addr) (bs:List Bool),xs=[.ref a]/\E6 X.K H a (bs.map V.bl)/\Q (.bl (bs.any id)) H):=by
 sleep 10;obtain ⟨a,bs,rfl,hq,q⟩:=h;obtain ⟨u,rfl,r1⟩:=A5u r;cases r1;sleep 13;cases A89 rv;refine call_any_walk (wpAny_pyIter_list p.isList ?_);have hne:a≠s.heap.objs.size:=by obtain ⟨o,n,e,_⟩:=p;exact ze (qm e)
 refine ⟨_,_,_,_,_,_,_,rfl,Walks.list (A:=X.A.in1) (I.ok.hd hc) s.heap.objs.size a hne _,⟨⟨_,qq _ rfl,rfl,rfl⟩,(p.keeps λb o e=>qc _ e).isList⟩,A5v,λh' tk k=>?_⟩;have e1:((bs.map Value.bool).toArray.size)=bs.length:=by simp
 rw[e1,C01];refine ⟨.bl _,H,I.kept λb o e=>k b o ?_ (qc _ e),rfl,q⟩;simp only[zc];exact ze (qm e)
def tLR (ta:TA):TE:=λU H Q=>ta U H λvs H1=>∃ n:Nat,vs=[.int n]/\n<=1000000/\∀ l,H1 l=none->Q (.ref l) (E5 H1 l (.lst ((List.range n).map λ(i:Nat)=>V.int (i:Int))))
end
section
variable {X:Cx} {pins:List (Addr × Obj)} {U:St} {H:Hp} {s:Shared} {h':Heap} {t':Nat}
theorem C0.turnLay {a:Addr} {o:HO} {ch:List Addr} (I:C0 X pins U H s) (k:∀ b u,b∉ch->s.heap.get? b=some u->h'.get? b=some u) (hp:s.heap.objs.size<=a) (new:P7 X.prog X.w (E5 H a o) h' a o) (hch:∀ b∈ch,A1d X pins H b) :
  C0 X pins U (E5 H a o) { s with heap:=h',toks:=t' }:=by
 have hn:H a=none:=I.hok.fresh hp;have nch:∀ b u,H b=some u->b∉ch:=λb u e z=>by rw[(hch b z).1] at e;cases e
 refine I.call (g':=s.gens) (d':=s.drawn) (ch:=ch) ⟨λb u q _ _ hx=>k b u hx q,λb u q _ _ hx=>⟨u.slots,k b u hx q⟩,λb u q n _=>?_,λb u q hx=>⟨u,k b u hx q⟩,λb xs q=>?_,λb u xs q=>?_,λb ps q=>⟨#[],?_⟩⟩ (λb u e=>?_) I.bare
  λb hb=>⟨(hch b hb).2.2.2.1,(hch b hb).2.1,(hch b hb).2.2.2.2.1,(hch b hb).2.2.2.2.2⟩
 ·rw[B4 (ze (qv (qm q) hp))];exact n
 ·rw[B4 (K9 q hn)];exact q
 ·rw[B4 (K9 q hn)];exact q
 ·rw[B4 (K9 q hn),q];simp
 ·by_cases hb:b=a
  ·subst hb;rw[B7] at e;cases e;exact new
  ·rw[B4 hb] at e;refine (I.hok b u e).stay (λc v hc q=>k c v ?_ q) (λc q=>by rw[B4 (K9 q hn)];exact q) λc xs q=>by rw[B4 (K9 q hn)];exact q
   rcases hc with z|z
   ·rw[z];exact nch b u e
   ·exact nch c _ z
end
def Ite (K:W.Frag) (a:Addr):It :=
 ⟨λi H=>∃ xs x,E6 K H a xs/\xs[i]?=some x,λi H x H'=>∃ p y,H p=none/\(∀ xs,E6 K H a xs->xs[i]?=some y)/\x=.ref p/\H'=E5 H p (.tup [.int i,y]),λi H=>∃ xs,E6 K H a xs/\xs.length<=i⟩
theorem B9n {x1} (a e it:Addr) (hei:e≠it):B3w P w K (.Tuple elts x1 tp) (Ite K a) [e,it] e (λi h=>(∃ old,IsEnum h e it i old)/\h.IsListIter it a i) where
 mem:=by simp
 obj:=λi h st b hb=>by
  obtain ⟨⟨old,h1⟩,⟨o,e2,c2,d2⟩⟩:=st;rcases zn.mp hb with rfl|hb
  ·exact ⟨_,h1,λv z=>by
    have z':Data.fields _=Data.cell v:=z;cases z'⟩
  ·have e':b=it:=by simpa using hb
   subst e';exact ⟨o,e2,λv z=>by rw[d2] at z;cases z⟩
 keep:=λi h h' st k=>by
  obtain ⟨⟨old,h1⟩,h2⟩:=st;exact ⟨⟨old,k e (by simp) _ h1⟩,h2.at λo e=>k it (by simp) o e⟩
 item:=by
  sleep 6;subst hP hw hK;obtain ⟨⟨old,h1⟩,h2⟩:=st;obtain ⟨xs,x,hq,hx⟩:=hg;sleep 13;obtain ⟨u,hu,ru⟩:=rv.get hx;have helt:e < s.heap.objs.size:=qm h1;have hilt:it < s.heap.objs.size:=by obtain ⟨_,y,_⟩:=h2;exact qm y
  refine wpAny_pyNext_enum_item h1 h2 p.isList (x:=u) (by simpa using hu) hei λh' ho hit' hT hsz hk=>?_;refine ⟨_,rfl,wpAny_letOwnedTupleGo_enum (s:={ s with heap:=h',toks:=s.toks+1 }) ho λh2 he2 hs2=>?_⟩;have neT:s.heap.objs.size≠e:=Nat.ne_of_gt helt;have neI:s.heap.objs.size≠it:=Nat.ne_of_gt hilt;refine ⟨.ref s.heap.objs.size,E5 H s.heap.objs.size (.tup [.int i,x]),?_,rfl,⟨_,x,I.fresh,λys hy=>by rw[I.list_inj hy hq];exact hx,rfl,rfl⟩,⟨⟨u,by simpa using he2⟩,hit'.at λo y=>(hs2.2 it hei.symm).trans y⟩,λb hb=>?_⟩
  ·have I1:=I.turnLay (h':=h2) (t':=s.toks+1) (a:=s.heap.objs.size) (o:=.tup [.int i,x]) (ch:=[e,it]) (λb o hb q=>(hs2.2 b λz=>hb (by simp[z])).trans (hk b o (λz=>hb (by simp[z])) (λz=>hb (by simp[z])) q)) (qt _) ?_ hf
   ·exact I1
   exact ⟨by show 2<=sizeLine;decide,[.int i s.toks,u],.cons ⟨_,rfl⟩ (.cons ru .nil),⟨_,(hs2.2 _ neT).trans hT,rfl,0,rfl⟩⟩
  ·rcases zn.mp hb with rfl|hb
   ·rw[B4 neT.symm];exact (hf b (by simp)).1
   ·have e':b=it:=by simpa using hb
    subst e';rw[B4 neI.symm];exact (hf b (by simp)).1
 done:=by
  sleep 6;subst hP hw hK;obtain ⟨⟨old,h1⟩,h2⟩:=st;obtain ⟨xs,hq,hx⟩:=hg;sleep 13;have hl:=rv.length;sleep 9;exact wpAny_pyNext_enum_end (I.ok.hd hc) h1 h2 p.isList (by simp;lia) λh' eb=>⟨rfl,I.turned (t':=s.toks) (λb o hb q=>eb b o hb q) f0 f1 f3 f4 f5⟩
 self:=λ_ _ _ _ _ st h=>by obtain ⟨⟨old,h1⟩,_⟩:=st;exact wpAny_pyIter_enum h1 h
section
variable {X:Cx}
def B78 (K:W.Frag) (ta:TA):TI:=λU H R=>ta U H λvs H1=>∃ a,vs=[.ref a]/\(∃ xs,E6 K H1 a xs)/\R (Ite K a) H1
theorem C7s {a:Expr} {ta:TA} {p pos:Pos} {x1} (hg:Gl X "enumerate") (hm:X.mg "enumerate"=none) (ha:PA X [a] ta) (hs:starEach [a] X.env=[(false,eval a X.env)]:=by rfl) :
  PI X (.Tuple elts x1 tp) (.Call (.Name "enumerate" p) [a] [] pos) (B78 X.K ta):=by
 intro pins s U H R I h;refine Call_ (A04 I hg hm boot_enumerate (PyProof.Rows.callWith_type1 (J9 (ha pos pins s U H _ I h) λus s1 ⟨vs,H1,I1,r1,q1⟩=>?_) hs rfl));obtain ⟨a,e,⟨xs,hq⟩,q⟩:=q1;subst e;obtain ⟨u,rfl,ru⟩:=A5u r1;cases ru;obtain ⟨its,rv,p,hz⟩:=I1.list hq;refine call_enumerate_list p.isList λh' he hit hsz hk=>?_;refine wpAny_pyIter_enum he ?_;have I2:C0 X pins U H1 { s1 with heap:=h' }:=I1.kept (t':=s1.toks) hk;refine ⟨s1.heap.objs.size+1,[s1.heap.objs.size+1,s1.heap.objs.size],_,_,H1,rfl,I2,B9n a _ _ (Nat.succ_ne_self _),⟨⟨.none,he⟩,hit⟩,λb hb=>?_,q⟩;rcases zn.mp hb with rfl|hb
 ·exact I1.fpOk (Nat.le_succ _) (I1.hok.fresh (Nat.le_succ _))
 ·have e':b=s1.heap.objs.size:=by simpa using hb
  subst e';sleep 37
end
def B6d (osc:Scope) (oN:List Str) (scope:Scope) (own:List Str) (cap:List (Str × Nat)):Bool :=
 scope.kind==.function&&decide ((scope.names.map (·.1)).Nodup)&&(scope.names.all λx=>x.2 != .local||scope.names.lookup x.1==some .local)
  && (scope.names.all λx=>x.2 != .free||(osc.names.lookup x.1==some .cell||osc.names.lookup x.1==some .free))
  && (cap.all λp=>oN[p.2]?==some p.1&&scope.names.contains (p.1,NameKind.free))
theorem C7.of {X:Cx} {scope:Scope} {own:List Str} (h:B6d X.env.scope X.N scope own cap=true):C7 X scope own cap:=by
 unfold B6d at h;simp only[zb,all_eq_true,beq_iff_eq,zw,Bool.or_eq_true,bne_iff_ne,ne_eq] at h;obtain ⟨⟨⟨⟨h1,h2⟩,h3⟩,h4⟩,h5⟩:=h;refine ⟨h1,h2,λx hx hk=>?_,λx hx hk=>?_,λp hp=>?_⟩
 ·rcases h3 x hx with z|z
  ·exact absurd hk z
  ·exact z
 ·rcases h4 x hx with z|z
  ·exact absurd hk z
  ·exact z
 ·obtain ⟨a,b⟩:=h5 p hp;exact ⟨a,by simpa using b⟩
section
variable {X:Cx} {e:Expr} {te:TE} {pos:Pos}
theorem E2z (i:Nat) {x:Str} (hN:X.N.Nodup) (he:PE X e te) (hi:X.N[i]?=some x:=by rfl) (hx:Loc X.env.scope x:=by first|exact Or.inl rfl|exact Or.inr rfl) (hs:swapsWith e (some (.Name x pos')) pos.line X.env=pure false:=by rfl)
  (hf:X.fn x=true\/X.env.scope.names.lookup x=some .local:=by first|exact .inl rfl|exact .inr rfl|assumption):PS X (.Assign [.Name x pos'] e pos) (B2i te (A19 i)):=D3o hN hi hx he hs hf
theorem pgn (i:Nat) {x:Str} (hN:X.N.Nodup) (hi:X.N[i]?=some x:=by rfl) (hx:Loc X.env.scope x:=by first|exact Or.inl rfl|exact Or.inr rfl) (hf:X.fn x=true\/X.env.scope.names.lookup x=some .local:=by first|exact .inl rfl|exact .inr rfl|assumption):PG X (.Name x pos) (A19 i):=C6n hN hi hx hf
end
structure Df (P:Program) (w:World) (K:W.Frag) (mg:Str->Option Value) (base:Heap) (x:Str) (ps:List Str) (k:Nat) (sp:Sp):Prop where
 ex:∃ f fd,J5 P w K mg base CX0 k f fd ps sp/\mg x=some (.ref f)/\W.keepIn K (.ref f)=true/\A5n K fd ps []
theorem D9a {X:Cx} {x:Str} {ps:List Str} {k:Nat} {p pos:Pos} {e:Expr} {es:List Expr} {t:TA} (D:Df X.prog X.w X.K X.mg X.base x ps k sp) (hr:S0 k X.A) (ha:PA X (e::es) t) (hg:Gl X x:=by rfl) (hdb:noD x:=by decide)
  (he:stE e es X.env:=by rfl) (hpl:stB pos es X.env:=by rfl):PE X (.Call (.Name x p) (e::es) [] pos) (A90 sp [] E0 t):=by
 obtain ⟨f,fd,F,hm,hk,hb⟩:=D.ex;exact B6w F hr hg hm hk hb .nil D97 ha hdb he hpl
section
variable {X:Cx} {o e:Expr} {to:TE} {te:TE} {apos cpos:Pos}
theorem C00 (ho:PE X o to) (he:PE X e te) (hs:starEach [e] X.env=[(false,eval e X.env)]) (hbase:attributeBase o "append" X.env (eval o X.env)=eval o X.env:=by rfl)
  (hline:(apos.endLine==cpos.line)=true:=by rfl):PE X (.Call (.Attribute o "append" apos) [e] [] cpos) (tBM X.K "list" A46 to (A0j te A77)) :=
 B80 PySem.F.plainAttrs_list PySem.F.slot_list_append PySem.F.type_list_append B05 ho (A2k he A88 hs) hbase (by rw[hs];rfl) hline hs rfl
theorem C0a (ho:PE X o to) (he:PE X e te) (hs:starEach [e] X.env=[(false,eval e X.env)]) (hbase:attributeBase o "pop" X.env (eval o X.env)=eval o X.env:=by rfl)
  (hline:(apos.endLine==cpos.line)=true:=by rfl):PE X (.Call (.Attribute o "pop" apos) [e] [] cpos) (tBM X.K "list" A5a to (A0j te A77)) :=
 B80 PySem.F.plainAttrs_list PySem.F.slot_list_pop PySem.F.type_list_pop C0q ho (A2k he A88 hs) hbase (by rw[hs];rfl) hline hs rfl
end
def C3t (K:W.Frag):R2:=λx y H Q=>∃ p xs j v,x=.ref p/\y=.int ((j:Nat):Int)/\E6 K H p xs/\xs[j]?=some v/\Q v H
theorem C1r {X:Cx}:C7j X (C3t X.K):=by
 sleep 2;obtain ⟨p,xs,j,z,rfl,rfl,hq,he,q⟩:=h;cases rx;obtain ⟨t,rfl⟩:=ry;obtain ⟨its,r,pl,hz⟩:=I.list hq;obtain ⟨w,ew,rw'⟩:=r.get he;have hl:=r.length;have hn:=A38;have hj:j < xs.length:=(ql.mp he).1;exact wpAny_getItem_list pl.isList (by lia) (by lia) (by simpa using ew) ⟨z,H,I,rw',q⟩
theorem I0 {N:List Str} (h:decide N.Nodup=true):N.Nodup:=of_decide_eq_true h
section
variable {X:Cx} {K:W.Frag}
theorem C67 (K:W.Frag) (n:Nat) (hK:X.K=K) {es:List Expr} {k:Nat} {t:TGs} {pos:Pos} (hc:X.calm=true) (h:PGs X es t) (hn:(assignEach es X.env).length=n) (hst:(assignEach es X.env).findIdx? (·.1)=none):PG X (.Tuple es k pos) (C51 K n t):=by
 subst hK;exact D1i hc h hn hst
theorem C3f (K:W.Frag) (hK:X.K=K) {tg l:Expr} {tl:TE} (hl:PE X l tl):PI X tg l (B7u K tl):=by subst hK;exact C6w hl
theorem C3r (K:W.Frag) (hK:X.K=K) {a:Expr} {ta:TA} {p pos:Pos} {x1} (hg:Gl X "enumerate") (hm:X.mg "enumerate"=none) (ha:PA X [a] ta) (hs:starEach [a] X.env=[(false,eval a X.env)]) :
  PI X (.Tuple elts x1 tp) (.Call (.Name "enumerate" p) [a] [] pos) (B78 K ta):=by subst hK;exact C7s hg hm ha hs
theorem C9 (K:W.Frag) (hK:X.K=K):IxR X (C6o K):=by subst hK;exact B6x
def D7r (K:W.Frag):List V->Hp->VK->Prop:=λxs H Q=>∃ p ys,xs=[.ref p]/\(E6 K H p ys\/SqT K H p ys)/\Q (.int ys.length) H
theorem P4 (K:W.Frag) (hK:X.K=K):R3 X (.builtin "len") (D7r K):=by subst hK;exact B1e
def D60 (K:W.Frag):List V->Hp->VK->Prop:=λxs H Q=>∃ (a:Addr) (bs:List Bool),xs=[.ref a]/\E6 K H a (bs.map V.bl)/\Q (.bl (bs.all id)) H
def D9w (K:W.Frag):List V->Hp->VK->Prop:=λxs H Q=>∃ (a:Addr) (bs:List Bool),xs=[.ref a]/\E6 K H a (bs.map V.bl)/\Q (.bl (bs.any id)) H
def E10 (K:W.Frag):List V->Hp->VK->Prop:=λxs H Q=>∃ (a:Addr) (ns:List Int),xs=[.ref a]/\E6 K H a (ns.map V.int)/\Q (.int ns.sum) H
def E11 (K:W.Frag):List V->Hp->VK->Prop:=λxs H Q=>∃ x T t b,xs=[x,.ty T]/\A5g K H x t/\W.kitOne K t (.type T)=some b/\Q (.bl b) H
def B6l (K:W.Frag):List V->Hp->VK->Prop:=λxs H Q=>∃ p ys,xs=[.ref p]/\(E6 K H p ys\/SqT K H p ys)/\∀ l,H l=none->Q (.ref l) (E5 H l (.lst ys))
theorem B8b (K:W.Frag) (hK:X.K=K) (hc:X.calm=true):R3 X (.builtin "all") (D60 K):=by subst hK;exact A84 hc
theorem B8s (K:W.Frag) (hK:X.K=K) (hc:X.calm=true):R3 X (.builtin "any") (D9w K):=by subst hK;exact A7c hc
theorem B5w (K:W.Frag) (hK:X.K=K):R3 X (.type "list") (B6l K):=by subst hK;exact B1a
theorem D3l (K:W.Frag) (hK:X.K=K) (hu:X.A.units+64 < cLine):OpR X (compareOp .Eq) (B9r K id):=by subst hK;exact D4b hu
theorem D0g (K:W.Frag) (hK:X.K=K) (hu:X.A.units+64 < cLine):OpR X (compareOp .NotEq) (B9r K not):=by subst hK;exact D22 hu
theorem B9t (K:W.Frag) (hK:X.K=K):OpR X (compareOp .NotIn) (rIn K true):=by subst hK;exact B22
theorem A4c (K:W.Frag) (hK:X.K=K):SlR X (B9a K):=by subst hK;exact B66
theorem B92 (K:W.Frag) (hK:X.K=K):C7j X (C3t K):=by subst hK;exact C1r
variable {e:Expr} {te:TE}
theorem B5b (K:W.Frag) (hK:X.K=K) (ho:PE X o to) (he:PE X e te) (hs:starEach [e] X.env=[(false,eval e X.env)]) (hbase:attributeBase o "append" X.env (eval o X.env)=eval o X.env)
  (hline:(apos.endLine==cpos.line)=true):PE X (.Call (.Attribute o "append" apos) [e] [] cpos) (tBM K "list" A46 to (A0j te A77)):=by subst hK;exact C00 ho he hs hbase hline
theorem B9q (K:W.Frag) (hK:X.K=K) (ho:PE X o to) (he:PE X e te) (hs:starEach [e] X.env=[(false,eval e X.env)]) (hbase:attributeBase o "pop" X.env (eval o X.env)=eval o X.env)
  (hline:(apos.endLine==cpos.line)=true):PE X (.Call (.Attribute o "pop" apos) [e] [] cpos) (tBM K "list" A5a to (A0j te A77)):=by subst hK;exact C0a ho he hs hbase hline
end
def D0k (e:Expr):Option Int:=match e with
 | .Constant (.int i) _ _=>some i
 | _=>none
theorem C68 {e:Expr} {i:Int} (h:D0k e=some i):∃ k p,e=.Constant (.int i) k p:=by
 unfold D0k at h;split at h
 ·cases h;exact ⟨_,_,rfl⟩
 ·cases h
def A7z:List Expr->Option (List Int)
 | []=>some []
 | e::r=>match D0k e,A7z r with
  | some i,some l=>some (i::l)
  | _,_=>none
theorem B76 {X:Cx}:∀ {es:List Expr} {ns:List Int},A7z es=some ns->PA X es (λ_ H Q=>Q (ns.map V.int) H)
 | [],ns,h=>by
  cases h;exact A88
 | e::r,ns,h=>by
  unfold A7z at h;split at h
  ·rename_i i ms e1 e2;cases h;obtain ⟨k,p,rfl⟩:=C68 e1;exact A2k C2s (B76 e2) rfl
  ·cases h
theorem C7v {g:TG} {tb:TS} {D:V0} :C4k wi g tb D U H=wi U H λJ H1=>A45 J g tb D U H1:=rfl
theorem A3e {lo:Int} {n:Nat} {g:TG} {tb:TS} {D:V0} (Pv:Nat->St->Hp->Prop) (h0:Pv 0 U H)
  (hs:∀ i U H,i < n->Pv i U H->g (.int (lo+i)) U H λσ2 H2=>tb { D with nx:=Pv (i+1),ct:=Pv (i+1),bk:=D.nx } σ2 H2) (hd:∀ U H,Pv n U H->D.nx U H):A45 (Itr lo n) g tb D U H:=B9z Pv h0 hs hd
theorem B8h {a:Addr} (xs:List V) {g:TG} {tb:TS} {D:V0} (Pv:Nat->St->Hp->Prop) (h0:Pv 0 U H) (hl:∀ i U H,i<=xs.length->Pv i U H->E6 K H a xs)
  (hs:∀ i x U H,xs[i]?=some x->Pv i U H->g x U H λσ2 H2=>tb { D with nx:=Pv (i+1),ct:=Pv (i+1),bk:=D.nx } σ2 H2) (hd:∀ U H,Pv xs.length U H->D.nx U H):A45 (Itl K a) g tb D U H:=C26 Pv h0 hl hs hd
theorem A2z {b:Bool} {A:Prop} (h1:b=true->A) (h2:b=false->B):if b=true then A else B:=by
 cases b
 ·rw[qs qw];exact h2 rfl
 ·rw[qr rfl];exact h1 rfl
theorem A8.put {p:Addr} {o:HO} (e:A8 H H') (h:H p=none):A8 H (E5 H' p o):=λb o' hb=>by rw[B4 (K9 hb h)];exact e b o' hb
theorem A8.new {p:Addr} {o:HO} (h:H p=none):A8 H (E5 H p o):=(A8.refl H).put h
theorem A8.gone {p:Addr} (e:A8 H H') (h:H' p=none):H p=none:=e.free h
theorem tyl {p:Addr} {xs:List V} (h:E6 K H p xs):tyV K "list" (.ref p) H:=.inl ⟨rfl,_,h⟩
structure QE (X:Cx) (e:Expr) (t:TE):Prop where
 h:PE X e t
structure QT (X:Cx) (e:Expr) (t:TT):Prop where
 h:PT X e t
structure QW (X:Cx) (e:Expr) (t:TT):Prop where
 h:PW X e t
structure QA (X:Cx) (e:List Expr) (t:TA):Prop where
 h:PA X e t
structure QS (X:Cx) (e:Stmt) (t:TS):Prop where
 h:PS X e t
structure QSs (X:Cx) (e:List Stmt) (t:TS):Prop where
 h:PSs X e t
structure QG (X:Cx) (e:Expr) (t:TG):Prop where
 h:PG X e t
structure QGs (X:Cx) (e:List Expr) (t:TGs):Prop where
 h:PGs X e t
structure QTs (X:Cx) (e:List Expr) (t:TT):Prop where
 h:PTs X e t
structure QO (X:Cx) (e:Option Expr) (t:TO):Prop where
 h:PO X e t
structure QI (X:Cx) (tg e:Expr) (t:TI):Prop where
 h:PI X tg e t
structure QB (Y:Cx) (elt:Expr) (gens:List Comprehension) (scope:Scope) (pos:Pos) (d:Nat) (acc:Addr) (tb:TS):Prop where
 h:PB Y elt gens scope pos d acc tb
theorem D1 (i:Nat) {x:Str} {pos:Pos} (hN:X.N[i]?=some x:=by rfl) (hv:Vis X.env.scope x:=by first|exact Or.inl rfl|exact Or.inr (Or.inl rfl)|exact Or.inr (Or.inr rfl)) (hd:noD x:=by decide) (hcd:(x==("__classdict__":Str))=false:=by decide):QE X (.Name x pos) (B0v i):=⟨pv i hN hv hd hcd⟩
theorem C16 {x:Str} {v:V} {u:Value} {pos:Pos} (hg:Gl X x) (hm:X.mg x=none) (hv:bootBuiltins x=some u) (r:G1 v u) (hn:x≠"__name__":=by decide) (hd:noD x:=by decide):QE X (.Name x pos) (tC v):=⟨C6h hg hm hv r hn hd⟩
theorem C0m {b j pos}:QE X (.Constant (.bool b) j pos) (tC (.bl b)):=⟨D7a ⟩
theorem B6m {j pos}:QE X (.Constant .none j pos) (tC .non):=⟨D4u ⟩
theorem N2 {i j pos}:QE X (.Constant (.int i) j pos) (tC (.int i)):=⟨C2s ⟩
theorem C65 {x j pos}:QE X (.Constant (.str x) j pos) (tC (.str x)):=⟨D44 ⟩
theorem A7r {op:UnaryOp} {r:V->Hp->VK->Prop} (ho:UnR X (unaryOp op) r) (ha:QE X a ta):QE X (.UnaryOp op a pos) (tUn r ta):=⟨D61 ho ha.h⟩
theorem C5r (ha:QE X a ta):QE X (.UnaryOp .Not a pos) (C0c ta):=⟨D3i ha.h⟩
theorem P8 {op:Operator} {r:R2} (ho:OpR X (binaryOp op) r) (ha:QE X a ta) (hb:QE X b tb):QE X (.BinOp a op b pos) (tOp r ta tb):=⟨D9h ho ha.h hb.h⟩
theorem C8u {G4:List Expr} (ha:QE X a ta) (hb:QE X (.BoolOp .And (b::G4) pos) tb):QE X (.BoolOp .And (a::b::G4) pos) (C4h ta tb):=⟨D4y ha.h hb.h⟩
theorem D1u {G4:List Expr} (ha:QE X a ta) (hb:QE X (.BoolOp .Or (b::G4) pos) tb):QE X (.BoolOp .Or (a::b::G4) pos) (D15 ta tb):=⟨D8p ha.h hb.h⟩
theorem C6u {op} {t:TE} (h:QE X a t):QE X (.BoolOp op [a] pos) t:=⟨D3p h.h⟩
theorem C1k {op:CmpOp} {r:R2} (ho:OpR X (compareOp op) r) (ha:QE X a ta) (hb:QE X b tb) (hm:behindInMarks op b=false):QE X (.Compare a [op] [b] pos) (tOp r ta tb):=⟨C8e ho ha.h hb.h hm⟩
theorem A94 {c:Expr} (hc:QT X c tA) (ha:QE X a ta) (hb:QE X b tb):QE X (.IfExp c a b pos) (tIf tA ta tb):=⟨C2w hc.h ha.h hb.h⟩
theorem B0q {x1} (h:QA X es t):QE X (.Tuple es x1 pos) (D3e t):=⟨D1j h.h⟩
theorem B1i (h:QA X es t):QE X (.List es pos) (D1c t):=⟨D0c h.h⟩
theorem A0r {lo hi:Option Expr} {r:V->Option Int->Option Int->Hp->VK->Prop} (hr:SlR X r) (he:QE X e te) (hl:QO X lo tl) (hu:QO X hi th):QE X (.Subscript e (.Slice lo hi none p2) pos) (tSl r te tl th):=⟨C0z hr he.h hl.h hu.h⟩
theorem G7 {r:R2} (hr:IxR X r) (ha:QE X a ta) (hb:QE X b tb) (hs:A4o b):QE X (.Subscript a b pos) (tOp r ta tb):=⟨D7s hr ha.h hb.h hs⟩
theorem J1 {X:Cx} {x:Str} {ps:List Str} {k:Nat} {p pos:Pos} {e:Expr} {es:List Expr} {t:TA} (D:Df X.prog X.w X.K X.mg X.base x ps k sp) (hr:S0 k X.A) (ha:QA X (e::es) t) (hg:Gl X x:=by rfl) (hdb:noD x:=by decide) (he:stE e es X.env:=by rfl) (hpl:stB pos es X.env:=by rfl):QE X (.Call (.Name x p) (e::es) [] pos) (A90 sp [] E0 t):=⟨D9a D hr ha.h hg hdb he hpl⟩
theorem K6 {id:String} (hc:R3 X (.builtin id) r) (hg:Gl X x) (hm:X.mg x=none) (hv:bootBuiltins x=some (.builtin id)) (ha:QA X (e::es) t) (hn:x≠"__name__":=by decide) (hdb:noD x:=by decide) (he:stE e es X.env:=by rfl) (hpl:stB pos es X.env:=by rfl):QE X (.Call (.Name x p) (e::es) [] pos) (tCB r t):=⟨C34 hc hg hm hv ha.h hn hdb he hpl⟩
theorem B5l (hc:R3 X (.type T) r) (hg:Gl X x) (hm:X.mg x=none) (hv:bootBuiltins x=some (.type T)) (ha:QA X (e::es) t) (hn:x≠"__name__":=by decide) (hdb:noD x:=by decide) (he:stE e es X.env:=by rfl) (hpl:stB pos es X.env:=by rfl):QE X (.Call (.Name x p) (e::es) [] pos) (tCB r t):=⟨B8u hc hg hm hv ha.h hn hdb he hpl⟩
theorem A5l (K:W.Frag) (hK:X.K=K) {e:Expr} {te:TE} (ho:QE X o to) (he:QE X e te) (hs:starEach [e] X.env=[(false,eval e X.env)]) (hbase:attributeBase o "append" X.env (eval o X.env)=eval o X.env) (hline:(apos.endLine==cpos.line)=true):QE X (.Call (.Attribute o "append" apos) [e] [] cpos) (tBM K "list" A46 to (A0j te A77)):=⟨B5b K hK ho.h he.h hs hbase hline⟩
theorem B5v (K:W.Frag) (hK:X.K=K) {e:Expr} {te:TE} (ho:QE X o to) (he:QE X e te) (hs:starEach [e] X.env=[(false,eval e X.env)]) (hbase:attributeBase o "pop" X.env (eval o X.env)=eval o X.env) (hline:(apos.endLine==cpos.line)=true):QE X (.Call (.Attribute o "pop" apos) [e] [] cpos) (tBM K "list" A5a to (A0j te A77)):=⟨B9q K hK ho.h he.h hs hbase hline⟩
theorem A59 (K:W.Frag) (hK:X.K=K) {tg l:Expr} {tl:TE} (hl:QE X l tl):QI X tg l (B7u K tl):=⟨C3f K hK hl.h⟩
theorem B8p (K:W.Frag) (hK:X.K=K) {a:Expr} {ta:TA} {p pos:Pos} {x1} (hg:Gl X "enumerate") (hm:X.mg "enumerate"=none) (ha:QA X [a] ta) (hs:starEach [a] X.env=[(false,eval a X.env)]):QI X (.Tuple elts x1 tp) (.Call (.Name "enumerate" p) [a] [] pos) (B78 K ta):=⟨C3r K hK hg hm ha.h hs⟩
theorem A3h {a:Expr} {ta:TA} {p pos:Pos} (hg:Gl X "range") (hm:X.mg "range"=none) (ha:QA X [a] ta) (hs:starEach [a] X.env=[(false,eval a X.env)]:=by rfl):QI X tg (.Call (.Name "range" p) [a] [] pos) (C4p ta):=⟨B91 hg hm ha.h hs⟩
theorem A6v {a b:Expr} {ta:TA} {p pos:Pos} (hg:Gl X "range") (hm:X.mg "range"=none) (ha:QA X [a,b] ta) (hs:starEach [a,b] X.env=[(false,eval a X.env),(false,eval b X.env)]:=by rfl) (hs2:starEach [b] X.env=[(false,eval b X.env)]:=by rfl):QI X tg (.Call (.Name "range" p) [a,b] [] pos) (A98 ta):=⟨B9y hg hm ha.h hs hs2⟩
theorem U8 (i:Nat) {x:Str} (hN:X.N.Nodup) (hi:X.N[i]?=some x:=by rfl) (hx:Loc X.env.scope x:=by first|exact Or.inl rfl|exact Or.inr rfl) (hf:X.fn x=true\/X.env.scope.names.lookup x=some .local:=by first|exact .inl rfl|exact .inr rfl|assumption):QG X (.Name x pos) (A19 i):=⟨pgn i hN hi hx hf⟩
theorem X2 (K:W.Frag) (n:Nat) (hK:X.K=K) {es:List Expr} {k:Nat} {t:TGs} {pos:Pos} (hc:X.calm=true) (h:QGs X es t) (hn:(assignEach es X.env).length=n) (hst:(assignEach es X.env).findIdx? (·.1)=none):QG X (.Tuple es k pos) (C51 K n t):=⟨C67 K n hK hc h.h hn hst⟩
theorem V5 {i: Expr} {ti: TE} {t: B5p} (ho : QE X o to) (hi : QE X i ti) (hs : C1j X t) (ha : ∀ v, assign (.Subscript o i pos) X.env v = (do
   let ov <- holding [v] (eval o X.env)
   let iv <- holding [v,ov] (eval i X.env)
   standAt pos
   holding [v,ov,iv] (setItem ov iv v)
   release [v,ov,iv] []):=by intro _;rfl):QG X (.Subscript o i pos) (D21 to ti t):=⟨D2j ho.h hi.h hs ha⟩
theorem D8 {e:Expr} {es:List Expr} {t:TG} {u:TGs} (h1:QG X e t) (h2:QGs X es u) (hs:(assignEach (e::es) X.env).map (·.2)=assign e X.env::(assignEach es X.env).map (·.2):=by rfl):QGs X (e::es) (B6h t u):=⟨C3z h1.h h2.h hs⟩
theorem T1 :QGs X [] C7i:=⟨C87 ⟩
theorem S9 {op:CmpOp} {r:R2} (ho:OpR X (compareOp op) r) (ha:QE X a ta) (hb:QE X b tb) (hm:behindInMarks op b=false):QT X (.Compare a [op] [b] pos) (C2z (tOp r ta tb)):=⟨C8w ho ha.h hb.h hm⟩
theorem C2u {X:Cx} {e:Expr} {t:TT} (h:QW X e t):QT X e t:=⟨PW.pt h.h⟩
theorem B7j {G4:List Expr} (ha:QT X a tA) (hb:QW X (.BoolOp .And (b::G4) pos) tB'):QW X (.BoolOp .And (a::b::G4) pos) (C58 tA tB'):=⟨D41 ha.h hb.h⟩
theorem B28 (ha:QT X a tA):QW X (.BoolOp .And [a] pos) tA:=⟨C7a ha.h⟩
theorem C24 {G4:List Expr} (ha:QT X a tA) (hb:QW X (.BoolOp .Or (b::G4) pos) tB'):QW X (.BoolOp .Or (a::b::G4) pos) (tOr tA tB'):=⟨D5s ha.h hb.h⟩
theorem B64 (ha:QT X a tA):QW X (.BoolOp .Or [a] pos) tA:=⟨D2u ha.h⟩
theorem B7z (ha:QT X a tA):QT X (.UnaryOp .Not a pos) (D1q tA):=⟨D23 ha.h⟩
theorem B6t {e:Expr} {t:TE} (h:QE X e t) (he:∀ whole,isTrue e X.env whole=(do let v <- whole;standAt e.pos;holding [v] (truthy v)):=by intro _;rfl):QT X e (tB t):=⟨D1t h.h he⟩
theorem B3 {G4:List Stmt} (h1:QS X st t) (h2:QSs X G4 u):QSs X (st::G4) (C59 t u):=⟨C2d h1.h h2.h⟩
theorem J8 (h1:QS X st t):QSs X [st] t:=⟨C8n h1.h⟩
theorem A4f :QSs X [] C48:=⟨C7r ⟩
theorem A41 (he:QE X e te):QS X (.Return (some e) pos) (D0e te):=⟨D3r he.h⟩
theorem X4 (he:QE X e te) (hs:swapsWith e none pos.line X.env=pure false:=by rfl):QS X (.Expr e pos) (C15 te):=⟨C81 he.h hs⟩
theorem S7 (i:Nat) {x:Str} (hN:X.N.Nodup) (he:QE X e te) (hi:X.N[i]?=some x:=by rfl) (hx:Loc X.env.scope x:=by first|exact Or.inl rfl|exact Or.inr rfl) (hs:swapsWith e (some (.Name x pos')) pos.line X.env=pure false:=by rfl) (hf:X.fn x=true\/X.env.scope.names.lookup x=some .local:=by first|exact .inl rfl|exact .inr rfl|assumption):QS X (.Assign [.Name x pos'] e pos) (B2i te (A19 i)):=⟨E2z i hN he.h hi hx hs hf⟩
theorem O7 {tg e:Expr} {te:TE} {g:TG} (he:QE X e te) (hg:QG X tg g) (hs:swapsWithSole [tg] e pos.line X.env=pure false:=by rfl) (hw:swappedStores [tg] e X.env=pure none:=by rfl) (h1:(assignEach [tg] X.env).map (·.2)=[assign tg X.env]:=by rfl):QS X (.Assign [tg] e pos) (B2i te g):=⟨D45 he.h hg.h hs hw h1⟩
theorem C8r {i:Nat} {x:Str} {e:Expr} {te:TE} {op:Operator} {ti:TIp} (hN:X.N.Nodup) (hi:X.N[i]?=some x) (hx:Loc X.env.scope x) (he:QE X e te) (ho:PIp X op ti) (hf:X.fn x=true\/X.env.scope.names.lookup x=some .local:=by first|exact .inl rfl|exact .inr rfl|assumption):QS X (.AugAssign (.Name x pos') op e pos) (D3g i te ti):=⟨D1e hN hi hx he.h ho hf⟩
theorem C3o {i e:Expr} {ti te:TE} {tget:V->V->Hp->VK->Prop} {tip:TIp} {tset:B5p} {op:Operator} (ho:QE X o to) (hi:QE X i ti) (hg:C7j X tget) (he:QE X e te) (hp:PIp X op tip) (hs:C1j X tset) (ha:∀ ov iv new,augStore i ov iv new=(do holding [new,ov,iv] (setItem ov iv new);release [new,ov,iv] [];pure .next):=by intros;rfl):QS X (.AugAssign (.Subscript o i tpos) op e pos) (C4s to ti te tget tip tset):=⟨C5l ho.h hi.h hg he.h hp hs ha⟩
theorem B1b {c:Expr} {a b:List Stmt} (hc:QT X c tc) (ha:QSs X a t) (hb:QSs X b u):QS X (.If c a b pos) (D28 tc t u):=⟨D63 hc.h ha.h hb.h⟩
theorem A3x {g:TG} {tb:TS} {pos:Pos} (hp:PassesOwn (model X.prog X.w) X.A X.env X.xe) (hc:X.calm=true) (hi:QI X tg iter wi) (hg:QG X tg g) (hb:QSs X body tb) (hs:∀ x,foldedSetIterable iter X.env x=pure x:=by intro _;rfl):QS X (.For tg iter body [] pos) (C4k wi g tb):=⟨D2e hp hc hi.h hg.h hb.h hs⟩
theorem A2n {c:Expr} {tb:TS} (hp:PassesOwn (model X.prog X.w) X.A X.env X.xe) (hc:QT X c tc) (hb:QSs X body tb):QS X (.While c body [] pos) (C2h tc tb):=⟨C0h hp hc.h hb.h⟩
theorem A6s {Y:Cx}:QTs Y [] (λ_ H Q=>Q true H):=⟨C7p ⟩
theorem B3j {Y:Cx} {c:Expr} {t:TT} (hc:QT Y c t):QTs Y [c] t:=⟨C79 hc.h⟩
theorem A3y {te:TE} (hg:gens[d+1]?=none) (hx:Y.xe=λ_ _=>False) (he:QE Y elt te):QB Y elt gens scope pos d acc (B3n acc te):=⟨C8t hg hx he.h⟩
theorem C8g {tg:Expr} {g:TG} {tb:TS} (hgd:gens[d+1]?=some ⟨tg,iter,ifs,0⟩) (hx:Y.xe=λ_ _=>False) (hc:Y.calm=true) (hs:∀ x,foldedSetIterable iter Y.env x=pure x) (hi:QI Y tg iter wi) (hg:QG Y tg g) (ht:QTs Y ifs ti) (hb:QB Y elt gens scope pos (d+1) acc tb):QB Y elt gens scope pos d acc (C4k wi g (B2o ti tb)):=⟨D18 hgd hx hc hs hi.h hg.h ht.h hb.h⟩
theorem A2 (ha:QE X e te) (hr:QA X es t) (hs:stE e es X.env:=by rfl):QA X (e::es) (A0j te t):=⟨A2k ha.h hr.h hs⟩
theorem B5 :QA X [] A77:=⟨A88 ⟩
theorem A1o :QO X none A2s:=⟨C6g ⟩
theorem A22 (h:QE X e te):QO X (some e) (A9c te):=⟨C5n h.h⟩
theorem C2x {X:Cx} {es:List Expr} {ns:List Int} (h:A7z es=some ns):QA X es (λ_ H Q=>Q (ns.map V.int) H):=⟨B76 h⟩
theorem B0s {X:Cx} {elt tg:Expr} {G4:List Comprehension} {scope:Scope} {pos:Pos} {g:TG} {tb:Addr->TS} (own:List Str) (cap:List (Str × Nat)) (hc:X.calm=true) (L:C7 X scope own cap) (hi:QI X tg iter wi)
  (hin:∀ (s₃:Shared) (H₃:Hp) (fp:List Addr) (acc:Addr),QG (X.inn scope (N6 own cap) s₃ H₃ fp) tg g/\QTs (X.inn scope (N6 own cap) s₃ H₃ fp) ifs ti/\QB (X.inn scope (N6 own cap) s₃ H₃ fp) elt (⟨tg,iter,ifs,0⟩::G4) scope pos 0 acc (tb acc))
  (hs:∀ x,foldedSetIterable iter X.env x=pure x:=by intro _;rfl):QE X (.ListComp elt (⟨tg,iter,ifs,0⟩::G4) scope pos) (tLC wi g ti tb own cap):=⟨D62 own cap hc L hi.h (λa b c d=>⟨(hin a b c d).1.h,(hin a b c d).2.1.h,(hin a b c d).2.2.h⟩) hs⟩
theorem B96 {X:Cx} {i:Nat} {elt tg:Expr} {G4:List Comprehension} {scope:Scope} {pos:Pos} {g:TG} {tb:Addr->TS} (own:List Str) (cap:List (Str × Nat)) (hN:X.N.Nodup) (hyi:X.N[i]?=some y) (hy:X.env.scope.names.lookup y=some .local) (hc:X.calm=true) (L:C7 X scope own cap) (hi:QI X tg iter wi)
  (hin:∀ (s₃:Shared) (H₃:Hp) (fp:List Addr) (acc:Addr),QG (X.inn scope (N6 own cap) s₃ H₃ fp) tg g/\QTs (X.inn scope (N6 own cap) s₃ H₃ fp) ifs ti/\QB (X.inn scope (N6 own cap) s₃ H₃ fp) elt (⟨tg,iter,ifs,0⟩::G4) scope pos 0 acc (tb acc))
  (hsw:swapsWith (.ListComp elt (⟨tg,iter,ifs,0⟩::G4) scope pos) (some (.Name y py)) spos.line X.env=pure true:=by rfl) (hs:∀ x,foldedSetIterable iter X.env x=pure x:=by intro _;rfl) :
  QS X (.Assign [.Name y py] (.ListComp elt (⟨tg,iter,ifs,0⟩::G4) scope pos) spos) (B2i (tLC wi g ti tb own cap) (A19 i)):=⟨C1o own cap hN hyi hy hc L hi.h (λa b c d=>⟨(hin a b c d).1.h,(hin a b c d).2.1.h,(hin a b c d).2.2.h⟩) hsw hs⟩
theorem qmk {X:Cx} {b:List Stmt} {t:TS} {D:V0} (h:QSs X b t) (r:t D U H):∃ t,PSs X b t/\t D U H:=⟨t,h.h,r⟩
section
variable {X:Cx}
theorem A6h:OpR X (binaryOp .Mult) (rI IntMulOk λi j=>.int (i*j)):=opI λ_ _ _ _ _ _ _ hc q=>mul_int q hc
end
theorem A0a (n i j:Nat) (h:i≠j):n+i≠n+j:=by lia
theorem B7p {a:Int} (h1:-(2 ^ m) < a) (h2:a < 2 ^ m):Builtin.Int.intBits a<=m:=by
 refine intBits_le_iff.mpr ?_;have e:((2 ^ m:Nat):Int)=(2:Int) ^ m:=by simp
 lia
theorem D8j {a b:Int} {n:Nat} (h1:-(2 ^ m) < a) (h2:a < 2 ^ m) (h3:-(2 ^ n) < b) (h4:b < 2 ^ n) (h:m+n<=134217728):IntMulOk a b:=mulOk_of_bits (B7p h1 h2) (B7p h3 h4) h
section
variable {X:Cx} {pins:List (Addr × Obj)} {U:St} {H:Hp} {s:Shared} {h':Heap} {t':Nat}
theorem C0.turnMany {ch:List Addr} (I:C0 X pins U H s) (k:∀ b u,b∉ch->s.heap.get? b=some u->h'.get? b=some u) (hch:∀ b∈ch,A1d X pins H b) :
  C0 X pins U H { s with heap:=h',toks:=t' }:=by
 have nch:∀ b u,H b=some u->b∉ch:=λb u e z=>by rw[(hch b z).1] at e;cases e
 refine I.call (g':=s.gens) (d':=s.drawn) (ch:=ch) ⟨λb u q _ _ hx=>k b u hx q,λb u q _ _ hx=>⟨u.slots,k b u hx q⟩,λb u q n _=>n,λb u q hx=>⟨u,k b u hx q⟩,λb xs q=>q,λb u xs q=>q,λb ps q=>⟨#[],by rw[q];simp⟩⟩ (λb u e=>?_) I.bare
  λb hb=>⟨(hch b hb).2.2.2.1,(hch b hb).2.1,(hch b hb).2.2.2.2.1,(hch b hb).2.2.2.2.2⟩
 refine (I.hok b u e).stay (λc v hc q=>k c v ?_ q) (λc q=>q) λc xs q=>q;rcases hc with z|z
 ·rw[z];exact nch b u e
 ·exact nch c _ z
end
def Itz (K:W.Frag) (a b:Addr):It :=
 ⟨λi H=>∃ xs ys x y,E6 K H a xs/\E6 K H b ys/\xs[i]?=some x/\ys[i]?=some y,λi H z H'=>∃ p x y,H p=none/\(∀ xs,E6 K H a xs->xs[i]?=some x)/\(∀ ys,E6 K H b ys->ys[i]?=some y)/\z=.ref p/\H'=E5 H p (.tup [x,y]),λi H=>∃ xs ys,E6 K H a xs/\E6 K H b ys/\(xs.length<=i\/ys.length<=i)⟩
theorem C2r {x1} (a b z TI TO i1 i2:Addr) (h1z:TI≠z) (h2z:TO≠z) (h3z:i1≠z) (h4z:i2≠z) (h5:TI≠TO) (h6:TI≠i1) (h7:TI≠i2) (h8:TO≠i1) (h9:TO≠i2) (h10:i1≠i2) :
  B3w P w K (.Tuple elts x1 tp) (Itz K a b) [z,TI,TO,i1,i2] z (λi h=>IsZip h z TI TO .none/\IsPair h TI (.ref i1) (.ref i2)/\(∃ u v,IsPair h TO u v)/\h.IsListIter i1 a i/\h.IsListIter i2 b i) where
 mem:=by simp
 obj:=λi h st c hc=>by
  obtain ⟨hz,hTI,⟨u,v,hTO⟩,⟨o1,e1,c1,d1⟩,⟨o2,e2,c2,d2⟩⟩:=st;simp only[zn,List.not_mem_nil,or_false] at hc;rcases hc with rfl|rfl|rfl|rfl|rfl
  ·exact ⟨_,hz,λv z=>by
    have z':Data.fields _=Data.cell v:=z;cases z'⟩
  ·exact ⟨_,hTI,λv z=>by
    have z':Data.seq _=Data.cell v:=z;cases z'⟩
  ·exact ⟨_,hTO,λv z=>by
    have z':Data.seq _=Data.cell v:=z;cases z'⟩
  ·exact ⟨o1,e1,λv z=>by rw[d1] at z;cases z⟩
  ·exact ⟨o2,e2,λv z=>by rw[d2] at z;cases z⟩
 keep:=λi h h' st k=>by
  obtain ⟨hz,hTI,⟨u,v,hTO⟩,g1,g2⟩:=st;exact ⟨k z (by simp) _ hz,k TI (by simp) _ hTI,⟨u,v,k TO (by simp) _ hTO⟩,g1.at λo e=>k i1 (by simp) o e,g2.at λo e=>k i2 (by simp) o e⟩
 item:=by
  sleep 6;subst hP hw hK;obtain ⟨hz,hTI,⟨u,v,hTO⟩,g1,g2⟩:=st;obtain ⟨xs,ys,x,y,hq,hq2,hx,hy⟩:=hg;obtain ⟨its,rv,p,_⟩:=I.list hq;obtain ⟨its2,rv2,p2,_⟩:=I.list hq2;obtain ⟨ux,hux,rux⟩:=rv.get hx;obtain ⟨uy,huy,ruy⟩:=rv2.get hy;have hl1:=p.isList;have hl2:=p2.isList;have nz:∀ {c l:Addr} {o:Obj} {r:Array Value},s.heap.get? c=some o->o.cls≠.type "list"->s.heap.IsList l r->l≠c:=λ{c l o r} e hn hL z=>by
   subst z;obtain ⟨o',e',c',_⟩:=hL;rw[e] at e';cases e';exact hn c'
  obtain ⟨o1,e1,c1,d1⟩:=id g1;obtain ⟨o2,e2,c2,d2⟩:=id g2;have lt1:z < s.heap.objs.size:=qm hz;have lt2:TO < s.heap.objs.size:=qm hTO;have lt3:i1 < s.heap.objs.size:=qm e1;have lt4:i2 < s.heap.objs.size:=qm e2;have lt5:TI < s.heap.objs.size:=qm hTI;have nZ:(Value.type "zip")≠.type "list":=by decide
  have nT:(Value.type "tuple")≠.type "list":=by decide
  have D:ZipApart z TI TO i1 i2 a b:=⟨h1z,h2z,h3z,h4z,h5,h6,h7,h8,h9,h10,nz hz nZ hl1,nz hTO nT hl1,nz e1 (by rw[c1];decide) hl1,nz e2 (by rw[c2];decide) hl1,nz hz nZ hl2,nz hTO nT hl2,nz e1 (by rw[c1];decide) hl2,nz e2 (by rw[c2];decide) hl2⟩;refine wpAny_pyNext_zip_item D hz hTI hTO g1 g2 hl1 hl2 (x:=ux) (y:=uy) (by simpa using hux) (by simpa using huy) λh' a1 a2 a3 a4 a5 a6 hk=>?_;refine ⟨_,rfl,wpAny_letOwnedTupleGo_zip (s:={ s with heap:=h' }) a1 λh2 hz' hs'=>?_⟩;have k2:∀ c o,c≠z->c≠TO->c≠i1->c≠i2->s.heap.get? c=some o->h2.get? c=some o:=λc o n1 n2 n3 n4 e=>(hs'.2 c n1).trans (hk c o n1 n2 n3 n4 e);refine ⟨.ref s.heap.objs.size,E5 H s.heap.objs.size (.tup [x,y]),?_,rfl,⟨_,x,y,I.fresh,λq hy=>by rw[I.list_inj hy hq];exact hx,λq h=>by rw[I.list_inj h hq2];exact hy,rfl,rfl⟩,⟨hz',k2 _ _ h1z h5 h6 h7 hTI,⟨_,_,(hs'.2 TO h2z).trans a2⟩,a3.at λo e=>(hs'.2 i1 h3z).trans e,a4.at λo e=>(hs'.2 i2 h4z).trans e⟩,λc hc=>?_⟩
  ·have I1:=I.turnLay (h':=h2) (t':=s.toks) (a:=s.heap.objs.size) (o:=.tup [x,y]) (ch:=[z,TI,TO,i1,i2]) (λc o hc q=>k2 c o (λe=>hc (by simp[e])) (λe=>hc (by simp[e])) (λe=>hc (by simp[e])) (λe=>hc (by simp[e])) q) (qt _) ?_ hf
   ·exact I1
   exact ⟨by show 2<=sizeLine;decide,[ux,uy],.cons rux (.cons ruy .nil),⟨_,(hs'.2 _ (Nat.ne_of_gt lt1)).trans a5,rfl,0,rfl⟩⟩
  ·have nn:=(hf c hc).1;have:c≠s.heap.objs.size:=by
    simp only[zn,List.not_mem_nil,or_false] at hc;rcases hc with hc|hc|hc|hc|hc<;>(rw[hc];apply ze;assumption)
   rw[B4 this];exact nn
 done:=by
  sleep 6;subst hP hw hK;obtain ⟨hz,hTI,⟨u,v,hTO⟩,g1,g2⟩:=st;obtain ⟨xs,ys,hq,hq2,hend⟩:=hg;obtain ⟨its,rv,p,_⟩:=I.list hq;obtain ⟨its2,rv2,p2,_⟩:=I.list hq2;have hl1:=p.isList;have hl2:=p2.isList;have nz:∀ {c l:Addr} {o:Obj} {r:Array Value},s.heap.get? c=some o->o.cls≠.type "list"->s.heap.IsList l r->l≠c:=λ{c l o r} e hn hL z=>by
   subst z;obtain ⟨o',e',c',_⟩:=hL;rw[e] at e';cases e';exact hn c'
  obtain ⟨o1,e1,c1,d1⟩:=id g1;obtain ⟨o2,e2,c2,d2⟩:=id g2;have nZ:(Value.type "zip")≠.type "list":=by decide
  have nT:(Value.type "tuple")≠.type "list":=by decide
  have D:ZipApart z TI TO i1 i2 a b:=⟨h1z,h2z,h3z,h4z,h5,h6,h7,h8,h9,h10,nz hz nZ hl1,nz hTO nT hl1,nz e1 (by rw[c1];decide) hl1,nz e2 (by rw[c2];decide) hl1,nz hz nZ hl2,nz hTO nT hl2,nz e1 (by rw[c1];decide) hl2,nz e2 (by rw[c2];decide) hl2⟩;have l1:=rv.length;have l2:=rv2.length;refine wpAny_pyNext_zip_end (I.ok.hd hc) D hz hTI hTO g1 g2 hl1 hl2 (by rcases hend with h|h<;>simp<;>lia) λh' hk=>⟨rfl,?_⟩;exact I.turnMany (t':=s.toks) (ch:=[z,TI,TO,i1,i2]) (λc o hc q=>hk c o (λe=>hc (by simp[e])) (λe=>hc (by simp[e])) (λe=>hc (by simp[e])) (λe=>hc (by simp[e])) q) hf
 self:=λ_ _ _ _ _ st h=>wpAny_pyIter_zip st.1 h
section
variable {X:Cx}
def C5u (K:W.Frag) (ta:TA):TI:=λU H R=>ta U H λvs H1=>∃ a b,vs=[.ref a,.ref b]/\(∃ xs,E6 K H1 a xs)/\(∃ ys,E6 K H1 b ys)/\R (Itz K a b) H1
variable {a:Expr} {ta:TA} {p:Pos}
theorem D47 {b:Expr} {pos:Pos} {x1} (hg:Gl X "zip") (hm:X.mg "zip"=none) (ha:PA X [a,b] ta) (hs:starEach [a,b] X.env=[(false,eval a X.env),(false,eval b X.env)]:=by rfl) (hs2:starEach [b] X.env=[(false,eval b X.env)]:=by rfl) :
  PI X (.Tuple elts x1 tp) (.Call (.Name "zip" p) [a,b] [] pos) (C5u X.K ta):=by
 intro pins s U H R I h;refine Call_ (A04 I hg hm boot_zip (PyProof.Rows.callWith_type1 (J9 (ha pos pins s U H _ I h) λus s1 ⟨vs,H1,I1,r1,q1⟩=>?_) (by rw[hs,hs2]) (by rw[hs2];rfl)));obtain ⟨a,b,e,⟨xs,hq⟩,⟨ys,hq2⟩,q⟩:=q1;subst e;obtain ⟨u,v,rfl,ru,rv'⟩:=B2t r1;cases ru;cases rv';obtain ⟨its,rv,p,hz⟩:=I1.list hq;obtain ⟨its2,rv2,p2,hz2⟩:=I1.list hq2;refine call_zip_2 p.isList p2.isList λh' g1 g2 g3 g4 g5 hsz hk=>?_;refine wpAny_pyIter_zip g1 ?_;have I2:C0 X pins U H1 { s1 with heap:=h' }:=I1.kept (t':=s1.toks) hk;refine ⟨s1.heap.objs.size+4,[s1.heap.objs.size+4,s1.heap.objs.size+2,s1.heap.objs.size+3,s1.heap.objs.size,s1.heap.objs.size+1],_,_,H1,rfl,I2,C2r a b _ _ _ _ _ (A0a _ 2 4 (by decide)) (A0a _ 3 4 (by decide)) (A0a _ 0 4 (by decide)) (A0a _ 1 4 (by decide)) (A0a _ 2 3 (by decide)) (A0a _ 2 0 (by decide)) (A0a _ 2 1 (by decide)) (A0a _ 3 0 (by decide)) (A0a _ 3 1 (by decide)) (A0a _ 0 1 (by decide)),⟨g1,g2,⟨_,_,g3⟩,g4,g5⟩,λc hc=>?_,q⟩;have:s1.heap.objs.size<=c:=by
  simp only[zn,List.not_mem_nil,or_false] at hc;rcases hc with hc|hc|hc|hc|hc<;>(rw[hc];first|exact qt _|exact Nat.le_add_right _ _)
 exact I1.fpOk this (I1.hok.fresh this)
theorem C5b (K:W.Frag) (hK:X.K=K) {b:Expr} {pos:Pos} {x1} (hg:Gl X "zip") (hm:X.mg "zip"=none) (ha:PA X [a,b] ta) (hs:starEach [a,b] X.env=[(false,eval a X.env),(false,eval b X.env)]) (hs2:starEach [b] X.env=[(false,eval b X.env)]) :
  PI X (.Tuple elts x1 tp) (.Call (.Name "zip" p) [a,b] [] pos) (C5u K ta):=by subst hK;exact D47 hg hm ha hs hs2
theorem B2q (K:W.Frag) (hK:X.K=K) {b:Expr} {pos:Pos} {x1} (hg:Gl X "zip") (hm:X.mg "zip"=none) (ha:QA X [a,b] ta) (hs:starEach [a,b] X.env=[(false,eval a X.env),(false,eval b X.env)]:=by rfl) (hs2:starEach [b] X.env=[(false,eval b X.env)]:=by rfl) :
  QI X (.Tuple elts x1 tp) (.Call (.Name "zip" p) [a,b] [] pos) (C5u K ta):=⟨C5b K hK hg hm ha.h hs hs2⟩
end
theorem C0f {a b:Addr} (xs ys:List V) (hlen:xs.length=ys.length) {g:TG} {tb:TS} {D:V0} (Pv:Nat->St->Hp->Prop) (h0:Pv 0 U H) (hl:∀ i U H,i<=xs.length->Pv i U H->E6 K H a xs/\E6 K H b ys)
  (hs:∀ i x y p U H,xs[i]?=some x->ys[i]?=some y->Pv i U H->H p=none->g (.ref p) U (E5 H p (.tup [x,y])) λσ2 H2=>tb { D with nx:=Pv (i+1),ct:=Pv (i+1),bk:=D.nx } σ2 H2) (hd:∀ U H,Pv xs.length U H->D.nx U H):A45 (Itz K a b) g tb D U H:=by
 refine ⟨λi m U H=>m=xs.length - i/\i<=xs.length/\Pv i U H,⟨xs.length,by simp,jb _,h0⟩,?_⟩;rintro i m U H ⟨rfl,hi,p⟩;have q:=hl i U H hi p;by_cases hlt:i < xs.length
 ·have hlt2:i < ys.length:=hlen ▸ hlt;refine .inr ⟨⟨xs,ys,xs[i],ys[i],q.1,q.2,by simp[hlt],by simp[hlt2]⟩,Pv (i+1),λU' H' p'=>⟨xs.length - (i+1),by lia,rfl,hlt,p'⟩,λx H' y=>?_⟩;obtain ⟨pp,z,z2,hn,hy,hy2,rfl,rfl⟩:=y;exact hs i z z2 pp U _ (hy xs q.1) (hy2 ys q.2) p hn
 ·have e:i=xs.length:=by lia
  subst e;exact .inl ⟨⟨xs,ys,q.1,q.2,.inl (qt _)⟩,hd U H p⟩
end L2
namespace M36
def E30 (n:Nat) (f:Nat->Int):Int:=((List.range n).map f).sum
def E2t (n:Nat) (A B:Nat->Nat->Int) (i j:Nat):Int:=E30 n λk=>A i k*B k j
def mid (i j:Nat):Int:=if i=j then 1 else 0
def D96 (n:Nat) (M:Nat->Nat->Int):Nat->Nat->Nat->Int
 | 0=>mid
 | e+1=>E2t n (D96 n M e) M
def Bd (n B:Nat) (M:Nat->Nat->Int):Prop:=∀ i j,i < n->j < n->-(2 ^ B) < M i j/\M i j < 2 ^ B
theorem Bd.mono {n B B':Nat} {M:Nat->Nat->Int} (h:Bd n B M) (hB:B<=B'):Bd n B' M:=λi j hi hj=>by
 obtain ⟨h1,h2⟩:=h i j hi hj;have:(2:Int) ^ B<=2 ^ B':=by
  have:=Nat.pow_le_pow_right (n:=2) (by decide) hB
  exact_mod_cast this
 lia
end M36
namespace L2
open M36
theorem Q1 {i:Nat} (h:i < 1000000):i < sizeLine:=qv h (by decide)
def TrX (h base:Heap) (e:Addr) (cls a0 fl:Value):Prop :=
 ∃ oe vs T oT ts,h.get? e=some oe/\(oe.cls=cls/\vs[0]?=some a0/\vs[2]?=some .none)/\oe.data=.fields vs/\vs[1]?=some (.ref T)/\base.get? T=none/\T≠e/\h.get? T=some oT/\oT.data=.fields ts/\ts[3]?=some fl
def A2w (base:Heap) (l:List Env) (e:Addr) (cls a0:Value) (h:Heap):Prop:=base.StaysIn h/\base.get? e=none/\h.FunFrames base l/\TrX h base e cls a0 .none
def C9y (base:Heap) (l:List Env) (e:Addr) (cls a0:Value) (L:Addr) (h:Heap):Prop:=base.StaysIn h/\base.get? e=none/\h.FunFrames base l/\TrX h base e cls a0 (rawInt L)
theorem A2w.own {base h:Heap} {l:List Env} {e:Addr} (x:A2w base l e cls a0 h):∃ oe vs,h.get? e=some oe/\oe.cls=cls/\oe.data=.fields vs/\vs[2]?=some .none :=
 let ⟨_,_,_,oe,vs,_,_,_,he,hc,hd,_⟩:=x;⟨oe,vs,he,hc.1,hd,hc.2.2⟩
section
variable {M:Model} {A:Around} {E:Value->Shared->Prop} {s:Shared} {base:Heap} {env:Env} {outer l:List Env} {L e:Addr} {oe:Obj} {vs:Array Value} {cls a0:Value} {Q:Unit->Shared->Prop}
theorem C3s {head:Value} {nx:Bool} (hfr:A.frames=some (env::outer)) (hl:s.heap.FunFrames base (env::outer)) (hf:env.frame=some L)
  (he:s.heap.get? e=some oe) (hkb:base.StaysIn s.heap) (hen:base.get? e=none) (hd:oe.data=.fields vs) (hsz:1 < vs.size) (h0:vs[0]?=some a0) (h2:vs[2]?=some .none)
  (h:∀ h',base.StaysIn h'->h'.FunFrames base (env::outer)->TrX h' base e oe.cls a0 (rawInt L)->s.heap.UpToSlots h'->Q () { s with heap:=h' }) :
  wpAny M A (do setField (.ref e) 1 (<- EntryCells.newEntry head (<- frameOf env) .none (rawInt L) .none (<- entryPlaceOf L nx))) Q E s:=by
 have nf:e∉(env::outer).filterMap (·.frame):=λz=>by
  obtain ⟨_,o,q,n⟩:=hl.mem z;rw[he] at q;cases q;exact n vs hd
 refine qd (wpAny_frameOf_fun hfr hl hf λh1 k1=>?_);refine qd (wpAny_entryPlaceOf λpl hp=>?_);unfold EntryCells.newEntry newFields;refine qd (wpAny_newObj_type ?_ (hp.sizeOk5 _ _ _ _ _));generalize ho:({ cls:=.type "traceback",dict:=none,data:=.fields ([head,.ref L,.none,rawInt L,.none]++(if pl.isEmpty then List.replicate 6 Value.none else pl)).toArray }:Obj)=oT;have e1:h1.get? e=some oe:=(k1.2.1 e nf).trans he;have b1:base.StaysIn h1:=λb o q=>(k1.2.1 b λz=>by rw[(hl.mem z).1] at q;cases q).trans (hkb b o q);have ne:h1.objs.size≠e:=Nat.ne_of_gt (qm e1);have e2:(h1.push oT).get? e=some oe:=qc oT e1;have d3:=Obj.data_mapFields hd (·.setIfInBounds 1 (Value.ref h1.objs.size));refine wpAny_setField e2 hd hsz ?_;have t2:(h1.push oT).get? h1.objs.size=some oT:=by rw[<-ho];exact qq _ rfl
 have keep:∀ b o,b≠e->h1.get? b=some o->((h1.push oT).update e (Obj.mapFields (·.setIfInBounds 1 (Value.ref h1.objs.size)))).get? b=some o:=λb o hb q=>by
  rw[zy _ _ (Ne.symm hb)];exact qc _ q
 have noe:∀ b o,s.heap.get? b=some o->(∀ ws,o.data≠.fields ws)->b≠e:=λb o q n z=>by
  rw[z,he] at q;cases q;exact n vs hd
 have up:∀ b o,s.heap.get? b=some o->(∀ ws,o.data≠.fields ws)->∃ sl,((h1.push oT).update e (Obj.mapFields (·.setIfInBounds 1 (Value.ref h1.objs.size)))).get? b=some { o with slots:=sl }:=λb o q n=>by
  obtain ⟨sl,z⟩:=k1.2.2 b o q;exact ⟨sl,keep b _ (noe b o q n) z⟩
 refine h _ (λb o q=>keep b o (λz=>by rw[z,hen] at q;cases q) (b1 b o q)) (hl.of_keeps λb o q n=>?_) ?_ up
 ·obtain ⟨sl,z⟩:=up b o q n;exact ⟨_,z,rfl⟩
 ·refine ⟨_,_,h1.objs.size,oT,_,Heap.get?_update_self _ e2 (Obj.isFreed_of_fields d3),⟨Obj.cls_mapFields _ _,?_,?_⟩,d3,by simp[hsz],b1.fresh,ne,?_,by rw[<-ho],?_⟩
  ·rw[Array.getElem?_setIfInBounds_ne (by decide)];exact h0
  ·rw[Array.getElem?_setIfInBounds_ne (by decide)];exact h2
  ·rw[zy _ _ (Ne.symm ne)];exact t2
  ·first|(simp;done)|(rcases hp with rfl|⟨_,_,_,_,_,_,_,rfl⟩<;>simp)
theorem C4j (hfr:A.frames=some (env::outer)) (hl:s.heap.FunFrames base (env::outer)) (hf:env.frame=some L)
  (he:s.heap.get? e=some oe) (hkb:base.StaysIn s.heap) (hen:base.get? e=none) (hd:oe.data=.fields vs) (h0:vs[0]?=some a0) (h2:vs[2]?=some .none)
  (h1:vs[1]?=some .none\/∃ T oT ts,vs[1]?=some (.ref T)/\base.get? T=none/\T≠e/\s.heap.get? T=some oT/\oT.data=.fields ts/\ts[3]?=some .none)
  (h:∀ h',base.StaysIn h'->h'.FunFrames base (env::outer)->TrX h' base e oe.cls a0 (rawInt L)->s.heap.UpToSlots h'->Q () { s with heap:=h' }):wpAny M A (noteFrame (.ref e) env) Q E s:=by
 unfold noteFrame;simp only[hf];rcases h1 with h1|⟨T,oT,ts,h1,bT,nT,hT,dT,t3⟩
 ·refine qd (wpAny_field he hd h1 ?_);rw[qs (by decide)];exact C3s hfr hl hf he hkb hen hd (zo.mp h1).1 h0 h2 h
 ·refine qd (wpAny_field he hd h1 ?_);rw[qr (show (Value.ref T != Value.none)=true from by simp)];refine qd (wpAny_field hT dT t3 ?_);rw[qs (show ¬ ((Value.none==rawInt L)=true) from by simp[rawInt])];refine qd (wpAny_setField hT dT (zo.mp t3).1 ?_);have oth:∀ b,b≠T->(s.heap.update T (Obj.mapFields (·.setIfInBounds 3 Value.none))).get? b=s.heap.get? b:=λb hb=>zy _ _ (Ne.symm hb);have noT:∀ b o,s.heap.get? b=some o->(∀ ws,o.data≠.fields ws)->b≠T:=λb o q n z=>by
   rw[z,hT] at q;cases q;exact n ts dT
  refine C3s hfr (hl.of_keeps λb o q n=>⟨o,(oth b (noT b o q n)).trans q,rfl⟩) hf ((oth e (Ne.symm nT)).trans he) (λb o q=>(oth b λz=>by rw[z,bT] at q;cases q).trans (hkb b o q)) hen hd (zo.mp h1).1 h0 h2 λh' x1 x2 x3 x4=>?_;exact h h' x1 x2 x3 λb o q n=>x4 b o ((oth b (noT b o q n)).trans q) n
theorem A6l {fl:Value} (hkb:base.StaysIn s.heap) (hl:s.heap.FunFrames base l) (ht:TrX s.heap base e cls a0 fl)
  (h:∀ h',base.StaysIn h'->h'.FunFrames base l->TrX h' base e cls a0 .none->s.heap.UpToSlots h'->Q () { s with heap:=h' }):wpAny M A (setFlight (.ref e) none) Q E s:=by
 obtain ⟨oe,vs,T,oT,ts,he,hc,hd,h1,bT,nT,hT,dT,t3⟩:=ht;have oth:∀ b,b≠T->(s.heap.update T (Obj.mapFields (·.setIfInBounds 3 ((none:Option Addr).elim Value.none λf=>rawInt f)))).get? b=s.heap.get? b:=λb hb=>zy _ _ (Ne.symm hb);have noT:∀ b o,s.heap.get? b=some o->(∀ ws,o.data≠.fields ws)->b≠T:=λb o q n z=>by
  rw[z,hT] at q;cases q;exact n ts dT
 have z3:3 < ts.size:=(zo.mp t3).1;unfold setFlight;refine qd (wpAny_field he hd h1 ?_);rw[qr (show (Value.ref T != Value.none)=true from by simp)];refine wpAny_setField hT dT z3 (h _ (λb o q=>(oth b λz=>by rw[z,bT] at q;cases q).trans (hkb b o q)) (hl.of_keeps λb o q n=>⟨o,(oth b (noT b o q n)).trans q,rfl⟩) ?_ λb o q n=>⟨o.slots,(oth b (noT b o q n)).trans q⟩);exact ⟨oe,vs,T,_,_,(oth e (Ne.symm nT)).trans he,hc,hd,h1,bT,nT,Heap.get?_update_self _ hT (Obj.isFreed_of_fields (Obj.data_mapFields dT _)),Obj.data_mapFields dT _,by simp[z3]⟩
theorem B42 (hfr:A.frames=some (env::outer)) (hf:env.frame=some L) (fl:A2w base (env::outer) e cls a0 s.heap)
  (hQ:∀ h',A2w base outer e cls a0 h'->s.heap.UpToSlots h'->Q () { s with heap:=h' }):wpAny M A (leaving env (.ref e)) Q E s:=by
 obtain ⟨f1,f2,f3,oe,vs,T,oT,ts,he,⟨rfl,h0,h2⟩,hd,h1,r⟩:=fl;unfold leaving;refine qd (C4j hfr f3 hf he f1 f2 hd h0 h2 (.inr ⟨T,oT,ts,h1,r⟩) λh' x1 x2 x3 x4=>?_);refine A6l (s:={ s with heap:=h' }) x1 x2 x3 λh'' y1 y2 y3 y4=>?_;obtain ⟨_,_,y2⟩:=y2;exact hQ h'' ⟨y1,f2,y2,y3⟩ (x4.trans y4)
theorem B1z {h:Heap} {args:List Value} (hfr:A.frames=some (env::outer)) (hf:env.frame=some L) (hkb:base.StaysIn h) (hl:h.FunFrames base (env::outer)) (hx:Heap.MadeExcOf h s.heap e cls args)
  (hQ:∀ h' t,A2w base outer e cls (.ref t) h'->h'.TupAt t args->base.get? t=none->s.heap.UpToSlots h'->Q () { s with heap:=h' }):wpAny M A (leaving env (.ref e)) Q E s:=by
 obtain ⟨t,he,htn,ht⟩:=hx.there;have fresh:∀ b,h.get? b=none->base.get? b=none:=λb hb=>by
  cases q:base.get? b with
  | none=>rfl
  | some o=>have:=hkb b o q;rw[hb] at this;cases this
 unfold leaving;refine qd (C4j (a0:=.ref t) hfr (hl.of_keeps λb o q _=>⟨o,hx.keeps b o q,rfl⟩) hf he (λb o q=>hx.keeps b o (hkb b o q)) (fresh e hx.new) rfl rfl rfl (.inl rfl) λh' x1 x2 x3 x4=>?_);refine A6l (s:={ s with heap:=h' }) x1 x2 x3 λh'' y1 y2 y3 y4=>?_;obtain ⟨_,_,y2⟩:=y2;exact hQ h'' t ⟨y1,fresh e hx.new,y2,y3⟩ (Heap.TupAt.of_slots ⟨_,_,ht,rfl,rfl⟩ (x4.trans y4)) (fresh t htn) (x4.trans y4)
theorem B8c (hfr:A.frames=some (env::outer)) (hf:env.frame=some L) (fl:A2w base (env::outer) e cls a0 s.heap)
  (hQ:∀ h',C9y base (env::outer) e cls a0 L h'->s.heap.UpToSlots h'->Q () { s with heap:=h' }):wpAny M A (noteFrame (.ref e) env) Q E s:=by
 obtain ⟨f1,f2,f3,oe,vs,T,oT,ts,he,⟨rfl,h0,h2⟩,hd,h1,r⟩:=fl;exact C4j hfr f3 hf he f1 f2 hd h0 h2 (.inr ⟨T,oT,ts,h1,r⟩) λh' x1 x2 x3 x4=>hQ h' ⟨x1,f2,x2,x3⟩ x4
theorem D0f (hh:C9y base l e cls a0 L s.heap) (hQ:∀ h',A2w base l e cls a0 h'->s.heap.UpToSlots h'->Q () { s with heap:=h' }):wpAny M A (setFlight (.ref e) none) Q E s :=
 A6l hh.1 hh.2.2.1 hh.2.2.2 λh' x1 x2 x3 x4=>hQ h' ⟨x1,hh.2.1,x2,x3⟩ x4
theorem B23 (hh:A2w base l e cls a0 s.heap) (hQ:∀ h',A2w base l e cls a0 h'->s.heap.UpToSlots h'->Q () { s with heap:=h' }):wpAny M A (setFlight (.ref e) none) Q E s :=
 A6l hh.1 hh.2.2.1 hh.2.2.2 λh' x1 x2 x3 x4=>hQ h' ⟨x1,hh.2.1,x2,x3⟩ x4
end
open PySem.Calls
def D08 (oe:Obj):Prop:=∃ ws,oe.data=.fields ws/\ws[2]?=some .none
def XOf (oe:Obj) (C:Addr):Prop:=oe.cls=.ref C/\D08 oe
variable {w:World} {X:Cx} {mg:Str->Option Value} {C:Addr} {K:W.Frag} {es:List Expr} {e e1 e2 o:Expr} {k:Nat} {p:Pos} {t ta:TA} {b0:Stmt} {n:Str} {to t1:TE} {xs:List V}
theorem P7.there {H:Hp} {h:Heap} {a:Addr} {o:HO} (x:P7 P w H h a o):∃ ob,h.get? a=some ob:=by
 cases o with
 | lst xs=>obtain ⟨_,_,_,_,e⟩:=x;exact ⟨_,e⟩
 | tup xs=>obtain ⟨_,_,_,o,e,_⟩:=x;exact ⟨_,e⟩
 | dK kvs=>obtain ⟨_,_,_,_,o,_,_,e,_⟩:=x;exact ⟨_,e⟩
 | dT kvs=>obtain ⟨_,_,_,_,o,_,_,e,_⟩:=x;exact ⟨_,e⟩
 | set S n=>obtain ⟨o,_,_,_,e,_⟩:=x;exact ⟨_,e⟩
 | ins C dx fs=>obtain ⟨_,_,_,e,_⟩:=x;exact ⟨_,e⟩
 | own y=>obtain ⟨_,e⟩:=x;exact ⟨_,e⟩
 | xd fs=>obtain ⟨_,⟨_,_,_,e,_⟩,_⟩:=x;exact ⟨_,e⟩
 | rng lo hi=>obtain ⟨_,_,_,e⟩:=x;exact ⟨_,e⟩
 | frz ob u=>obtain ⟨e,_⟩:=x;exact ⟨_,e⟩
 | tbl ps=>exact ⟨_,(show h.get? a=some _ from x)⟩
 | met f y=>exact ⟨_,(show h.get? a=some _ from x)⟩
 | ext φ=>obtain ⟨_,⟨_,e⟩,_⟩:=x;exact ⟨_,e⟩
def Fly (base:Heap) (l:List Env) (ea:Addr) (cls:Value) (H:Hp) (h0 h:Heap):Prop :=
 ∃ (B:Heap) (a0:Value),base.StaysIn B/\A2w B l ea cls a0 h/\∀ b,B.get? b=none->b∉frs l->(∃ o,h.get? b=some o)->h0.get? b=none/\H b=none
def CXE (P:Program) (w:World) (base:Heap):CXT:=λouter H s E e s' =>
 ∃ (ea:Addr) (cls:Value) (H':Hp),e=.ref ea/\s'.os=s.os/\AllBare s'.gens/\Un (frs outer) [] H H' s.heap s'.heap/\HOk P w H' s'.heap/\Fly base outer ea cls H' s.heap s'.heap/\E cls none H'
theorem C3i {base:Heap} :A21 (CXE P w base) X E0:=λ_ _ _ _ _ _ _ h=>by
 obtain ⟨_,_,_,_,_,_,_,_,_,z⟩:=h;exact z.elim
section
variable {X:Cx} {pins:List (Addr × Obj)} {U:St} {H:Hp} {s:Shared}
theorem C0.in0 (I:C0 X pins U H s) (hex:X.ex=[]) {b:Addr} (h:s.heap.get? b=none):X.s₀.heap.get? b=none:=by
 cases q:X.s₀.heap.get? b with
 | none=>rfl
 | some o =>
  obtain ⟨o',e⟩:=I.base.there b o q (by rw[hex];simp);rw[h] at e;cases e
theorem A3l {B:Heap} {E:XK} (I:C0 X pins U H s) (hex:X.ex=[]) (hst:X.stack=X.env::X.outer) (hf:X.env.frame=some X.env.locals)
  (hb:X.base.StaysIn B) (hB:B.StaysIn s.heap) (fl:A2w B X.outer ea cls a0 h') (up:s.heap.UpToSlots h')
  (pr:∀ b,B.get? b=none->b∉frs X.stack->(∃ o,s.heap.get? b=some o)->X.s₀.heap.get? b=none/\H b=none) (hE:E cls none H) :
  CXE X.prog X.w X.base X.outer X.H₀ X.s₀ E (.ref ea) { s with heap:=h' }:=by
 have hB':B.StaysIn h':=fl.1;have inB:∀ b o,s.heap.get? b=some o->b∉frs X.stack->(X.s₀.heap.get? b≠none\/H b≠none)->B.get? b=some o:=by
  intro b o e hb hp;cases q:B.get? b with
  | some o'=>have:=hB b o' q;rw[e] at this;rw[this]
  | none =>
   obtain ⟨h1,h2⟩:=pr b q hb ⟨o,e⟩;rcases hp with z|z
   ·exact absurd h1 z
   ·exact absurd h2 z
 have L0:∀ b o,X.s₀.heap.get? b=some o->b≠X.env.locals:=λb o e=>ze (qv (qm e) I.ok.above);have fsS:frs X.stack=X.env.locals::X.fs:=by rw[hst];unfold frs;rw[List.filterMap_cons,hf];rfl
 have nS:∀ b o,X.s₀.heap.get? b=some o->b∉X.fs->b∉frs X.stack:=λb o e hb z=>by
  rw[fsS] at z;rcases zn.mp z with z|z
  ·exact L0 b o e z
  ·exact hb z
 have hx0:∀ b:Addr,b∉X.ex:=λb=>by rw[hex];simp
 refine ⟨ea,cls,H,rfl,I.os,I.bare,⟨λb o e n hbf _=>?_,λb o e n hbf _=>?_,λb o e n _=>I.base.free b o e n (hx0 b),λb o e _=>?_,I.base.tups,I.base.frzs,I.base.tbls⟩,λb u e=>?_,⟨B,a0,hb,fl,λb hbn hbf he=>?_⟩,hE⟩
 ·exact hB' b o (inB b o (I.base.keep b o e n hbf (hx0 b)) (nS b o e hbf) (.inl (by rw[e];simp)))
 ·obtain ⟨sl,q⟩:=I.base.slot b o e n hbf (hx0 b);obtain ⟨_,o',q',nf⟩:=I.funs.mem hbf;rw[q] at q';cases q';obtain ⟨sl',q''⟩:=up b _ q nf;exact ⟨sl',q''⟩
 ·obtain ⟨o',q⟩:=I.base.there b o e (hx0 b);by_cases hbf:b∈X.fs
  ·obtain ⟨_,o'',q',nf⟩:=I.funs.mem hbf;rw[q] at q';cases q';obtain ⟨sl',q''⟩:=up b _ q nf;exact ⟨_,q''⟩
  ·exact ⟨o',hB' b o' (inB b o' q (nS b o e hbf) (.inl (by rw[e];simp)))⟩
 ·refine (I.hok b u e).stay (λc v hc q=>?_) (λ_ q=>q) (λ_ _ q=>q);have hcn:H c≠none:=by
   rcases hc with z|z
   ·rw[z,e];simp
   ·rw[z];simp
  exact hB' c v (inB c v q (λz=>hcn (I.stkFree c z)) (.inr hcn))
 ·obtain ⟨o,e⟩:=he;cases q:s.heap.get? b with
  | some ob =>
   by_cases hL:b=X.env.locals
   ·rw[hL];exact ⟨Heap.get?_none_of_le I.ok.above,I.free⟩
   ·refine pr b hbn (λz=>?_) ⟨ob,q⟩;rw[fsS] at z;rcases zn.mp z with z|z
    ·exact hL z
    ·exact hbf z
  | none =>
   refine ⟨I.in0 hex q,?_⟩;cases z:H b with
   | none=>rfl
   | some u =>
    obtain ⟨ob,q'⟩:=P7.there (I.hok b u z);rw[q] at q';cases q'
end
def A69 (X:Cx) (E:XK):Prop:=∀ (pins:List (Addr × Obj)) (U:St) (H:Hp) (s:Shared) (ea:Addr) (cls:Value) (vs:List Value) (h':Heap),C0 X pins U H s->Heap.MadeExcOf s.heap h' ea cls vs->E cls none H->X.xe (.ref ea) { s with heap:=h' }
section
variable {P:Program} {w:World} {K:W.Frag} {mg:Str->Option Value} {base:Heap} {N:List Str} {qual:Str} {scope:Scope} {f:Addr} {cd:Value} {A:Around} {outer:List Env} {s0:Shared} {H0:Hp} {E:XK}
theorem U9:A69 (A2x (CXE P w base) P w K mg base N qual scope f cd A outer s0 H0 E) E:=by
 intro pins U H s ea cls vs h' I hx hE;have hin:∀ env∈(A2x (CXE P w base) P w K mg base N qual scope f cd A outer s0 H0 E).stack,∀ b,env.frame=some b->b∈frs (A2x (CXE P w base) P w K mg base N qual scope f cd A outer s0 H0 E).stack:=λenv he b hb=>List.mem_filterMap.mpr ⟨env,he,hb⟩;show wpAny _ _ (leaving _ _) _ _ _;refine B1z (base:=W.hideAll s.heap (frs (A2x (CXE P w base) P w K mg base N qual scope f cd A outer s0 H0 E).stack)) (h:=s.heap) I.ok.frames rfl (λb o q=>W.of_hideAll _ q) (W.funFrames_hide I.stack hin) hx λh'' t fl tup bt up=>?_;refine A3l I rfl rfl rfl (λb o e=>W.hideAll_get _ (I.bk b o e) λhm=>?_) (λb o q=>W.of_hideAll _ q) fl ((Heap.UpToSlots.of_keeps hx.keeps).trans up) (λb hbn hbf he=>?_) hE
 ·have:=(I.stack.mem hm).1;rw[show (A2x (CXE P w base) P w K mg base N qual scope f cd A outer s0 H0 E).base.get? b=some o from e] at this;cases this
 ·obtain ⟨o,e⟩:=he;rw[W.hideAll_get _ e hbf] at hbn;cases hbn
theorem A5j:A21 (CXE P w base) (A2x (CXE P w base) P w K mg base N qual scope f cd A outer s0 H0 E) E:=by
 rintro pins U H s e s' I ⟨ea,cls,H',rfl,os,bare,un,hok,⟨B,a0,hb,fl,pr⟩,hE⟩;have I':=I.call' (ch:=[]) os un hok bare (λ_ z=>nomatch z);show wpAny _ _ (leaving _ _) _ _ _;refine B42 I.ok.frames rfl fl λh' fl' up=>?_;refine A3l I' rfl rfl rfl hb fl.1 fl' up (λb h1 h2 h3=>?_) hE;obtain ⟨q1,q2⟩:=pr b h1 h2 h3;exact ⟨I.in0 rfl q1,q2⟩
end
abbrev bmV:List Value:=[.type "ValueError",.type "Exception",.type "BaseException",.type "object"]
structure ExC (K:W.Frag) (mg:Str->Option Value) (x:Str) (C:Addr):Prop where
 mgx:mg x=some (.ref C)
 exc:W.excIn K C bmV "ValueError.__new__"=true
theorem ExC.own {x:Str} {h:Heap} (c:ExC K mg x C) (X:K.In h):OwnCls x C bmV "ValueError.__new__" mg h:=by
 obtain ⟨hm,hq⟩:=c;refine ⟨hm,?_⟩;unfold W.excIn at hq;split at hq
 case h_2=>cases hq
 case h_1 dk cdk slk hok =>
  split at hq
  case h_2=>cases hq
  case h_1 Ck bk a0 a1 a2 a3 nk a5 hmro hsl =>
   rw[zb,zb,zb,zb,zb,beq_iff_eq,beq_iff_eq,beq_iff_eq] at hq;obtain ⟨⟨⟨⟨⟨e1,e2⟩,e3⟩,e4⟩,e5⟩,e6⟩:=hq;have e3:cdk.hasDel=false:=by simpa using e3
   have hok':=X _ _ hok;cases e1;cases e2;cases cdk with
   | mk x1 x2 x3 x4 x5 x6 x7 x8 x9 x10 x11 =>
    cases slk with
    | mk lk =>
     cases hmro;cases e3;cases hsl;exact ⟨_,_,_,_,_,_,_,_,_,_,_,_,_,_,_,_,_,hok',Heap.Ns.of_isNs (W.isNs_of_in X e5),W.nsMap_none_of_in X e5 e6,W.tail_of_in X e4⟩
section
variable {X:Cx} {pos np cpos:Pos} {x:Str} {C:Addr} {E:XK} {e0:Expr} {es:List Expr} {ta:TA}
def C1a (C:Addr) (E:XK) (ta:TA):TS:=λ_ U H=>ta U H λvs H1=>vs.length<=sizeLine/\E (.ref C) none H1
theorem C0v (hx:A69 X E) (hc:X.calm=true) (c:ExC X.K X.mg x C) (hg:Gl X x) (ha:PA X (e0::es) ta) (hdb:noD x:=by decide)
  (he:stE e0 es X.env:=by rfl) (hpl:stB cpos es X.env:=by rfl) :
  PS X (.Raise (some (.Call (.Name x np) (e0::es) [] cpos)) none pos) (C1a C E ta):=by
 sleep 5;obtain ⟨tl,N,nm,q,bs,hdct,sn,sub,ab,col,dd,k0,k1,k2,k3,k5,mN,hC,hN,hni,T⟩:=(c.own I.mod.kin).obj;refine wpAny_Raise_call_subU (C:=C) (nm:=nm) (q:=q) (N:=N) (bs:=bs) (bm:=tl) (hdct:=hdct) (sn:=sn) (sub:=sub) (ab:=ab) (col:=col) (dd:=dd) (k0:=k0) (k1:=k1) (k2:=k2) (k3:=k3) (k5:=k5) PySem.F.excBase_ValueError (by decide +kernel) PySem.F.excBase_ValueError (mN:=mN) (T.hasType (by decide +kernel)) (I.ok.hd hc) ?_ hni (A2l I hg c.mgx ⟨rfl,?_⟩ hdb)
 ·rw[he];show (false||(backTo cpos (starEach es X.env)).any (·.1))=false;rw[hpl];rfl
 have ha':=ha cpos pins s U H _ I h;rw[he] at ha' ⊢;refine Calls.evalArgs_plain (J9 ha' λus s1 ⟨vs,H1,I1,r1,hl,q1⟩=>?_);exact ⟨rfl,by rw[<-r1.length];exact hl,I1.bk _ _ hC,hN.keeps I1.bk,T.keeps I1.bk,λh' e hm=>hx pins U H1 s1 e (.ref C) us h' I1 hm q1⟩
end
structure DfE (P:Program) (w:World) (K:W.Frag) (mg:Str->Option Value) (base:Heap) (x:Str) (ps:List Str) (k:Nat) (sp:Sp):Prop where
 ex:∃ f fd,J5 P w K mg base (CXE P w base) k f fd ps sp/\mg x=some (.ref f)/\W.keepIn K (.ref f)=true/\A5n K fd ps []
theorem D09 {x:Str} {ps:List Str} {pos:Pos} {E:XK} (D:DfE X.prog X.w X.K X.mg X.base x ps k sp) (hx:A21 (CXE X.prog X.w X.base) X E) (hr:S0 k X.A) (ha:PA X (e::es) t) (hg:Gl X x:=by rfl) (hdb:noD x:=by decide)
  (he:stE e es X.env:=by rfl) (hpl:stB pos es X.env:=by rfl):PE X (.Call (.Name x p) (e::es) [] pos) (A90 sp [] E t):=by
 obtain ⟨f,fd,F,hm,hk,hb⟩:=D.ex;exact B6w F hr hg hm hk hb .nil hx ha hdb he hpl
theorem PS.nox {st:Stmt} {t:TS} (h:PS X.nox st t):PS X st t:=λpins s U H D I hw =>
 jd (h pins s U H D (I.wish _) hw) (λ_ _ q=>q.unwish) λ_ _ z=>False.elim z
theorem W5.okE {base:Heap} {x qual:Str} {st:Stmt} {f:Addr} {N ps:List Str} (F:W5 K x qual st f fd) (S:C2 N ps (B1 st)) (len:∀ vs H Q E,sp vs H Q E->vs.length=ps.length)
  (hbody:∀ (cdv:Value) (A:Around) (outer:List Env) (s:Shared) (H:Hp) (vs:List V) (Q:VK) (E:XK),S0 k (A.deeper (envOfC qual (B1 st) s.heap.objs.size f cdv))->sp vs H Q E ->
   ∃ t,PSs (A2x (CXE P w base) P w K mg base N qual (B1 st) f cdv A outer s H E) (Q9 st) t/\t { nx:=λ_ H'=>Q .non H',rt:=Q } (start N vs) H):J5 P w K mg base (CXE P w base) (k+1) f fd ps sp:=by
 sleep 25;exact C9h lk hcd S len λA outer s H vs Q E hr hsp=>hbody cdv A outer s H vs Q E hr hsp
section
variable {X:Cx}
theorem qnT {t:TT} (h:QT X.nox e t):QT X e t:=⟨h.h.nox⟩
theorem qnS {e:Stmt} {t:TS} (h:QS X.nox e t):QS X e t:=⟨h.h.nox⟩
theorem B8y {x:Str} {E:XK} {pos:Pos} (hx:A69 X E) (hc:X.calm=true) (c:ExC X.K X.mg x C) (hg:Gl X x) (ha:QA X (e0::es) ta) (hdb:noD x:=by decide)
  (he:stE e0 es X.env:=by rfl) (hpl:stB cpos es X.env:=by rfl) :
  QS X (.Raise (some (.Call (.Name x np) (e0::es) [] cpos)) none pos) (C1a C E ta):=⟨C0v hx hc c hg ha.h hdb he hpl⟩
theorem C7f {x:Str} {ps:List Str} {pos:Pos} {E:XK} (D:DfE X.prog X.w X.K X.mg X.base x ps k sp) (hx:A21 (CXE X.prog X.w X.base) X E) (hr:S0 k X.A) (ha:QA X (e::es) t) (hg:Gl X x:=by rfl) (hdb:noD x:=by decide)
  (he:stE e es X.env:=by rfl) (hpl:stB pos es X.env:=by rfl):QE X (.Call (.Name x p) (e::es) [] pos) (A90 sp [] E t):=⟨D09 D hx hr ha.h hg hdb he hpl⟩
end
structure B5q (K:W.Frag) (C R:Addr):Prop where
 sub:W.kitCls K (.ref C) (.ref R)=some true
 exc:W.subIn K (.ref R) (.type "BaseException")=some true
theorem B2k {M:Model} {A:Around} {h:Heap} {g:Array GenState} {d:Drawn} {os:OsState} {e R:Addr} {Q:Bool->Shared->Prop} (X:K.In h) (he:h.get? e=some oe) (hcls:oe.cls=.ref C)
  (k:B5q K C R) (hq:Q true ⟨h,g,d,tk,os⟩):wpAny M A (excMatches (.ref e) (.ref R)) Q E ⟨h,g,d,tk,os⟩:=by
 obtain ⟨l1,l2,l3⟩:=W.kit_cls (M:=M) X k.sub;have l4:=W.looks_subIn (M:=M) X k.exc;have f:=tc_notTuple;unfold excMatches isInstance isExcClass
 repeat (first|with_reducible refine W.Looks.at l1 ?_|with_reducible refine W.Looks.at l2 ?_|with_reducible refine W.Looks.at l3 ?_|with_reducible refine W.Looks.at l4 ?_|(with_reducible refine wpAny_loadPart_at he ?_;rw[hcls])|wp_step)
 exact hq
abbrev Cx.within (X:Cx) (ea:Addr) (oe:Obj):Cx:={ X with A:=X.A.mark (some (.ref ea)),calm:=false,pn:=X.pn++[(ea,oe)],xe:=λ_ _=>False }
theorem Cx.Ok.within (ok:X.Ok) (ea:Addr) (oe:Obj):(X.within ea oe).Ok :=
 ⟨ok.mod,ok.kind,ok.glob,ok.blt,ok.above,ok.inj,ok.has,ok.cab,(λz=>nomatch z),ok.frames,ok.stk,ok.exf,ok.bs,ok.bsz,ok.noex,ok.exfs,ok.funs,ok.frf⟩
def A8b (X:Cx) (pins:List (Addr × Obj)) (B:Heap) (H:Hp) (h:Heap):Prop :=
 ∀ b,B.get? b=none->b∉frs X.stack->(∃ o,h.get? b=some o)->X.s₀.heap.get? b=none/\H b=none/\∀ p∈X.pn++pins,p.1≠b
structure A7a (X:Cx):Prop where
 ex:X.ex=[]
 st:X.stack=X.env::X.outer
 fr:X.env.frame=some X.env.locals
section
variable {X:Cx} {pins:List (Addr × Obj)} {U:St} {H:Hp} {s:Shared}
theorem C0.within {ws:Array Value} (I:C0 X pins U H s) (he:s.heap.get? ea=some oe) (hd:oe.data=.fields ws) (hH:H ea=none) (hL:ea≠X.env.locals) (hF:ea∉X.fs):C0 (X.within ea oe) pins U H s :=
 ⟨I.ok.within ea oe,I.os,I.bare,I.base,I.loc,I.cell,I.free,I.freeC,λp hp=>by
  rcases zm.mp hp with hp|hp
  ·rcases zm.mp hp with hp|hp
   ·exact I.pin p (za _ hp)
   ·obtain rfl:p=(ea,oe):=by simpa using hp
    exact ⟨he,hH,hL,hF,λv z=>by rw[hd] at z;cases z⟩
  ·exact I.pin p (qz _ hp),I.hok,I.len⟩
theorem C0.without (ok:X.Ok) (I:C0 (X.within ea oe) pins U H s):C0 X pins U H s :=
 ⟨ok,I.os,I.bare,I.base,I.loc,I.cell,I.free,I.freeC,λp hp=>I.pin p (by
  rcases zm.mp hp with hp|hp
  ·exact za _ (za _ hp)
  ·exact qz _ hp),I.hok,I.len⟩
theorem A7a.fs (F:A7a X):frs X.stack=X.env.locals::X.fs:=by rw[F.st];unfold frs;rw[List.filterMap_cons,F.fr];rfl
theorem C0.fly {B:Heap} (I:C0 X pins U H s) (F:A7a X) (hb:X.base.StaysIn B) (hB:B.StaysIn s.heap) (fl:A2w B X.stack ea cls a0 h') (up:s.heap.UpToSlots h') (pr:A8b X pins B H s.heap) :
  C0 X pins U H { s with heap:=h' }:=by
 have fl':A2w B X.outer ea cls a0 h':=by
  obtain ⟨k1,k2,k3,k4⟩:=fl;rw[F.st] at k3;obtain ⟨_,_,k3⟩:=k3;exact ⟨k1,k2,k3,k4⟩
 obtain ⟨_,_,H',_,_,_,un,hok,_,eH⟩:=A3l (E:=λ_ _ H'=>H'=H) I F.ex F.st F.fr hb hB fl' up (λb h1 h2 h3=>let ⟨q1,q2,_⟩:=pr b h1 h2 h3;⟨q1,q2⟩) rfl;subst eH;have cellK:∀ c v,s.heap.IsCell c v->h'.IsCell c v:=λc v ⟨o,ho,hd⟩=>by
  obtain ⟨sl,e⟩:=up c o ho (λvs z=>by rw[hd] at z;cases z);exact ⟨_,e,hd⟩
 refine ⟨I.ok,I.os,I.bare,by rw[F.ex];exact un,?_,λx c e=>?_,I.free,I.freeC,λp hp=>?_,hok,I.len⟩
 ·obtain ⟨m,hn,hl⟩:=I.loc;refine ⟨m,up.ns hn,λi x v e1 e2 e3=>?_⟩;obtain ⟨u,r,q⟩:=hl i x v e1 e2 e3;refine ⟨u,r,?_⟩;rcases q with q|⟨k,c,e,z⟩
  ·exact .inl q
  ·exact .inr ⟨k,c,e,cellK c _ z⟩
 ·obtain ⟨v,z⟩:=I.cell x c e;exact ⟨v,cellK c v z⟩
 ·sleep 32;refine ⟨?_,n,ne,nf,d⟩;cases q:B.get? p.1 with
  | some o' =>
   have:=hB _ _ q;rw[e] at this;cases this;exact fl.1 _ _ q
  | none =>
   have:=(pr p.1 q (λz=>by rw[F.fs] at z;rcases zn.mp z with z|z;exact ne z;exact nf z) ⟨_,e⟩).2.2 p hp;exact absurd rfl this
theorem A8b.fly {B:Heap} (I:C0 X pins U H s) (F:A7a X) (pr:A8b X pins B H s.heap):A8b X pins B H h':=λb h1 h2 _=>by
 cases q:s.heap.get? b with
 | some o=>exact pr b h1 h2 ⟨o,q⟩
 | none =>
  refine ⟨I.in0 F.ex q,?_,λp hp z=>?_⟩
  ·cases z:H b with
   | none=>rfl
   | some u=>obtain ⟨ob,q'⟩:=P7.there (I.hok b u z);rw[q] at q';cases q'
  ·have:=(I.pin p hp).1;rw[z,q] at this;cases this
theorem B68 {B h:Heap} (F:A7a X) (fl:A2w B X.stack ea cls a0 h) (pr:A8b X pins B H h):∃ oe ws,h.get? ea=some oe/\oe.cls=cls/\oe.data=.fields ws/\H ea=none/\ea≠X.env.locals/\ea∉X.fs/\D08 oe:=by
 obtain ⟨oe,ws,e,c,d,d2⟩:=fl.own;have nf:ea∉frs X.stack:=λz=>by
  obtain ⟨_,o,q,n⟩:=fl.2.2.1.mem z;rw[e] at q;cases q;exact n ws d
 refine ⟨oe,ws,e,c,d,(pr ea fl.2.1 nf ⟨oe,e⟩).2.1,λz=>nf (by rw[F.fs,z];exact qx),λz=>nf (by rw[F.fs];exact qy _ z),ws,d,d2⟩
end
def XPr (X:Cx) (pins:List (Addr × Obj)) (U:St) (E:XK) (e:Value) (s':Shared):Prop :=
 ∃ (ea:Addr) (cls:Value) (H':Hp) (B:Heap) (a0:Value),e=.ref ea/\C0 X pins U H' s'/\X.base.StaysIn B/\A2w B X.stack ea cls a0 s'.heap/\A8b X pins B H' s'.heap/\E cls none H'
abbrev TEX:=St->Hp->VK->XK->Prop
abbrev TSX:=V0->(St->XK)->St->Hp->Prop
structure PEX (X:Cx) (e:Expr) (t:TEX):Prop where
 h:∀ (pins:List (Addr × Obj)) (s:Shared) (U:St) (H:Hp) (Q:VK) (E:XK),C0 X pins U H s->t U H Q E->wpAny (model X.prog X.w) X.A (eval e X.env) (EP X pins U Q) (XPr X pins U E) s
structure PSX (X:Cx) (st:Stmt) (t:TSX):Prop where
 h:∀ (pins:List (Addr × Obj)) (s:Shared) (U:St) (H:Hp) (D:V0) (E:St->XK),C0 X pins U H s->t D E U H->wpAny (model X.prog X.w) X.A (exec st X.env) (SP X pins D) (λe s'=>∃ U',XPr X pins U' (E U') e s') s
structure C6f (X:Cx) (st:List Stmt) (t:TSX):Prop where
 h:∀ (pins:List (Addr × Obj)) (s:Shared) (U:St) (H:Hp) (D:V0) (E:St->XK),C0 X pins U H s->t D E U H->wpAny (model X.prog X.w) X.A (execs st X.env) (SP X pins D) (λe s'=>∃ U',XPr X pins U' (E U') e s') s
section
variable {X:Cx}
def D80 (sp:Sp) (t:TA):TEX:=λU H Q E=>t U H λvs H1=>sp vs H1 Q E
def E1b (i:Nat) (te:TEX):TSX:=λD E U H=>te U H (λv H1=>D.nx (U.set i (some v)) H1) (E U)
def xIf (tc:TT) (a b:TSX):TSX:=λD E U H=>tc U H λd H1=>if d=true then a D E U H1 else b D E U H1
theorem C3p {x:Str} {ps:List Str} {pos:Pos} (D:DfE X.prog X.w X.K X.mg X.base x ps k sp) (F:A7a X) (hr:S0 k X.A) (ha:QA X.nox (e::es) t) (hg:Gl X x:=by rfl) (hdb:noD x:=by decide)
  (he:stE e es X.env:=by rfl) (hpl:stB pos es X.env:=by rfl):PEX X (.Call (.Name x p) (e::es) [] pos) (D80 sp t):=⟨by
 intro pins s U H Q E I h;obtain ⟨f,fd,G,hm,hk,hb⟩:=D.ex;refine wpAny_Call_Name_kw (A2l I hg hm ?_ hdb);refine W.callWith_K (h₀:=X.base) I.ok.mod.kin hk (jd (ha.h pos pins s U H _ (I.wish _) h) (λus s1 q=>?_) λ_ _ z=>False.elim z) he hpl;obtain ⟨vs,H1,I1,r,q⟩:=q;have I1:=I1.unwish;refine ⟨I1.kIn,?_⟩;have hl:us.length=ps.length:=by rw[<-r.length];exact G.len _ _ _ _ q
 have hbs:=hb s1 us I1.kIn (by rw[append_nil];exact hl);rw[append_nil] at hbs;refine wpAny_call (codeAny_mono (G.run X.A X.stack s1 H1 ⟨us,[]⟩ us vs Q E hr I1.env0 hbs r q) λr s' hq=>?_);cases r with
 | ok fl =>
  cases fl with
  | ret u=>exact I1.after hq
  | next=>exact False.elim hq
  | brk=>exact False.elim hq
  | cont=>exact False.elim hq
 | error e =>
  obtain ⟨ea,cls,H',rfl,os,bare,un,hok,⟨B,a0,hb,fl,pr⟩,hE⟩:=hq;have I':=I1.call' (ch:=[]) os un hok bare (λ_ z=>nomatch z);refine ⟨ea,cls,H',B,a0,rfl,I',hb,fl,λb h1 h2 h3=>?_,hE⟩;obtain ⟨q1,q2⟩:=pr b h1 h2 h3;refine ⟨I1.in0 F.ex q1,q2,λp hp z=>?_⟩;have:=(I1.pin p hp).1;rw[z,q1] at this;cases this⟩
theorem C7l (i:Nat) {x:Str} {te:TEX} {pos:Pos} (hN:X.N.Nodup) (he:PEX X e te) (hi:X.N[i]?=some x:=by rfl) (hx:Loc X.env.scope x:=by first|exact Or.inl rfl|exact Or.inr rfl) (hs:swapsWith e (some (.Name x pos')) pos.line X.env=pure false:=by rfl)
  (hf:X.fn x=true\/X.env.scope.names.lookup x=some .local:=by first|exact .inl rfl|exact .inr rfl|assumption):PSX X (.Assign [.Name x pos'] e pos) (E1b i te):=⟨λpins s U H D E I hw=>by
 refine wpAny_Assign_Name (jd (he.h pins s U H _ _ I hw) (λv s1 q=>?_) λ_ _ z=>⟨U,z⟩) hs;obtain ⟨y,H1,I1,r1,q1⟩:=q;exact X8 I1 hN hi hx r1 (λs2 I2=>⟨_,H1,I2,q1⟩) hf⟩
theorem C1w {st:Stmt} {t:TSX} (h1:PSX X st t):C6f X [st] t:=⟨λpins s U H D E I h=>by
 refine wpAny_execs_cons (J9 (h1.h pins s U H D E I h) λf s1 q=>?_);cases f with
 | next =>
  obtain ⟨U',H',I',q⟩:=q;exact wpAny_execs_nil ⟨U',H',I',q⟩
 | ret v=>exact q
 | brk=>exact q
 | cont=>exact q⟩
end
structure ExK (K:W.Frag) (C:Addr):Prop where
 ga:W.findIn K (.ref C) "__getattribute__"=some (some (.builtin "BaseException.__getattribute__"))
 cl:W.findIn K (.ref C) "__class__"=some (some (.builtin "object.__class__"))
 gg:W.findIn K (.ref C) "__getattr__"=some none
 ob:W.subIn K (.ref C) (.type "object")=some true
 be:W.subIn K (.ref C) (.type "BaseException")=some true
 se:W.kitCls K (.ref C) (.ref C)=some true
section
variable {K:W.Frag} {prog:Program} {w:World} {A:Around} {E:Value->Shared->Prop} {h:Heap} {g:Array GenState} {d:Drawn} {t:Nat} {os:OsState} {a C:Addr} {o:Obj}
theorem D38 {R:Result->Shared->Prop} (X:K.In h) (k:ExK K C) (hx:h.get? a=some o) (hc:o.cls=.ref C) (hq:R (.ok (.ret (.ref C))) ⟨h,g,d,t,os⟩) :
  codeAny (model prog w) A (.call (.builtin "getset_descriptor.__get__") ⟨[.builtin "object.__class__",.ref a,.ref C],[]⟩) R ⟨h,g,d,t,os⟩:=by
 have l1:=W.looks_subIn (M:=model prog w) X k.ob;have e1:=F.owner_object_class;have hT5:(⟨h,g,d,t,os⟩:Shared).TypeIs (.builtin "object.__class__") "getset_descriptor":=F.typeOf_object_class;refine codeAny_call_builtin F.slot_gs_get.plain F.entry_gs_get (F.slot_gs_get.check _ _ _ _ _ _ _ _ hT5 (F.args_gs_get _ _ _) ?_)
 repeat (any_goals (first|assumption|(with_reducible refine wpAny_loadPart_at hx ?_;rw[hc])|with_reducible refine W.Looks.at l1 ?_|rw[e1]|wp_step))
 refine ⟨Code.quiet_builtin _ (by decide +kernel),codeAny_builtin F.entry_object_class ?_⟩
 repeat (any_goals (first|assumption|(with_reducible refine wpAny_loadPart_at hx ?_;rw[hc])|wp_step))
theorem C37 {tk:Tok} {Q:Fin->Shared->Prop} (X:K.In h) (k:ExK K C) (hx:h.get? a=some o) (hc:o.cls=.ref C) (hq:Q (.done (.ret (.ref C))) ⟨h,g,d,t,os⟩) :
  wpAny (model prog w) A (Builtin.«object.__getattribute__» ⟨[.ref a,.str "__class__" tk],[]⟩) Q E ⟨h,g,d,t,os⟩:=by
 have l1:=W.looks_findIn (M:=model prog w) X k.cl;have hT5:(⟨h,g,d,t,os⟩:Shared).TypeIs (.builtin "object.__class__") "getset_descriptor":=F.typeOf_object_class;have f5:=F.typeOf_object_class;have f6:=F.slot_gs_get.lookup;have f7:=F.slot_gs_set.lookup
 repeat (any_goals (first|assumption|(with_reducible refine wpAny_loadPart_at hx ?_;rw[hc])|with_reducible refine W.Looks.at l1 ?_|wp_step))
 refine D38 X k hx hc ?_
 repeat (any_goals (first|assumption|wp_step))
theorem C4t {nameV:Value} {Q:Unit->Shared->Prop} (X:K.In h) (k:ExK K C) (hx:h.get? a=some o) (hc:o.cls=.ref C) (hq:Q () ⟨h,g,d,t,os⟩) :
  wpAny (model prog w) A (checkBuiltinCall "BaseException.__getattribute__" ⟨[.ref a,nameV],[]⟩) Q E ⟨h,g,d,t,os⟩:=by
 have l1:=W.looks_subIn (M:=model prog w) X k.be;have kd:builtinKind "BaseException.__getattribute__"=some .slot:=by decide +kernel
 have sp:splitId "BaseException.__getattribute__"=some ("BaseException","__getattribute__"):=by decide +kernel
 have ar:=F.args_bexc_ga (.ref a) nameV;simp only[checkBuiltinCall,kd,sp];refine qd ?_;unfold isInstance
 repeat (first|(with_reducible refine wpAny_loadPart_at hx ?_;rw[hc])|with_reducible refine W.Looks.at l1 ?_|wp_step)
 exact hq
theorem C7u {tk:Tok} {R:Result->Shared->Prop} (X:K.In h) (k:ExK K C) (hx:h.get? a=some o) (hc:o.cls=.ref C) (hq:R (.ok (.ret (.ref C))) ⟨h,g,d,t,os⟩) :
  codeAny (model prog w) A (.call (.builtin "BaseException.__getattribute__") ⟨[.ref a,.str "__class__" tk],[]⟩) R ⟨h,g,d,t,os⟩ :=
 codeAny_call_builtin PySem.F.attr_ValueError.ga.plain F.entry_bexc_ga (C4t X k hx hc (C37 X k hx hc hq))
theorem D7c {tk:Tok} {Q:Value->Shared->Prop} (X:K.In h) (k:ExK K C) (hx:h.get? a=some o) (hc:o.cls=.ref C) (hq:Q (.ref C) ⟨h,g,d,t,os⟩) :
  wpAny (model prog w) A (getAttrBy (.ref a) (.str "__class__" tk) false) Q E ⟨h,g,d,t,os⟩:=by
 have l1:=W.looks_findIn (M:=model prog w) X k.ga;have l2:=W.looks_findIn (M:=model prog w) X k.gg;have f3:=PySem.F.attr_ValueError.ga.bind (.ref a);have hx2:(Value.builtin "BaseException.__getattribute__"==Value.builtin "object.__getattribute__")=false:=by decide +kernel
 have hx1:(onTheHeap (Value.ref C)&&Value.builtin "BaseException.__getattribute__"==Value.builtin "object.__getattribute__")=false:=by rw[hx2];rfl
 repeat (any_goals (first|assumption|(with_reducible refine wpAny_loadPart_at hx ?_;rw[hc])|with_reducible refine W.Looks.at l1 ?_|with_reducible refine W.Looks.at l2 ?_|wp_step))
 refine C7u X k hx hc ?_
 repeat (any_goals (first|assumption|wp_step))
theorem C76 {Q:Option Value->Shared->Prop} (X:K.In h) (k:ExK K C) (hx:h.get? a=some o) (hc:o.cls=.ref C) (hq:Q (some (.ref C)) ⟨h,g,d,t+1,os⟩) :
  wpAny (model prog w) A (getAttr? (.ref a) "__class__") Q E ⟨h,g,d,t,os⟩:=by
 unfold getAttr? getAttrBy?
 repeat (any_goals (first|assumption|with_reducible apply D7c X k hx hc|wp_step))
theorem B33 {x:Str} (c:ExC K mg x C) (k:ExK K C):W.KitX K (.ref a) (.ref C) (λh=>∃ o,h.get? a=some o/\o.cls=.ref C) where
 ty:=λM h _ p=>by
  obtain ⟨o,h1,h2⟩:=p;exact h2 ▸ (W.Looks.ld h1).andThen .now
 it:=λM h X _=>(W.kit_cls X k.se).2.1
 ne:=λh tp dd its n sl X htp=>Bool.eq_false_iff.mpr λq=>by
  have e:C=tp:=Value.ref.inj (beq_iff_eq.mp q);subst e;obtain ⟨_,_,_,_,_,_,_,_,_,_,_,_,_,_,_,_,_,hC,_⟩:=(c.own X).obj;rw[htp] at hC;injection hC with z
  injection z with z1
  exact absurd z1 (by decide)
 ca:=λ{_ _ _ _ _ s} X p q=>by
  obtain ⟨o,h1,h2⟩:=p;obtain ⟨hh,gg,dd,tt,oo⟩:=s;exact C76 X k h1 h2 q
end
section
variable {X:Cx} {K:W.Frag}
def E1x (K:W.Frag) (ea C:Addr):List V->Hp->VK->Prop:=λxs H Q=>∃ T b,xs=[.ref ea,T]/\((∃ D,T=.ref D/\W.kitOne K (.ref C) (.ref D)=some b)\/(∃ n,T=.ty n/\W.kitOne K (.ref C) (.type n)=some b))/\Q (.bl b) H
theorem C2y {x:Str} (hK:X.K=K) (hp:(ea,oe)∈X.pn) (hc:oe.cls=.ref C) (c:ExC K X.mg x C) (k:ExK K C):R3 X (.builtin "isinstance") (E1x K ea C):=by
 subst hK;sleep 10;obtain ⟨T,b,rfl,hT,q⟩:=h;obtain ⟨u,v,rfl,r1,r2⟩:=B2t r;cases r1;have he:=(I.pin (ea,oe) (za _ hp)).1;rcases hT with ⟨D,rfl,e⟩|⟨n,rfl,e⟩
 ·cases r2;exact W.kia_one (B33 c k) I.kIn ⟨oe,he,hc⟩ e (λz=>nomatch z) λtk=>⟨.bl b,H,I.tok _,rfl,q⟩
 ·cases r2;exact W.kia_one (B33 c k) I.kIn ⟨oe,he,hc⟩ e (λz=>nomatch z) λtk=>⟨.bl b,H,I.tok _,rfl,q⟩
end
section
variable {X:Cx} {pins:List (Addr × Obj)} {U:St} {H:Hp} {s:Shared}
theorem C0.lost {m':Str->Option Value} (I:C0 X pins U H s) (hn:h'.Ns X.env.locals m') (sb:Heap.SameBut X.env.locals s.heap h'):C0 X pins (List.replicate X.N.length none) H { s with heap:=h',toks:=t' }:=by
 have neL:∀ b o,X.s₀.heap.get? b=some o->b≠X.env.locals:=λb o e=>ze (qv (qm e) I.ok.above);refine ⟨I.ok,I.os,I.bare,⟨λb o e n hb hx=>(sb.2 b (neL b o e)).trans (I.base.keep b o e n hb hx),λb o e n hb hx=>?_,I.base.free,λb o e hx=>?_,I.base.tups,I.base.frzs,I.base.tbls⟩,⟨m',hn,λj y v e1 e2 e3=>?_⟩,λy c e=>?_,I.free,I.freeC,λp hp=>?_,λb u e=>?_,List.length_replicate⟩
 ·sleep 35;exact ⟨sl,(sb.2 b (neL b o e)).trans e1⟩
 ·sleep 24;exact ⟨o',(sb.2 b (neL b o e)).trans e1⟩
 ·rw[List.getElem?_replicate] at e2;split at e2<;>cases e2
 ·obtain ⟨w',z⟩:=I.cell y c e;exact ⟨w',z.sameBut sb (I.cne y c e)⟩
 ·sleep 32;exact ⟨(sb.2 p.1 ne).trans e,n,ne,nf,d⟩
 ·refine (I.hok b u e).stay (λc v hc q=>(sb.2 c ?_).trans q) (λ_ q=>q) λ_ _ q=>q;intro z;rcases hc with hc|hc
  ·rw[<-hc,z,I.free] at e;cases e
  ·rw[z,I.free] at hc;cases hc
end
abbrev B1m (D:V0):V0:={ nx:=λ_ _=>False,rt:=D.rt,bk:=λ_ _=>False,ct:=λ_ _=>False }
section
variable {X:Cx} {pins:List (Addr × Obj)} {U:St} {H:Hp} {s:Shared} {ea C R:Addr} {B:Heap} {a0:Value} {x n:Str} {i:Nat} {np pos:Pos} {b0:Stmt} {suite:List Stmt} {G4:List ExceptHandler} {ts:TS} {D:V0}
theorem C7n (I:C0 X pins U H s) (F:A7a X) (hN:X.N.Nodup) (hi:X.N[i]?=some n) (hln:X.env.kindOf n=some .local) (hln2:X.env.scope.names.lookup n=some .local) (hb:X.base.StaysIn B) (fl:A2w B X.stack ea (.ref C) a0 s.heap) (pr:A8b X pins B H s.heap) (hg:Gl X x) (hm:X.mg x=some (.ref R)) (k:B5q X.K C R)
  (hs:∀ oe,XOf oe C->PSs (X.within ea oe) (b0::suite) ts) (h:H ea=none->ts (B1m D) (U.set i (some (.ref ea))) H) (hdb:noD x) :
  wpAny (model X.prog X.w) X.A (noteFrame (.ref ea) X.env) (λ_ s2=>wpAny (model X.prog X.w) X.A (setFlight (.ref ea) none) (λ_ s3=>wpAny (model X.prog X.w) X.A (handleBy (.ref ea) X.env (.ExceptHandler (some (.Name x np)) (some n) (b0::suite) pos::G4)) (SP X pins D) X.xe s3) X.xe s2) X.xe s:=by
 have hfr:X.A.frames=some (X.env::X.outer):=by rw[I.ok.frames,F.st]
 have fl0:=fl;rw[F.st] at fl;refine B8c hfr F.fr fl λh4 held up4=>D0f held λh5 fl5 up5=>?_;rw[<-F.st] at fl5;have I5:=I.fly F hb fl0.1 fl5 (up4.trans up5) pr;have pr5:A8b X pins B H h5:=A8b.fly I F pr;obtain ⟨oe,ws,e1,e2,e3,e4,e5,e6,_⟩:=B68 F fl5 pr5;have IY:=I5.within e1 e3 e4 e5 e6;refine wpAny_handleBy_cons (codeAny_handlers_test ?_) (by intro q;cases q);refine A2l (X:=X.within ea oe) IY hg hm (B2k (K:=X.K) IY.kIn e1 e2 k ?_) hdb;refine codeAny_handlers_suite_as (B23 fl5 λh6 fl6 up6=>?_);have I6:=I5.fly F hb fl5.1 fl6 up6 pr5;have pr6:A8b X pins B H h6:=A8b.fly I5 F pr5;obtain ⟨of,wf,f1,f2,f3,f4,f5,f6,f7⟩:=B68 F fl6 pr6;have IZ:=I6.within f1 f3 f4 f5 f6;refine X8 (X:=X.within ea of) (v:=.ref ea) IZ hN hi (.inl hln2) rfl (λs2 I2=>?_) (.inr hln2);refine jd (hs of ⟨f2,f7⟩ pins s2 _ H (B1m D) I2 (h f4)) (λf s' q=>?_) (λ_ _ z=>z.elim);cases f with
 | next=>obtain ⟨_,_,_,z⟩:=q;exact z.elim
 | brk=>obtain ⟨_,_,_,z⟩:=q;exact z.elim
 | cont=>obtain ⟨_,_,_,z⟩:=q;exact z.elim
 | ret u =>
  obtain ⟨v,U',H',I',r,q⟩:=q;have I'':=I'.without I.ok;obtain ⟨m,hn,_⟩:=I''.loc;have hcls:(X.env.scope.kind==.class||(X.env.scope.kind==.module&&X.env.locals != X.env.globals))=false:=by rw[I.ok.kind];rfl
  exact wpAny_nameGoes hln hn hcls λh' m' hn' sb=>⟨v,_,H',I''.lost hn' sb,r,q⟩
end
variable {tb:TSX}
section
variable {X:Cx}
def C9a (R:Addr) (i:Nat) (tb:TSX) (ts:Addr->Addr->TS) (K:W.Frag) (mg:Str->Option Value):TS:=λD U H =>
 tb D (λU' cls _ H'=>∃ C x,cls=.ref C/\B5q K C R/\ExC K mg x C/\ExK K C/\∀ ea,H' ea=none->ts ea C (B1m D) (U'.set i (some (.ref ea))) H') U H
theorem C66 {x:Str} {R:Addr} {i:Nat} {ts:Addr->Addr->TS} {pos:Pos} (F:A7a X) (hN:X.N.Nodup) (hg:Gl X x) (hm:X.mg x=some (.ref R)) (hb:C6f X body tb)
  (hs:∀ ea oe C y,XOf oe C->ExC X.K X.mg y C->ExK X.K C->PSs (X.within ea oe) (b0::suite) (ts ea C)) (hi:X.N[i]?=some n) (hln:X.env.kindOf n=some .local) (hln2:X.env.scope.names.lookup n=some .local) (hdb:noD x) :
  PS X (.Try body [.ExceptHandler (some (.Name x np)) (some n) (b0::suite) hpos] [] [] pos) (C9a R i tb ts X.K X.mg):=by
 sleep 5;refine wpAny_Try_except (jd (hb.h pins s U H D _ I h) (λf s1 q=>?_) (λe s1 q=>?_))
 ·cases f with
  | next =>
   obtain ⟨U',H',I',q⟩:=q;exact wpAny_execs_nil ⟨U',H',I',q⟩
  | ret v=>exact q
  | brk=>exact q
  | cont=>exact q
 ·obtain ⟨U',ea,cls,H',B,a0,rfl,I',hb',fl,pr,C,y,rfl,k,c,kk,q⟩:=q;exact C7n I' F hN hi hln hln2 hb' fl pr hg hm k (λoe ho=>hs ea oe C y ho c kk) (q ea) hdb
theorem C2g (i:Nat) {x:Str} {R:Addr} {ts:Addr->Addr->TS} {pos:Pos} (K:W.Frag) (hK:X.K=K) (mg:Str->Option Value) (hmg:X.mg=mg) (F:A7a X) (hN:X.N.Nodup) (hg:Gl X x) (hm:mg x=some (.ref R)) (hb:C6f X body tb)
  (hs:∀ ea oe C y,XOf oe C->ExC K mg y C->ExK K C->QSs (X.within ea oe) (b0::suite) (ts ea C)) (hi:X.N[i]?=some n:=by rfl) (hln:X.env.kindOf n=some .local:=by rfl) (hln2:X.env.scope.names.lookup n=some .local:=by rfl) (hdb:noD x:=by decide) :
  QS X (.Try body [.ExceptHandler (some (.Name x np)) (some n) (b0::suite) hpos] [] [] pos) (C9a R i tb ts K mg):=⟨by
 subst hK hmg;exact C66 F hN hg hm hb (λea oe C y h1 h2 h3=>(hs ea oe C y h1 h2 h3).h) hi hln hln2 hdb⟩
theorem C89 {x:Str} {pos:Pos} (hg:Gl X x) (hm:X.mg x=some (.ref C)) (hd:noD x:=by decide):QE X (.Name x pos) (tC (.ref C)):=⟨C5s hg hm rfl hd⟩
end
def dI (ns:List Int):List PyData:=ns.map PyData.int
def dG (g:List (List Int)):PyData:=.list (g.map λns=>.list (dI ns))
theorem A40:∀ (ns:List Int),PyData.canLayAll0 (dI ns)=true
 | []=>rfl
 | o::r=>by
  show (PyData.canLay0 (.int _)&&PyData.canLayAll0 (dI r))=true;rw[A40 r];rfl
theorem A0y:∀ (ns:List Int),PyData.depthAll (dI ns)=0
 | []=>rfl
 | o::r=>by
  show max (PyData.depth (.int _)) (PyData.depthAll (dI r))=0;rw[A0y r];rfl
theorem B3f:∀ (g:List (List Int)),PyData.canLayAll0 (g.map λns=>.list (dI ns))=true
 | []=>rfl
 | o::r=>by
  show (PyData.canLayAll0 (dI o)&&PyData.canLayAll0 _)=true;rw[B3f r,A40];rfl
theorem A87:∀ (g:List (List Int)),PyData.depthAll (g.map λns=>.list (dI ns))<=1
 | []=>by show 0<=1;decide
 | o::r=>by
  show max (PyData.depthAll (dI o)+1) (PyData.depthAll _)<=1;have:=A87 r;rw[A0y];lia
theorem C40 (g:List (List Int)):(dG g).canLay0=true:=B3f g
theorem C2v (g:List (List Int)):(dG g).depth<=32:=by
 show PyData.depthAll _+1<=32;have:=A87 g;lia
section
variable {X:Cx}
theorem A6c {i j:Nat} {x y:Str} {a b:Expr} {pt pos:Pos} {kt k2 pt2} (hc:X.calm=true) (hN:X.N.Nodup) (hi:X.N[i]?=some x) (hj:X.N[j]?=some y) (hij:i≠j)
  (hx:X.env.scope.names.lookup x=some .local) (hy:X.env.scope.names.lookup y=some .local) (ha:QA X [a,b] ta)
  (hw:swappedStores [.Tuple [.Name x px,.Name y py] kt pt] (.Tuple [a,b] k2 pt2) X.env=pure (some [x,y]))
  (hs:swapsWithSole [.Tuple [.Name x px,.Name y py] kt pt] (.Tuple [a,b] k2 pt2) pos.line X.env=pure false:=by rfl) :
  QS X (.Assign [.Tuple [.Name x px,.Name y py] kt pt] (.Tuple [a,b] k2 pt2) pos) (C18 i j ta):=⟨D14 hc hN hi hj hij hx hy ha.h hw hs⟩
def A2h:V->List V->Hp->VK->Prop:=λx vs H Q=>∃ l xs k y,x=.ref l/\vs=[.int k,y]/\H l=some (.lst xs)/\0<=k/\k<=xs.length/\xs.length < sizeLine/\Q .non (E5 H l (.lst (xs.take k.toNat++[y]++xs.drop k.toNat)))
theorem B98:MtM X "list.insert" A2h:=by
 intro pins s U H x vs v us Q I rx rv h;obtain ⟨l,xs,k,y,rfl,rfl,hH,h0,h1,hz,q⟩:=h;cases rx;obtain ⟨u,w',rfl,ru,rw'⟩:=rv.two;obtain ⟨t,rfl⟩:=ru;sleep 31;have h2:k < 2 ^ 63:=by
  have:(sizeLine:Int) < 2 ^ 63:=by decide
  lia
 have hfit:¬ (!Builtin.List.listFitsIndex k)=true:=by
  rw[fitsIndex_both (by lia) h2];exact qw
 refine call_meets F.slot_list_insert ⟨_,e,rfl⟩ F.entry_list_insert (F.args_list_insert_3 _ _ _) (AutoSeq1.list_insert_list_int_val_1 l its.toArray n k t w' hfit (by rw[size_toArray];lia)) ⟨e,?_⟩;refine ⟨.non,_,I.lset (its':=its.take k.toNat++[w']++its.drop k.toNat) (ys:=xs.take k.toNat++[y]++xs.drop k.toNat) hH e ?_ (((r.take _).append (.cons rw' .nil)).append (r.drop _)) ?_,rfl,q⟩
 ·show (have k':=if k < 0 then (k+(its.toArray.size:Int)).toNat else min k.toNat its.toArray.size;(its.toArray.extract 0 k').push w'++its.toArray.extract k')=_;have hk:(if k < 0 then (k+(its.toArray.size:Int)).toNat else min k.toNat its.toArray.size)=k.toNat:=by
   rw[qs (by lia),size_toArray];lia
  simp only[hk];apply Array.toList_inj.mp;simp;rw[List.take_of_length_le (by rw[length_drop];lia)]
 ·rw[length_append,length_append,jc,length_drop,List.length_singleton];lia
theorem B54 (K:W.Frag) (hK:X.K=K) (ho:PE X o to) (h1:PE X e1 t1) (h2:PE X e2 t2) (hs:starEach [e1,e2] X.env=[(false,eval e1 X.env),(false,eval e2 X.env)]) (hs2:starEach [e2] X.env=[(false,eval e2 X.env)]) (hbase:attributeBase o "insert" X.env (eval o X.env)=eval o X.env)
  (hfew:((backTo cpos (starEach [e1,e2] X.env)).all (λx=>!x.1)&&(backToKw cpos (keywordEach [] X.env)).all (λx=>x.1.isSome)
   && decide ([e1,e2].length+([]:List Keyword).length+(if ([]:List Keyword).isEmpty then 0 else 1) < 30))=true)
  (hline:(apos.endLine==cpos.line)=true):PE X (.Call (.Attribute o "insert" apos) [e1,e2] [] cpos) (tBM K "list" A2h to (A0j t1 (A0j t2 A77))):=by
 subst hK;exact B80 PySem.F.plainAttrs_list PySem.F.slot_list_insert PySem.F.type_list_insert B98 ho (A2k h1 (A2k h2 A88 (by rw[hs2];rfl)) (by rw[hs,hs2])) hbase hfew hline (by rw[hs,hs2]) (by rw[hs2];rfl)
theorem B36 (K:W.Frag) (hK:X.K=K) (ho:QE X o to) (h1:QE X e1 t1) (h2:QE X e2 t2) (hs:starEach [e1,e2] X.env=[(false,eval e1 X.env),(false,eval e2 X.env)]) (hs2:starEach [e2] X.env=[(false,eval e2 X.env)]) (hbase:attributeBase o "insert" X.env (eval o X.env)=eval o X.env)
  (hfew:((backTo cpos (starEach [e1,e2] X.env)).all (λx=>!x.1)&&(backToKw cpos (keywordEach [] X.env)).all (λx=>x.1.isSome)
   && decide ([e1,e2].length+([]:List Keyword).length+(if ([]:List Keyword).isEmpty then 0 else 1) < 30))=true)
  (hline:(apos.endLine==cpos.line)=true):QE X (.Call (.Attribute o "insert" apos) [e1,e2] [] cpos) (tBM K "list" A2h to (A0j t1 (A0j t2 A77))):=⟨B54 K hK ho.h h1.h h2.h hs hs2 hbase hfew hline⟩
end
def up (p i:Nat):Nat:=if i < p then i else i+1
theorem D1g {p:Nat} (h:p<=xs.length):A6u xs none (some (p:Int))=xs.take p:=by
 unfold A6u;have:HT.sIx xs.length xs.length (some (p:Int))=p:=by
  show (if (p:Int) < 0 then ((p:Int)+(xs.length:Int)).toNat else min ((p:Int)).toNat xs.length)=p;rw[qs (by lia)];lia
 rw[this];show List.take (p - 0) (xs.drop 0)=_;simp
theorem B4t {p:Int} (h0:0<=p) (h:p<=xs.length):A6u xs (some p) none=xs.drop p.toNat:=by
 unfold A6u;have:HT.sIx xs.length 0 (some p)=p.toNat:=by
  show (if p < 0 then (p+(xs.length:Int)).toNat else min p.toNat xs.length)=p.toNat;rw[qs (by lia)];lia
 rw[this];show List.take (xs.length - p.toNat) (xs.drop p.toNat)=_;rw[List.take_of_length_le (by rw[length_drop];lia)]
def D89 (K:W.Frag):List V->Hp->VK->Prop:=λxs H Q=>∃ (a:Addr) (ns:List Int),xs=[.ref a]/\E6 K H a (ns.map V.int)/\ns≠[]/\∀ M,M∈ns->(∀ x∈ns,M<=x)->Q (.int M) H
def D5u (K:W.Frag):List V->Hp->VK->Prop:=λxs H Q=>∃ (a:Addr) (ns:List Int),xs=[.ref a]/\E6 K H a (ns.map V.int)/\ns≠[]/\∀ M,M∈ns->(∀ x∈ns,x<=M)->Q (.int M) H
section
variable {X:Cx}
theorem B52 (K:W.Frag) (hK:X.K=K) (hc:X.calm=true):R3 X (.builtin "min") (D89 K):=by
 subst hK;sleep 10;obtain ⟨a,ns,rfl,hq,hne,q⟩:=h;obtain ⟨u,rfl,r1⟩:=A5u r;cases r1;sleep 13;have hi:=A8e rv;obtain ⟨zs,ez⟩:=hi.allInts.items;have hl:=p.isList;rw[ez] at hl;have e3:ns=zs.toList.map (λx=>x.1):=by
  have e2:=hi.numsOf;have e3:=nums_intItems (xs:=zs);rw[<-ez] at e3;exact e2.symm.trans e3
 have hsz:0 < zs.size:=by
  have:0 < ns.length:=List.length_pos_iff.mpr hne;rw[e3,qk,qo] at this;exact this
 refine min_intList (I.ok.hd hc) hl hsz λv h' tk hv hk=>?_;obtain ⟨t,rfl⟩:=intItems_at hv;obtain ⟨h1,h2⟩:=argBest_lt (numAt zs) (zs.size - 1);refine ⟨.int _,H,I.kept hk,⟨_,rfl⟩,q _ ?_ λx hx=>?_⟩
 ·rw[e3,numAt_eq];exact getD_mem (by rw[qk,qo];omega)
 ·rw[e3] at hx;obtain ⟨j,hj,rfl⟩:=mem_getD hx;rw[qk,qo] at hj;rw[<-numAt_eq];exact h2 j (by omega)
theorem B60 (K:W.Frag) (hK:X.K=K) (hc:X.calm=true):R3 X (.builtin "max") (D5u K):=by
 subst hK;sleep 10;obtain ⟨a,ns,rfl,hq,hne,q⟩:=h;obtain ⟨u,rfl,r1⟩:=A5u r;cases r1;sleep 13;have hi:=A8e rv;obtain ⟨zs,ez⟩:=hi.allInts.items;have hl:=p.isList;rw[ez] at hl;have e3:ns=zs.toList.map (λx=>x.1):=by
  have e2:=hi.numsOf;have e3:=nums_intItems (xs:=zs);rw[<-ez] at e3;exact e2.symm.trans e3
 have hsz:0 < zs.size:=by
  have:0 < ns.length:=List.length_pos_iff.mpr hne;rw[e3,qk,qo] at this;exact this
 refine max_intList (I.ok.hd hc) hl hsz λv h' tk hv hk=>?_;obtain ⟨t,rfl⟩:=intItems_at hv;obtain ⟨h1,h2⟩:=argBest_gt (numAt zs) (zs.size - 1);refine ⟨.int _,H,I.kept hk,⟨_,rfl⟩,q _ ?_ λx hx=>?_⟩
 ·rw[e3,numAt_eq];exact getD_mem (by rw[qk,qo];omega)
 ·rw[e3] at hx;obtain ⟨j,hj,rfl⟩:=mem_getD hx;rw[qk,qo] at hj;rw[<-numAt_eq];exact h2 j (by omega)
end
end L2
namespace DL
open L2
abbrev D:=PyData
def muO:HO->Bool
 | .lst _=>true
 | .dK _=>true
 | .dT _=>true
 | _=>false
abbrev MuS:={o:HO // muO o=true}
def Mu (H:Hp) (a:Addr):Prop:=∃ o:MuS,H a=some o.1
theorem Mu.lst {H:Hp} {a:Addr} {us:List V} (h:H a=some (.lst us)):Mu H a:=⟨⟨.lst us,rfl⟩,h⟩
variable {H H':Hp} {a acc:Addr} {K:W.Frag} {X:Cx} {C:Int->Int->Prop} {p2 p tp:Pos} {T:List Nat} {tg:Expr} {n:Nat} {lo:Int} {scope:Scope} {N:List Str} {mg:Str->Option Value} {qual:Str} {w:World} {x0 x2 x3 x4 x5 x6 x7:Option (Bool × D)} {A:Around}
theorem Mu.of {o:HO} (h:H a=some o) (m:muO o=true):Mu H a:=⟨⟨o,m⟩,h⟩
theorem Mu.no {o:HO} (h:Mu H a) (e:H a=some o) (n:muO o=false):False:=by
 obtain ⟨u,q⟩:=h;rw[e] at q;have q:=zu q;have m:=u.2;rw[<-q,n] at m;cases m
def C8l:Key->D
 | .inl i=>.int i
 | .inr x=>.str x
def D6y:D->Option V
 | .none=>some .non
 | .bool b=>some (.bl b)
 | .int i=>some (.int i)
 | .str x=>some (.str x)
 | _=>Option.none
def C8j:List (Key × V)->List (D × D)->Prop
 | [],[]=>True
 | (k,v)::r,(d,e)::t=>d=C8l k/\D6y e=some v/\C8j r t
 | _,_=>False
def D8z:List (List Key × V)->List (D × D)->Prop
 | [],[]=>True
 | (k,v)::r,(d,e)::t=>d=.tuple (k.map C8l)/\D6y e=some v/\D8z r t
 | _,_=>False
def B9b:HO->Bool->List (D × D)->Prop
 | .dK kvs,false,kds=>C8j kvs kds
 | .dT kvs,true,kds=>D8z kvs kds
 | _,_,_=>False
def C3n (b:Bool) (kds:List (D × D)):D:=.dict ((.bool false,.bool b)::kds)
theorem B9b.mu {o:HO} {b:Bool} {kds:List (D × D)} (h:B9b o b kds):muO o=true:=by cases o<;>first|rfl|(cases b<;>exact h.elim)
mutual
inductive Dn (K:W.Frag) (H:Hp):V->D->Prop
 | non:Dn K H .non .none
 | bl (b):Dn K H (.bl b) (.bool b)
 | int (i):Dn K H (.int i) (.int i)
 | str (x):Dn K H (.str x) (.str x)
 | lst {a us ds}:H a=some (.lst us)->Dns K H us ds->Dn K H (.ref a) (.list ds)
 | tup {a us ds}:SqT K H a us->Dns K H us ds->Dn K H (.ref a) (.tuple ds)
 | scr {a:Addr} (ns:List Int):E6 K H a (ns.map V.int)->Dn K H (.ref a) (.dict [(.none,.list (ns.map .int))])
 | opq (a:Addr):Dn K H (.ref a) (.dict [(.bool true,.int (a:Nat))])
 | dct {a o b kds}:H a=some o->B9b o b kds->Dn K H (.ref a) (.dict ((.bool false,.bool b)::kds))
 | dcf {a kvs kds}:Rd H a (.dK kvs)->C8j kvs kds->Dn K H (.ref a) (.dict ((.int 0,.none)::kds))
 | dcl {a:Addr} {kvs:List (Key × V)} {kds:List (D × D)}:Rd H a (.dK kvs)->kds.map Prod.fst=kvs.map (λp=>C8l p.1)->Dns K H (kvs.map Prod.snd) (kds.map Prod.snd)->Dn K H (.ref a) (.dict ((.int 1,.none)::kds))
inductive Dns (K:W.Frag) (H:Hp):List V->List D->Prop
 | nil:Dns K H [] []
 | cons {v vs d ds}:Dn K H v d->Dns K H vs ds->Dns K H (v::vs) (d::ds)
end
theorem Dn.both {P:V->D->Prop} {Q:List V->List D->Prop} (c1:P .non .none) (c2:∀ b,P (.bl b) (.bool b)) (c3:∀ i,P (.int i) (.int i)) (c4:∀ x,P (.str x) (.str x))
  (c5:∀ {a us ds},H a=some (.lst us)->Q us ds->P (.ref a) (.list ds)) (c6:∀ {a us ds},SqT K H a us->Q us ds->P (.ref a) (.tuple ds)) (c7:∀ {a} (ns:List Int),E6 K H a (ns.map V.int)->P (.ref a) (.dict [(.none,.list (ns.map .int))]))
  (c8:∀ a:Addr,P (.ref a) (.dict [(.bool true,.int (a:Nat))])) (c9:∀ {a o b kds},H a=some o->B9b o b kds->P (.ref a) (.dict ((.bool false,.bool b)::kds))) (c10:∀ {a kvs kds},Rd H a (.dK kvs)->C8j kvs kds->P (.ref a) (.dict ((.int 0,.none)::kds))) (c11:∀ {a:Addr} {kvs:List (Key × V)} {kds:List (D × D)},Rd H a (.dK kvs)->kds.map Prod.fst=kvs.map (λp=>C8l p.1)->Q (kvs.map Prod.snd) (kds.map Prod.snd)->P (.ref a) (.dict ((.int 1,.none)::kds))) (n0:Q [] []) (n1:∀ {v vs d ds},P v d->Q vs ds->Q (v::vs) (d::ds)) :
  (∀ {v d},Dn K H v d->P v d)/\∀ {vs ds},Dns K H vs ds->Q vs ds :=
 ⟨λh=>Dn.rec (motive_1:=λv d _=>P v d) (motive_2:=λvs ds _=>Q vs ds) c1 c2 c3 c4 (λh _ r=>c5 h r) (λh _ r=>c6 h r) (λns h=>c7 ns h) c8 (λh r=>c9 h r) (λh r=>c10 h r) (λh e _ r=>c11 h e r) n0 (λ_ _ p q=>n1 p q) h,
  λh=>Dns.rec (motive_1:=λv d _=>P v d) (motive_2:=λvs ds _=>Q vs ds) c1 c2 c3 c4 (λh _ r=>c5 h r) (λh _ r=>c6 h r) (λns h=>c7 ns h) c8 (λh r=>c9 h r) (λh r=>c10 h r) (λh e _ r=>c11 h e r) n0 (λ_ _ p q=>n1 p q) h⟩
theorem Dn.same2 (e:A8 H H'):(∀ {v d},Dn K H v d->Dn K H' v d)/\∀ {vs ds},Dns K H vs ds->Dns K H' vs ds :=
 Dn.both .non .bl .int .str (λh r=>.lst (e _ _ h) r) (λh r=>.tup (e.tup h) r) (λns h=>.scr ns (e.seq h)) .opq (λh r=>.dct (e _ _ h) r) (λh r=>.dcf (h.elim (λh=>.inl (e _ _ h)) λ⟨o,h⟩=>.inr ⟨o,e _ _ h⟩) r) (λh g r=>.dcl (h.elim (λh=>.inl (e _ _ h)) λ⟨o,h⟩=>.inr ⟨o,e _ _ h⟩) g r) .nil λp q=>.cons p q
theorem Dn.same (e:A8 H H') {v:V} {d:D} (h:Dn K H v d):Dn K H' v d:=(Dn.same2 e).1 h
theorem Dns.same (e:A8 H H') {vs:List V} {ds:List D} (h:Dns K H vs ds):Dns K H' vs ds:=(Dn.same2 e).2 h
theorem Dn.deep2:(∀ {v d},Dn K H v d->d.canLay0=true->Den K H v d)/\∀ {vs ds},Dns K H vs ds->PyData.canLayAll0 ds=true->Dens K H vs ds :=
 Dn.both (λ_=>.non) (λb _=>.bl b) (λb _=>.int b) (λb _=>.str b) (λh r q=>.lst (E6.of h) (r (by simpa [PyData.canLay0] using q))) (λh r q=>.tup h (r (by simpa [PyData.canLay0] using q)))
  (λns h q=>by simp[PyData.canLay0] at q) (λa q=>by simp[PyData.canLay0] at q) (λh r q=>by simp[PyData.canLay0] at q) (λh r q=>by simp[PyData.canLay0] at q) (λh g r q=>by simp[PyData.canLay0] at q) (λ_=>.nil) λp r q=>by
  simp only[PyData.canLayAll0,zb] at q;exact .cons (p q.1) (r q.2)
theorem Dn.deep {v:V} {d:D} (h:Dn K H v d) (q:d.canLay0=true):Den K H v d:=Dn.deep2.1 h q
theorem Dns.deep {vs:List V} {ds:List D} (h:Dns K H vs ds) (q:PyData.canLayAll0 ds=true):Dens K H vs ds:=Dn.deep2.2 h q
theorem Dns.length:∀ {vs ds},Dns K H vs ds->vs.length=ds.length
 | _,_,.nil=>rfl
 | _,_,.cons _ r=>by rw[length_cons,length_cons,Dns.length r]
theorem Dns.get:∀ {vs ds} {i:Nat} {d:D},Dns K H vs ds->ds[i]?=some d->∃ v,vs[i]?=some v/\Dn K H v d
 | _,_,0,_,.cons h r,e=>by simp at e;subst e;exact ⟨_,rfl,h⟩
 | _,_,i+1,d,.cons h r,e=>by simp at e ⊢;exact Dns.get r e
theorem Dns.append:∀ {vs ds us es},Dns K H vs ds->Dns K H us es->Dns K H (vs++us) (ds++es)
 | _,_,_,_,.nil,q=>q
 | _,_,_,_,.cons h r,q=>.cons h (Dns.append r q)
mutual
inductive Ow (K:W.Frag) (H:Hp):V->D->List Addr->Prop
 | non:Ow K H .non .none []
 | bl (b):Ow K H (.bl b) (.bool b) []
 | int (i):Ow K H (.int i) (.int i) []
 | str (x):Ow K H (.str x) (.str x) []
 | lst {a us ds ns}:H a=some (.lst us)->Ows K H us ds ns->Ow K H (.ref a) (.list ds) (a::ns)
 | tup {a us ds ns}:SqT K H a us->Ows K H us ds ns->Ow K H (.ref a) (.tuple ds) ns
 | dct {a o b kds}:H a=some o->B9b o b kds->Ow K H (.ref a) (.dict ((.bool false,.bool b)::kds)) [a]
inductive Ows (K:W.Frag) (H:Hp):List V->List D->List Addr->Prop
 | nil:Ows K H [] [] []
 | cons {v vs d ds ns ms}:Ow K H v d ns->Ows K H vs ds ms->Ows K H (v::vs) (d::ds) (ns++ms)
end
theorem Ow.both {P:V->D->List Addr->Prop} {Q:List V->List D->List Addr->Prop} (c1:P .non .none []) (c2:∀ b,P (.bl b) (.bool b) []) (c3:∀ i,P (.int i) (.int i) []) (c4:∀ x,P (.str x) (.str x) [])
  (c5:∀ {a us ds ns},H a=some (.lst us)->Q us ds ns->P (.ref a) (.list ds) (a::ns)) (c6:∀ {a us ds ns},SqT K H a us->Q us ds ns->P (.ref a) (.tuple ds) ns)
  (c9:∀ {a o b kds},H a=some o->B9b o b kds->P (.ref a) (.dict ((.bool false,.bool b)::kds)) [a]) (n0:Q [] [] []) (n1:∀ {v vs d ds ns ms},P v d ns->Q vs ds ms->Q (v::vs) (d::ds) (ns++ms)) :
  (∀ {v d ns},Ow K H v d ns->P v d ns)/\∀ {vs ds ns},Ows K H vs ds ns->Q vs ds ns :=
 ⟨λh=>Ow.rec (motive_1:=λv d ns _=>P v d ns) (motive_2:=λvs ds ns _=>Q vs ds ns) c1 c2 c3 c4 (λh _ r=>c5 h r) (λh _ r=>c6 h r) (λh r=>c9 h r) n0 (λ_ _ p q=>n1 p q) h,
  λh=>Ows.rec (motive_1:=λv d ns _=>P v d ns) (motive_2:=λvs ds ns _=>Q vs ds ns) c1 c2 c3 c4 (λh _ r=>c5 h r) (λh _ r=>c6 h r) (λh r=>c9 h r) n0 (λ_ _ p q=>n1 p q) h⟩
theorem Ow.den2:(∀ {v d ns},Ow K H v d ns->Dn K H v d)/\∀ {v d ns},Ows K H v d ns->Dns K H v d :=
 Ow.both .non .bl .int .str (λh r=>.lst h r) (λh r=>.tup h r) (λh r=>.dct h r) .nil λp q=>.cons p q
theorem Ow.den {v:V} {d:D} {ns:List Addr} (h:Ow K H v d ns):Dn K H v d:=Ow.den2.1 h
theorem Ows.den {v:List V} {d:List D} {ns:List Addr} (h:Ows K H v d ns):Dns K H v d:=Ow.den2.2 h
theorem Ow.there2:(∀ {v d ns},Ow K H v d ns->∀ a∈ns,Mu H a)/\∀ {v d ns},Ows K H v d ns->∀ a∈ns,Mu H a :=
 Ow.both (P:=λ_ _ ns=>∀ a∈ns,Mu H a) (Q:=λ_ _ ns=>∀ a∈ns,Mu H a) (λ_ z=>nomatch z) (λ_ _ z=>nomatch z) (λ_ _ z=>nomatch z) (λ_ _ z=>nomatch z) (λh r a ha=>(zn.mp ha).elim (λe=>e ▸ .lst h) (r a)) (λ_ r=>r)
  (λh r a ha=>zc.mp ha ▸ .of h r.mu) (λ_ z=>nomatch z) λp q a ha=>(zm.mp ha).elim (p a) (q a)
theorem Ow.there {v:V} {d:D} {ns:List Addr} (h:Ow K H v d ns):∀ a∈ns,Mu H a:=Ow.there2.1 h
theorem Ows.there {v:List V} {d:List D} {ns:List Addr} (h:Ows K H v d ns):∀ a∈ns,Mu H a:=Ow.there2.2 h
def A09 (ns:List Addr) (H H':Hp):Prop:=(∀ a∈ns,H' a=H a)/\∀ a o,H a=some o->muO o=false->H' a=some o
theorem A09.sqt {ns:List Addr} (k:A09 ns H H') {us:List V} (h:SqT K H a us):SqT K H' a us:=by
 rcases h with (h|⟨o,h⟩)|h
 ·exact .inl (.inl (k.2 _ _ h rfl))
 ·exact .inl (.inr ⟨o,k.2 _ _ h rfl⟩)
 ·exact .inr h
theorem Ow.kept2:(∀ {v d ns},Ow K H v d ns->A09 ns H H'->Ow K H' v d ns)/\∀ {v d ns},Ows K H v d ns->A09 ns H H'->Ows K H' v d ns :=
 Ow.both (P:=λv d ns=>A09 ns H H'->Ow K H' v d ns) (Q:=λv d ns=>A09 ns H H'->Ows K H' v d ns) (λ_=>.non) (λb _=>.bl b) (λb _=>.int b) (λb _=>.str b) (λh r k=>.lst ((k.1 _ qx).trans h) (r ⟨λa ha=>k.1 a (qy _ ha),k.2⟩))
  (λh r k=>.tup (k.sqt h) (r k)) (λh r k=>.dct ((k.1 _ qx).trans h) r) (λ_=>.nil) λp q k=>.cons (p ⟨λa ha=>k.1 a (za _ ha),k.2⟩) (q ⟨λa ha=>k.1 a (qz _ ha),k.2⟩)
theorem Ow.kept {v:V} {d:D} {ns:List Addr} (h:Ow K H v d ns) (k:A09 ns H H'):Ow K H' v d ns:=Ow.kept2.1 h k
theorem Ows.kept {v:List V} {d:List D} {ns:List Addr} (h:Ows K H v d ns) (k:A09 ns H H'):Ows K H' v d ns:=Ow.kept2.2 h k
theorem Ow.same2 (e:A8 H H'):(∀ {v d ns},Ow K H v d ns->Ow K H' v d ns)/\∀ {v d ns},Ows K H v d ns->Ows K H' v d ns :=
 Ow.both .non .bl .int .str (λh r=>.lst (e _ _ h) r) (λh r=>.tup (e.tup h) r) (λh r=>.dct (e _ _ h) r) .nil λp q=>.cons p q
theorem Ow.same (e:A8 H H') {v:V} {d:D} {ns:List Addr} (h:Ow K H v d ns):Ow K H' v d ns:=(Ow.same2 e).1 h
theorem Ows.same (e:A8 H H') {v:List V} {d:List D} {ns:List Addr} (h:Ows K H v d ns):Ows K H' v d ns:=(Ow.same2 e).2 h
mutual
def flat:D->Bool
 | .none=>true
 | .bool _=>true
 | .int _=>true
 | .str _=>true
 | .list _=>false
 | .tuple ds=>flats ds
 | .dict _=>false
def flats:List D->Bool
 | []=>true
 | d::ds=>flat d&&flats ds
end
theorem B2j:(∀ {v d},Dn K H v d->flat d=true->Ow K H v d [])/\∀ {v d},Dns K H v d->flats d=true->Ows K H v d [] :=
 Dn.both (λ_=>.non) (λb _=>.bl b) (λb _=>.int b) (λb _=>.str b) (λ_ _ h=>nomatch h) (λh r q=>.tup h (r q)) (λ_ _ h=>nomatch h) (λ_ h=>nomatch h) (λ_ _ h=>nomatch h) (λ_ _ h=>nomatch h) (λ_ _ _ h=>nomatch h) (λ_=>.nil) λp r q=>by
  rw[flats,zb] at q;exact .cons (ns:=[]) (ms:=[]) (p q.1) (r q.2)
theorem B6g {v:V} {d:D} (h:Dn K H v d) (q:flat d=true):Ow K H v d []:=B2j.1 h q
theorem A1p {v:List V} {d:List D} (h:Dns K H v d) (q:flats d=true):Ows K H v d []:=B2j.2 h q
theorem A9l (k:∀ a o,H a=some o->muO o=false->H' a=some o):(∀ {v d},Dn K H v d->flat d=true->Dn K H' v d)/\∀ {v d},Dns K H v d->flats d=true->Dns K H' v d :=
 Dn.both (λ_=>.non) (λb _=>.bl b) (λb _=>.int b) (λb _=>.str b) (λ_ _ h=>nomatch h) (λh r q=>.tup (A09.sqt (ns:=[]) ⟨λ_ z=>(by cases z),k⟩ h) (r q)) (λ_ _ h=>nomatch h) (λ_ h=>nomatch h) (λ_ _ h=>nomatch h) (λ_ _ h=>nomatch h) (λ_ _ _ h=>nomatch h) (λ_=>.nil) λp r q=>by
  rw[flats,zb] at q;exact .cons (p q.1) (r q.2)
theorem B2z (k:∀ a o,H a=some o->muO o=false->H' a=some o) {v:V} {d:D} (h:Dn K H v d) (q:flat d=true):Dn K H' v d:=(A9l k).1 h q
theorem C04 (k:∀ a o,H a=some o->muO o=false->H' a=some o) {v:List V} {d:List D} (h:Dns K H v d) (q:flats d=true):Dns K H' v d:=(A9l k).2 h q
open Classical in
noncomputable def S4 (Z:Addr->Prop) (H:Hp):Hp:=λa=>if Z a then none else H a
theorem L8 {o:HO} (h:H a=some o) (z:¬ Z a):S4 Z H a=some o:=by unfold S4;rw[qs z];exact h
theorem P5 {o:HO} (h:S4 Z H a=some o):H a=some o/\¬ Z a:=by
 unfold S4 at h;split at h
 ·cases h
 ·exact ⟨h,‹_›⟩
theorem L3:A8 (S4 Z H) H:=λ_ _ h=>(P5 h).1
theorem A0p (e:A8 H H'):A8 (S4 Z H) (S4 Z H'):=λb o h=>L8 (e b o (P5 h).1) (P5 h).2
theorem A1s {Z':Addr->Prop} (h:∀ a,Z' a->Z a):A8 (S4 Z H) (S4 Z' H):=λb o e=>L8 (P5 e).1 λz=>(P5 e).2 (h b z)
theorem B0g {v:V} {d:D} (hl:∀ a,Z a->Mu H a) (h:Dn K H v d) (hf:flat d=true):Dn K (S4 Z H) v d :=
 B2z (λa o e n=>L8 e λz=>(hl a z).no e n) h hf
theorem B7s (hl:∀ a,Z a->Mu H a):(∀ {v d ns},Ow K H v d ns->(∀ a∈ns,¬ Z a)->Dn K (S4 Z H) v d)/\∀ {v d ns},Ows K H v d ns->(∀ a∈ns,¬ Z a)->Dns K (S4 Z H) v d :=
 Ow.both (P:=λv d ns=>(∀ a∈ns,¬ Z a)->Dn K (S4 Z H) v d) (Q:=λv d ns=>(∀ a∈ns,¬ Z a)->Dns K (S4 Z H) v d) (λ_=>.non) (λb _=>.bl b) (λb _=>.int b) (λb _=>.str b) (λh r k=>.lst (L8 h (k _ qx)) (r λa ha=>k a (qy _ ha)))
  (λh r k=>.tup (A09.sqt (ns:=[]) ⟨λ_ z=>(by cases z),λa o e n=>L8 e λz=>(hl a z).no e n⟩ h) (r k)) (λh r k=>.dct (L8 h (k _ qx)) r) (λ_=>.nil) λp q k=>.cons (p λa ha=>k a (za _ ha)) (q λa ha=>k a (qz _ ha))
theorem B0y (hl:∀ a,Z a->Mu H a) {v:V} {d:D} {ns:List Addr} (h:Ow K H v d ns) (k:∀ a∈ns,¬ Z a):Dn K (S4 Z H) v d:=(B7s hl).1 h k
theorem C5k (hl:∀ a,Z a->Mu H a) {v:List V} {d:List D} {ns:List Addr} (h:Ows K H v d ns) (k:∀ a∈ns,¬ Z a):Dns K (S4 Z H) v d:=(B7s hl).2 h k
abbrev G2:=List (Option (Bool × D))
def Z0:Addr->Prop:=λ_=>False
def Hd (Z:Addr->Prop) (ν:Nat->List Addr):Addr->Prop:=λa=>Z a\/∃ i,a∈ν i
structure D2 (K:W.Frag) (Z:Addr->Prop) (H0:Hp) (ν:Nat->List Addr) (O:G2) (U:L2.St) (H:Hp):Prop where
 sm:A8 H0 H
 len:U.length=O.length
 sl:∀ i b d,O[i]?=some (some (b,d))->∃ v,U[i]?=some (some v)/\if b=true then Ow K H v d (ν i) else Dn K (S4 (Hd Z ν) H) v d
 nd:∀ i,(ν i).Nodup
 dj:∀ i j a,a∈ν i->a∈ν j->i=j
 fr:∀ i a,a∈ν i->H0 a=none/\¬ Z a/\Mu H a
 zf:∀ a,Z a->H0 a=none/\Mu H a
section
variable {K:W.Frag} {Z:Addr->Prop} {H0 H H':Hp} {ν:Nat->List Addr} {O:G2} {U:L2.St} {v:V} {d:D}
theorem D2.hl (S:D2 K Z H0 ν O U H):∀ a,Hd Z ν a->Mu H a:=λa h=>by
 rcases h with h|⟨i,h⟩
 ·exact (S.zf a h).2
 ·exact (S.fr i a h).2.2
theorem D2.same (S:D2 K Z H0 ν O U H) (e:A8 H H'):D2 K Z H0 ν O U H' where
 sm:=S.sm.trans e
 len:=S.len
 sl:=λi b d h=>by
  obtain ⟨v,h1,h2⟩:=S.sl i b d h;refine ⟨v,h1,?_⟩;cases b with
  | true=>exact Ow.same e h2
  | false=>exact Dn.same (A0p e) h2
 nd:=S.nd
 dj:=S.dj
 fr:=λi a h=>by obtain ⟨h1,h2,us,h3⟩:=S.fr i a h;exact ⟨h1,h2,us,e _ _ h3⟩
 zf:=λa h=>by obtain ⟨h1,us,h3⟩:=S.zf a h;exact ⟨h1,us,e _ _ h3⟩
theorem A2r {α:Type} {l:List α} {i j:Nat} {x y:α} (h:(l.set i x)[j]?=some y):(j=i/\y=x/\i < l.length)\/(j≠i/\l[j]?=some y):=by
 rw[List.getElem?_set] at h;split at h
 ·split at h
  ·cases h;exact .inl ⟨by lia,rfl,by lia⟩
  ·cases h
 ·exact .inr ⟨by lia,h⟩
theorem D2.setOld (S:D2 K Z H0 ν O U H) (i:Nat) (h:Dn K (S4 (Hd Z ν) H) v d):D2 K Z H0 ν (O.set i (some (false,d))) (U.set i (some v)) H where
 sm:=S.sm
 len:=by rw[length_set,length_set];exact S.len
 sl:=λj b e hj=>by
  rcases A2r hj with ⟨rfl,h1,h2⟩|⟨h1,h2⟩
  ·cases h1;exact ⟨v,by rw[List.getElem?_set_self (by rw[S.len];exact h2)],h⟩
  ·obtain ⟨u,q1,q2⟩:=S.sl j b e h2;exact ⟨u,by rw[List.getElem?_set_ne (Ne.symm h1)];exact q1,q2⟩
 nd:=S.nd
 dj:=S.dj
 fr:=S.fr
 zf:=S.zf
def E9 (O:G2):List Nat->G2
 | []=>O
 | i::r=>E9 (O.set i none) r
theorem W8:∀ (s:List Nat) (O:G2),(E9 O s).length=O.length
 | [],_=>rfl
 | i::r,O=>by unfold E9;rw[W8 r,length_set]
theorem A0s:∀ (s:List Nat) {O:G2} {i:Nat} {x:Bool × D},(E9 O s)[i]?=some (some x)->i∉s/\O[i]?=some (some x)
 | [],_,_,_,h=>⟨by simp,h⟩
 | j::r,O,i,x,h=>by
  obtain ⟨h1,h2⟩:=A0s r h;rcases A2r h2 with ⟨rfl,q,_⟩|⟨q1,q2⟩
  ·cases q
  ·exact ⟨by simp[h1,q1],q2⟩
theorem D2.setOwn (S:D2 K Z H0 ν O U H) (s:List Nat) (i:Nat) {ms:List Addr} (e:A8 H H') (h:Ow K H' v d ms) (nd:ms.Nodup) (fr:∀ a∈ms,H a=none\/∃ j∈s,a∈ν j) :
  D2 K Z H0 (λj=>if j=i then ms else if j∈s then [] else ν j) ((E9 O s).set i (some (true,d))) (U.set i (some v)) H' where
 sm:=S.sm.trans e
 len:=by rw[length_set,length_set,W8];exact S.len
 sl:=λj b c hj=>by
  rcases A2r hj with ⟨rfl,h1,h2⟩|⟨h1,h2⟩
  ·cases h1;exact ⟨v,by rw[List.getElem?_set_self (by rw[S.len];rw[W8] at h2;exact h2)],by rw[qr rfl];rw[qr rfl];exact h⟩
  ·obtain ⟨h3,h4⟩:=A0s s h2;obtain ⟨u,q1,q2⟩:=S.sl j b c h4;refine ⟨u,by rw[List.getElem?_set_ne (Ne.symm h1)];exact q1,?_⟩;cases b with
   | true =>
    rw[qr rfl,qs h1,qs h3];exact Ow.same e q2
   | false =>
    refine Dn.same (λa o ha=>?_) q2;obtain ⟨g1,g2⟩:=P5 ha;refine L8 (e _ _ g1) λz=>?_;rcases z with z|⟨k,z⟩
    ·exact g2 (.inl z)
    ·dsimp only at z;split at z
     ·rcases fr a z with z|⟨l,_,z⟩
      ·rw[g1] at z;cases z
      ·exact g2 (.inr ⟨l,z⟩)
     ·split at z
      ·cases z
      ·exact g2 (.inr ⟨k,z⟩)
 nd:=λj=>by
  split
  ·exact nd
  ·split
   ·exact nodup_nil
   ·exact S.nd j
 dj:=λj k a hj hk=>by
  have key:∀ l,l∉s->a∈ν l->a∉ms:=λl hl ha hm=>by
   rcases fr a hm with z|⟨m,hm,z⟩
   ·obtain ⟨_,_,us,q⟩:=S.fr l a ha;rw[z] at q;cases q
   ·rw[S.dj l m a ha z] at hl;exact hl hm
  split at hj
  ·split at hk
   ·lia
   ·split at hk
    ·cases hk
    ·exact absurd hj (key k ‹_› hk)
  ·split at hj
   ·cases hj
   ·split at hk
    ·exact absurd hk (key j ‹_› hj)
    ·split at hk
     ·cases hk
     ·exact S.dj j k a hj hk
 fr:=λj a ha=>by
  split at ha
  ·have ht:=h.there a ha;rcases fr a ha with z|⟨m,_,z⟩
   ·exact ⟨S.sm.gone z,(λq=>by obtain ⟨_,us,q⟩:=S.zf a q;rw[z] at q;cases q),ht⟩
   ·obtain ⟨q1,q2,us,q3⟩:=S.fr m a z;exact ⟨q1,q2,us,e _ _ q3⟩
  ·split at ha
   ·cases ha
   ·obtain ⟨q1,q2,us,q3⟩:=S.fr j a ha;exact ⟨q1,q2,us,e _ _ q3⟩
 zf:=λa h=>by obtain ⟨h1,us,h3⟩:=S.zf a h;exact ⟨h1,us,e _ _ h3⟩
def frz (O:G2):G2:=O.map λx=>x.map λy=>(false,y.2)
theorem C82 {O:G2} {i:Nat} {b:Bool} {d:D} (h:(frz O)[i]?=some (some (b,d))):b=false/\∃ c,O[i]?=some (some (c,d)):=by
 unfold frz at h;rw[qp] at h;cases q:O[i]? with
 | none=>rw[q] at h;cases h
 | some x =>
  rw[q] at h;cases x with
  | none=>cases h
  | some y=>cases h;exact ⟨rfl,y.1,rfl⟩
theorem D2.frz (S:D2 K Z H0 ν O U H):D2 K Z H0 (λ_=>[]) (frz O) U H where
 sm:=S.sm
 len:=by unfold DL.frz;rw[qk];exact S.len
 sl:=λi b d h=>by
  obtain ⟨rfl,c,h⟩:=C82 h;obtain ⟨v,h1,h2⟩:=S.sl i c d h;refine ⟨v,h1,?_⟩;have hl:∀ a,Hd Z (λ_=>[]) a->Mu H a:=λa z=>by
   rcases z with z|⟨_,z⟩
   ·exact (S.zf a z).2
   ·cases z
  cases c with
  | true =>
   refine B0y hl h2 λa ha z=>?_;rcases z with z|⟨_,z⟩
   ·exact (S.fr i a ha).2.1 z
   ·cases z
  | false=>exact Dn.same (A1s λa z=>by rcases z with z|⟨_,z⟩;exact .inl z;cases z) h2
 nd:=λ_=>nodup_nil
 dj:=λ_ _ _ z=>by cases z
 fr:=λ_ _ z=>by cases z
 zf:=S.zf
def frz1 (i:Nat) (O:G2):G2:=match O[i]? with
 | some (some (_,d))=>O.set i (some (false,d))
 | _=>O
theorem D2.frz1 (S:D2 K Z H0 ν O U H) (i:Nat):D2 K Z H0 (λj=>if j=i then [] else ν j) (frz1 i O) U H:=by
 have hl:∀ a,Hd Z (λj=>if j=i then [] else ν j) a->Hd Z ν a:=λa z=>by
  rcases z with z|⟨j,z⟩
  ·exact .inl z
  ·dsimp only at z;split at z
   ·cases z
   ·exact .inr ⟨j,z⟩
 have sl:∀ j b d,O[j]?=some (some (b,d))->j≠i->∃ v,U[j]?=some (some v)/\if b=true then Ow K H v d (if j=i then [] else ν j) else Dn K (S4 (Hd Z λj=>if j=i then [] else ν j) H) v d:=λj b d h hj=>by
  obtain ⟨v,h1,h2⟩:=S.sl j b d h;refine ⟨v,h1,?_⟩;rw[qs hj];cases b with
  | true=>exact h2
  | false=>exact Dn.same (A1s hl) h2
 refine ⟨S.sm,?_,?_,λj=>?_,λj k a hj hk=>?_,λj a ha=>?_,S.zf⟩
 ·unfold DL.frz1;split
  ·rw[length_set];exact S.len
  ·exact S.len
 ·intro j b d h;unfold DL.frz1 at h;split at h
  case h_1 x b' d' e =>
   rcases A2r h with ⟨rfl,h1,h2⟩|⟨h1,h2⟩
   ·cases h1;obtain ⟨v,h1,h2⟩:=S.sl j b' d e;refine ⟨v,h1,?_⟩;cases b' with
    | true =>
     refine B0y (λa z=>S.hl a (hl a z)) h2 λa ha z=>?_;rcases z with z|⟨k,z⟩
     ·exact (S.fr j a ha).2.1 z
     ·dsimp only at z;split at z
      ·cases z
      ·exact absurd (S.dj _ _ _ z ha) ‹_›
    | false=>exact Dn.same (A1s hl) h2
   ·exact sl j b d h2 h1
  case h_2 e =>
   by_cases hj:j=i
   ·subst hj;exact absurd h (λq=>e _ _ q)
   ·exact sl j b d h hj
 ·skip
  split
  ·exact nodup_nil
  ·exact S.nd j
 ·skip
  split at hj
  ·cases hj
  ·split at hk
   ·cases hk
   ·exact S.dj _ _ _ hj hk
 ·skip
  split at ha
  ·cases ha
  ·exact S.fr _ _ ha
end
inductive Kd where
 | own (s:List Nat)
 | old
 | mix
def Y6 (K:W.Frag) (Z:Addr->Prop) (ν:Nat->List Addr) (H H':Hp):Kd->V->D->Prop
 | .own s,v,d=>∃ ms,Ow K H' v d ms/\ms.Nodup/\∀ a∈ms,H a=none\/∃ j∈s,a∈ν j
 | .old,v,d=>Dn K (S4 (Hd Z ν) H') v d
 | .mix,v,d=>Dn K H' v d
section
variable {K:W.Frag} {Z:Addr->Prop} {H H1 H':Hp} {ν:Nat->List Addr} {v:V} {d:D} {k:Kd}
theorem Y6.den (h:Y6 K Z ν H H' k v d):Dn K H' v d:=by
 cases k with
 | own s=>obtain ⟨ms,h,_⟩:=h;exact h.den
 | old=>exact Dn.same L3 h
 | mix=>exact h
theorem Y6.same (h:Y6 K Z ν H H1 k v d) (e:A8 H1 H'):Y6 K Z ν H H' k v d:=by
 cases k with
 | own s=>obtain ⟨ms,h,r⟩:=h;exact ⟨ms,h.same e,r⟩
 | old=>exact Dn.same (A0p e) h
 | mix=>exact Dn.same e h
theorem Y6.later (h:Y6 K Z ν H1 H' k v d) (e:A8 H H1):Y6 K Z ν H H' k v d:=by
 cases k with
 | own s =>
  obtain ⟨ms,h,r,f⟩:=h;exact ⟨ms,h,r,λa ha=>by rcases f a ha with z|z;exact .inl (e.gone z);exact .inr z⟩
 | old=>exact h
 | mix=>exact h
theorem Y6.flat (h:Dn K H' v d) (hf:DL.flat d=true) (hl:∀ a,Hd Z ν a->Mu H' a) (k:Kd):Y6 K Z ν H H' k v d:=by
 cases k with
 | own s=>exact ⟨[],B6g h hf,nodup_nil,λ_ z=>by cases z⟩
 | old=>exact B0g hl h hf
 | mix=>exact h
end
abbrev QD:=D->Kd->Prop
abbrev XD:=Addr->Prop
abbrev TD:=G2->QD->XD->Prop
abbrev TDT:=G2->(Bool->Prop)->XD->Prop
abbrev TDA:=G2->(List D->Kd->Prop)->XD->Prop
def RsL (K:W.Frag) (Z:Addr->Prop) (ν:Nat->List Addr) (H H':Hp):Kd->List V->List D->Prop
 | .own s,v,d=>∃ ms,Ows K H' v d ms/\ms.Nodup/\∀ a∈ms,H a=none\/∃ j∈s,a∈ν j
 | .old,v,d=>Dns K (S4 (Hd Z ν) H') v d
 | .mix,v,d=>Dns K H' v d
def LE (K:W.Frag) (E:XK) (t:TD):TE:=λU H Q=>∃ H0 ν O Qd Xd,D2 K Z0 H0 ν O U H/\t O Qd Xd/\(∀ d k v H',Qd d k->A8 H H'->Y6 K Z0 ν H H' k v d->Q v H')/\∀ C H',Xd C->A8 H0 H'->E (.ref C) none H'
def LT (K:W.Frag) (E:XK) (t:TDT):TT:=λU H Q=>∃ H0 ν O Qd Xd,D2 K Z0 H0 ν O U H/\t O Qd Xd/\(∀ b H',Qd b->A8 H H'->Q b H')/\∀ C H',Xd C->A8 H0 H'->E (.ref C) none H'
def LA (K:W.Frag) (E:XK) (t:TDA):TA:=λU H Q=>∃ H0 ν O Qd Xd,D2 K Z0 H0 ν O U H/\t O Qd Xd/\(∀ ds k vs H',Qd ds k->A8 H H'->RsL K Z0 ν H H' k vs ds->Q vs H')/\∀ C H',Xd C->A8 H0 H'->E (.ref C) none H'
structure DE (X:Cx) (K:W.Frag) (E:XK) (e:Expr) (t:TD):Prop where
 q:QE X e (LE K E t)
structure DT (X:Cx) (K:W.Frag) (E:XK) (e:Expr) (t:TDT):Prop where
 q:QT X e (LT K E t)
structure DW (X:Cx) (K:W.Frag) (E:XK) (e:Expr) (t:TDT):Prop where
 q:QW X e (LT K E t)
structure DA (X:Cx) (K:W.Frag) (E:XK) (e:List Expr) (t:TDA):Prop where
 q:QA X e (LA K E t)
theorem L6 {e:Expr} {t t':TE} (h:QE X e t) (i:∀ U H Q,t' U H Q->t U H Q):QE X e t':=⟨λpins s U H Q I w=>h.h pins s U H Q I (i U H Q w)⟩
theorem B17 {e:Expr} {t t':TT} (h:QT X e t) (i:∀ U H Q,t' U H Q->t U H Q):QT X e t':=⟨λpins s U H Q I w=>h.h pins s U H Q I (i U H Q w)⟩
theorem C1c {e:Expr} {t t':TT} (h:QW X e t) (i:∀ U H Q,t' U H Q->t U H Q):QW X e t':=⟨λwh pins s U H Q I w=>h.h wh pins s U H Q I (i U H Q w)⟩
theorem B5f {e:List Expr} {t t':TA} (h:QA X e t) (i:∀ U H Q,t' U H Q->t U H Q):QA X e t':=⟨λpos pins s U H Q I w=>h.h pos pins s U H Q I (i U H Q w)⟩
theorem N9 {e:Stmt} {t t':TS} (h:QS X e t) (i:∀ D U H,t' D U H->t D U H):QS X e t':=⟨λpins s U H D I w=>h.h pins s U H D I (i D U H w)⟩
theorem B6y {e:List Stmt} {t t':TS} (h:QSs X e t) (i:∀ D U H,t' D U H->t D U H):QSs X e t':=⟨λpins s U H D I w=>h.h pins s U H D I (i D U H w)⟩
variable {ta tb te:TD} {tif:TDT} {O':G2}
section
variable {X:Cx} {K:W.Frag} {E:XK} {pos:Pos}
def A23 (i:Nat):TD:=λO Q _=>∃ b d,O[i]?=some (some (b,d))/\Q d (if b=true then .own [i] else .old)
theorem B2 (i:Nat) {x:Str} (hN:X.N[i]?=some x:=by rfl) (hv:Vis X.env.scope x:=by first|exact Or.inl rfl|exact Or.inr (Or.inl rfl)|exact Or.inr (Or.inr rfl)) (hd:noD x:=by decide)
  (hcd:(x==("__classdict__":Str))=false:=by decide):DE X K E (.Name x pos) (A23 i):=⟨L6 (D1 i hN hv hd hcd) λU H Q h=>by
 obtain ⟨H0,ν,O,Qd,Xd,S,⟨b,d,h1,h2⟩,q,_⟩:=h;obtain ⟨v,g1,g2⟩:=S.sl i b d h1;refine ⟨v,g1,q d _ v H h2 (A8.refl H) ?_⟩;cases b with
 | true=>exact ⟨ν i,g2,S.nd i,λa ha=>.inr ⟨i,by simp,ha⟩⟩
 | false=>exact g2⟩
def dC (d:D):TD:=λ_ Q _=>Q d .old
theorem C11 {e:Expr} {v:V} {d:D} (h:QE X e (tC v)) (hd:∀ H,Dn K H v d):DE X K E e (dC d):=⟨L6 h λU H Q h=>by
 obtain ⟨H0,ν,O,Qd,Xd,S,h1,q,_⟩:=h;exact q d _ v H h1 (A8.refl H) (hd _)⟩
theorem A1 {i:Int} {j}:DE X K E (.Constant (.int i) j pos) (dC (.int i)):=C11 N2 λ_=>.int _
theorem A3b {i:Bool} {j}:DE X K E (.Constant (.bool i) j pos) (dC (.bool i)):=C11 C0m λ_=>.bl _
theorem A2g {x:Str} {j}:DE X K E (.Constant (.str x) j pos) (dC (.str x)):=C11 C65 λ_=>.str _
abbrev F2:=D->Kd->D->Kd->QD->Prop
def A33 (K:W.Frag) (r:R2) (f:F2):Prop:=∀ (Z:Addr->Prop) (ν:Nat->List Addr) (Hs H:Hp) (x y:V) (d:D) (k:Kd) (e:D) (l:Kd) (Qf:QD) (Q:VK),(∀ a,Hd Z ν a->Mu H a)->(∀ a,Hd Z ν a->Mu Hs a)->A8 Hs H->Y6 K Z ν Hs H k x d->Y6 K Z ν Hs H l y e ->
 f d k e l Qf->(∀ d k v H',Qf d k->A8 H H'->Y6 K Z ν Hs H' k v d->Q v H')->r x y H Q
structure DOp (X:Cx) (K:W.Frag) (f:Value->Value->Sem Value) (g:F2):Prop where
 ex:∃ r,OpR X f r/\A33 K r g
structure DIx (X:Cx) (K:W.Frag) (g:F2):Prop where
 ex:∃ r,IxR X r/\A33 K r g
def dOp (f:F2) (ta tb:TD):TD:=λO Q Xd=>ta O (λd k=>tb O (λe l=>f d k e l Q) Xd) Xd
theorem B21 {r:R2} {f:F2} (p:A33 K r f):∀ U H Q,LE K E (dOp f ta tb) U H Q->tOp r (LE K E ta) (LE K E tb) U H Q:=λU H Q h=>by
 sleep 0;refine ⟨H0,ν,O,_,Xd,S,h1,λd k v H1 hd e1 r1=>?_,x⟩;refine ⟨H0,ν,O,_,Xd,S.same e1,hd,λd2 k2 v2 H2 hd2 e2 r2=>?_,x⟩;refine p Z0 ν H H2 v v2 d k d2 k2 Qd Q (S.same (e1.trans e2)).hl S.hl (e1.trans e2) (r1.same e2) (r2.later e1) hd2 λd3 k3 v3 H3 g1 g2 g3=>q d3 k3 v3 H3 g1 ((e1.trans e2).trans g2) g3
theorem A9 {op:Operator} {f:F2} {a b:Expr} (ho:DOp X K (binaryOp op) f) (ha:DE X K E a ta) (hb:DE X K E b tb):DE X K E (.BinOp a op b pos) (dOp f ta tb):=by
 obtain ⟨r,o,p⟩:=ho.ex;exact ⟨L6 (P8 o ha.q hb.q) (B21 p)⟩
theorem U1 {op:CmpOp} {f:F2} {a b:Expr} (ho:DOp X K (compareOp op) f) (ha:DE X K E a ta) (hb:DE X K E b tb) (hm:behindInMarks op b=false):DE X K E (.Compare a [op] [b] pos) (dOp f ta tb):=by
 obtain ⟨r,o,p⟩:=ho.ex;exact ⟨L6 (C1k o ha.q hb.q hm) (B21 p)⟩
theorem E2 {f:F2} {a b:Expr} (ho:DIx X K f) (ha:DE X K E a ta) (hb:DE X K E b tb) (hs:A4o b):DE X K E (.Subscript a b pos) (dOp f ta tb):=by
 obtain ⟨r,o,p⟩:=ho.ex;exact ⟨L6 (G7 o ha.q hb.q hs) (B21 p)⟩
theorem DOp.or {h:Value->Value->Sem Value} {f g:F2} (a:DOp X K h f) (b:DOp X K h g):DOp X K h (λd k e l Q=>f d k e l Q\/g d k e l Q):=by
 obtain ⟨r,o,p⟩:=a.ex;obtain ⟨r',o',p'⟩:=b.ex;refine ⟨_,o.or o',λZ ν Hs H x y d k e l Qf Q h1 h0 h2 h3 h4 h5 h6=>?_⟩;rcases h5 with h5|h5
 ·exact .inl (p Z ν Hs H x y d k e l Qf Q h1 h0 h2 h3 h4 h5 h6)
 ·exact .inr (p' Z ν Hs H x y d k e l Qf Q h1 h0 h2 h3 h4 h5 h6)
theorem DOp.mono {h:Value->Value->Sem Value} {f g:F2} (a:DOp X K h f) (i:∀ d k e l Q,g d k e l Q->f d k e l Q):DOp X K h g:=by
 obtain ⟨r,o,p⟩:=a.ex;exact ⟨r,o,λZ ν Hs H x y d k e l Qf Q h1 h0 h2 h3 h4 h5 h6=>p Z ν Hs H x y d k e l Qf Q h1 h0 h2 h3 h4 (i _ _ _ _ _ h5) h6⟩
def fI (C:Int->Int->Prop) (g:Int->Int->D):F2:=λd _ e _ Q=>match d,e with
 | .int i,.int j=>C i j/\Q (g i j) .old
 | _,_=>False
theorem Y5 {g:Int->Int->Int}:A33 K (rI C λi j=>.int (g i j)) (fI C λi j=>.int (g i j)):=λZ ν Hs H x y d k e l Qf Q _ _ _ h3 h4 h5 h6=>by
 unfold fI at h5;split at h5
 ·have a:=h3.den;have b:=h4.den;cases a;cases b;exact ⟨_,_,rfl,rfl,h5.1,h6 _ _ _ _ h5.2 (A8.refl H) (.int _)⟩
 ·exact h5.elim
def T2 (_ _:Int):Prop:=True
theorem A9d {g:Int->Int->Int}:A33 K (rI0 λi j=>.int (g i j)) (fI T2 λi j=>.int (g i j)):=λZ ν Hs H x y d k e l Qf Q _ _ _ h3 h4 h5 h6=>by
 unfold fI at h5;split at h5
 ·have a:=h3.den;have b:=h4.den;cases a;cases b;exact ⟨_,_,rfl,rfl,h6 _ _ _ _ h5.2 (A8.refl H) (.int _)⟩
 ·exact h5.elim
theorem A3p {g:Int->Int->Bool}:A33 K (rI0 λi j=>.bl (g i j)) (fI T2 λi j=>.bool (g i j)):=λZ ν Hs H x y d k e l Qf Q _ _ _ h3 h4 h5 h6=>by
 unfold fI at h5;split at h5
 ·have a:=h3.den;have b:=h4.den;cases a;cases b;exact ⟨_,_,rfl,rfl,h6 _ _ _ _ h5.2 (A8.refl H) (.bl _)⟩
 ·exact h5.elim
theorem J2:DOp X K (binaryOp .Sub) (fI T2 λi j=>.int (i - j)):=⟨_,D4h,A9d⟩
theorem N8:DOp X K (binaryOp .Mult) (fI IntMulOk λi j=>.int (i*j)):=⟨_,A6h,Y5⟩
theorem Y1:DOp X K (binaryOp .FloorDiv) (fI D2a λi j=>.int (i / j)):=⟨_,C7z,Y5⟩
theorem J4:DOp X K (binaryOp .Mod) (fI (λ_ j=>0 < j) λi j=>.int (i % j)):=⟨_,D4c,Y5⟩
theorem C0t:DOp X K (binaryOp .Mod) (fI (λ_ j=>j≠0) λi j=>.int (i.fmod j)):=⟨_,B72,Y5⟩
theorem A47:DOp X K (binaryOp .Pow) (fI D4k λi j=>.int (i ^ j.toNat)):=⟨_,D1h,Y5⟩
theorem A58:DOp X K (compareOp .Lt) (fI T2 λi j=>.bool (decide (i < j))):=⟨_,B7a,A3p⟩
theorem A53:DOp X K (compareOp .Gt) (fI T2 λi j=>.bool (decide (j < i))):=⟨_,C2b,A3p⟩
theorem D40:DOp X K (compareOp .GtE) (fI T2 λi j=>.bool (decide (j<=i))):=⟨_,D81,A3p⟩
def fEq (f:Bool->Bool):F2:=λd _ e _ Q=>d.canLay0=true/\e.canLay0=true/\d.depth<=32/\Q (.bool (f (PyData.eqv d e))) .old
theorem B7k {f:Bool->Bool}:A33 K (B9r K f) (fEq f):=λZ ν Hs H x y d k e l Qf Q _ _ _ h3 h4 h5 h6 =>
 ⟨d,e,h3.den.deep h5.1,h4.den.deep h5.2.1,h5.1,h5.2.1,h5.2.2.1,h6 _ _ _ _ h5.2.2.2 (A8.refl H) (.bl _)⟩
theorem J7 (hK:X.K=K) (hu:X.A.units+64 < cLine):DOp X K (compareOp .Eq) (fEq id):=⟨_,D3l K hK hu,B7k⟩
theorem P6 (hK:X.K=K) (hu:X.A.units+64 < cLine):DOp X K (compareOp .NotEq) (fEq not):=⟨_,D0g K hK hu,B7k⟩
end
def Kd.isOld:Kd->Bool
 | .old=>true
 | .own []=>true
 | _=>false
def A2u (ds:List D) (k:Kd):Kd:=if flats ds=true then .own [] else if k.isOld=true then .old else .mix
def A7t (ds:List D) (k:Kd) (es:List D) (l:Kd):Kd:=if (flats ds&&flats es)=true then .own [] else if (k.isOld&&l.isOld)=true then .old else .mix
def Kd.sub:Kd->Kd
 | .own []=>.own []
 | .old=>.old
 | _=>.mix
section
variable {K:W.Frag} {Z:Addr->Prop} {Hs H:Hp} {ν:Nat->List Addr} {v:V} {d:D} {k l:Kd} {us vs:List V} {ds es:List D} {a p:Addr}
theorem Y6.old (hl:∀ a,Hd Z ν a->Mu H a) (hn:∀ a,Hd Z ν a->Mu Hs a) (h:Y6 K Z ν Hs H k v d) (hk:k.isOld=true):Dn K (S4 (Hd Z ν) H) v d:=by
 cases k with
 | own s =>
  cases s with
  | nil =>
   obtain ⟨ms,h1,_,h3⟩:=h;refine B0y hl h1 λa ha z=>?_;rcases h3 a ha with q|⟨j,q,_⟩
   ·obtain ⟨us,z⟩:=hn a z;rw[q] at z;cases z
   ·cases q
  | cons=>cases hk
 | old=>exact h
 | mix=>cases hk
theorem RsL.dens (h:RsL K Z ν Hs H k vs ds):Dns K H vs ds:=by
 cases k with
 | own s=>obtain ⟨ms,h,_⟩:=h;exact h.den
 | old=>exact Dns.same L3 h
 | mix=>exact h
theorem A1q (hl:∀ a,Hd Z ν a->Mu H a) (hs:A8 Hs H) (hp:H p=none) (h:RsL K Z ν Hs H k vs ds):Y6 K Z ν Hs (E5 H p (.lst vs)) k (.ref p) (.list ds):=by
 have sm:A8 H (E5 H p (.lst vs)):=A8.new hp;cases k with
 | own s =>
  sleep 23;refine ⟨p::ms,.lst B7 (h1.same sm),nodup_cons.mpr ⟨λhm=>?_,h2⟩,λa ha=>?_⟩
  ·obtain ⟨us,q⟩:=h1.there p hm;rw[hp] at q;cases q
  ·rcases zn.mp ha with rfl|ha
   ·exact .inl (hs.gone hp)
   ·exact h3 a ha
 | old =>
  have hz:¬ Hd Z ν p:=λz=>by obtain ⟨us,q⟩:=hl p z;rw[hp] at q;cases q
  exact .lst (L8 B7 hz) (Dns.same (A0p sm) h)
 | mix=>exact .lst B7 (Dns.same sm h)
theorem C42 (hl:∀ a,Hd Z ν a->Mu H a) (hs:A8 Hs H) (hp:H p=none) (h:RsL K Z ν Hs H k vs ds):Y6 K Z ν Hs (E5 H p (.tup vs)) k (.ref p) (.tuple ds):=by
 have sm:A8 H (E5 H p (.tup vs)):=A8.new hp;cases k with
 | own s =>
  sleep 23;exact ⟨ms,.tup (SqT.of B7) (h1.same sm),h2,h3⟩
 | old =>
  have hz:¬ Hd Z ν p:=λz=>by obtain ⟨us,q⟩:=hl p z;rw[hp] at q;cases q
  exact .tup (SqT.of (L8 B7 hz)) (Dns.same (A0p sm) h)
 | mix=>exact .tup (SqT.of B7) (Dns.same sm h)
theorem D9 {v:V} (h:Dn K H v (.list ds)):∃ a us,v=.ref a/\H a=some (.lst us)/\Dns K H us ds:=by
 cases h with
 | lst h r=>exact ⟨_,_,rfl,h,r⟩
theorem Q4 {v:V} (h:Dn K H v (.tuple ds)):∃ a us,v=.ref a/\SqT K H a us/\Dns K H us ds:=by
 cases h with
 | tup h r=>exact ⟨_,_,rfl,h,r⟩
theorem A1r (hl:∀ a,Hd Z ν a->Mu H a) (hn:∀ a,Hd Z ν a->Mu Hs a) (h:Y6 K Z ν Hs H k v (.list ds)):∃ a us,v=.ref a/\H a=some (.lst us)/\Dns K H us ds/\RsL K Z ν Hs H (A2u ds k) us ds:=by
 obtain ⟨a,us,rfl,h1,h2⟩:=D9 h.den;refine ⟨a,us,rfl,h1,h2,?_⟩;unfold A2u;split
 ·exact ⟨[],A1p h2 ‹_›,nodup_nil,λ_ z=>by cases z⟩
 ·split
  ·have q:=h.old hl hn ‹_›;obtain ⟨a',us',e,q1,q2⟩:=D9 q;cases e;have:=(P5 q1).1;rw[h1] at this;cases this;exact q2
  ·exact h2
theorem C77 {Z:Addr->Prop} (hl:∀ a,Z a->Mu H a) (h:Dns K H us ds) (hf:flats ds=true):Dns K (S4 Z H) us ds :=
 C04 (λa o e n=>L8 e λz=>(hl a z).no e n) h hf
theorem A9h:flats ds=true->flats es=true->flats (ds++es)=true:=by
 intro h1 h2
 induction ds with
 | nil=>exact h2
 | cons x r ih =>
  simp only[flats,zb] at h1;show (flat x&&flats (r++es))=true;rw[h1.1,ih h1.2];rfl
theorem B0a (hl:∀ a,Hd Z ν a->Mu H a) (hk:k.isOld=true) (h:RsL K Z ν Hs H (A2u ds k) us ds):Dns K (S4 (Hd Z ν) H) us ds:=by
 have A:=h.dens;unfold A2u at h;split at h
 ·exact C77 hl A ‹_›
 ·exact h
theorem C61 (hl:∀ a,Hd Z ν a->Mu H a) (h:RsL K Z ν Hs H (A2u ds k) us ds) (g:RsL K Z ν Hs H (A2u es l) vs es):RsL K Z ν Hs H (A7t ds k es l) (us++vs) (ds++es):=by
 have A:=h.dens;have B:=g.dens;unfold A7t;split
 case isTrue e =>
  rw[zb] at e;exact ⟨[],A1p (A.append B) (A9h e.1 e.2),nodup_nil,λ_ z=>by cases z⟩
 case isFalse e =>
  split
  case isFalse=>exact A.append B
  case isTrue q =>
   rw[zb] at q;exact (B0a hl q.1 h).append (B0a hl q.2 g)
theorem C3y (hl:∀ a,Hd Z ν a->Mu H a) (h:RsL K Z ν Hs H (A2u ds k) us ds) {us':List V} {ds':List D} (p:∀ {G:Hp},Dns K G us ds->Dns K G us' ds') (hf:flats ds=true->flats ds'=true):RsL K Z ν Hs H (A2u ds' k) us' ds':=by
 have A:=p h.dens;unfold A2u;split
 ·exact ⟨[],A1p A ‹_›,nodup_nil,λ_ z=>by cases z⟩
 ·split
  ·exact p (B0a hl ‹_› h)
  ·exact A
end
section
variable {X:Cx} {K:W.Frag} {E:XK} {pos:Pos}
def D5q:F2:=λd k e l Q=>match d,e with
 | .list ds,.list es=>ds.length+es.length<=1000000/\Q (.list (ds++es)) (A7t ds k es l)
 | _,_=>False
theorem A2a:(1000000:Nat)<=sizeLine:=by decide
theorem C0p:A33 K D2p D5q:=λZ ν Hs H x y d k e l Qf Q hl hn hs h3 h4 h5 h6=>by
 unfold D5q at h5;split at h5
 ·obtain ⟨a,us,rfl,a1,a2,a3⟩:=A1r hl hn h3;obtain ⟨b,vs,rfl,b1,b2,b3⟩:=A1r hl hn h4;refine ⟨a,b,us,vs,rfl,rfl,a1,b1,?_,λp hp=>?_⟩
  ·rw[a2.length,b2.length];exact zq h5.1 A2a
  ·exact h6 _ _ _ _ h5.2 (A8.new hp) (A1q hl hs hp (C61 hl a3 b3))
 ·exact h5.elim
def D5p:F2:=λd _ e _ Q=>match d,e with
 | .str x,.str y=>x.length+y.length<=1000000/\Q (.str (x++y)) .old
 | _,_=>False
theorem C3j:DOp X K (binaryOp .Add) D5p:=⟨_,B44,λZ ν Hs H x y d k e l Qf Q _ _ _ h3 h4 h5 h6=>by
 unfold D5p at h5;split at h5
 ·have a:=h3.den;have b:=h4.den;cases a;cases b;exact ⟨_,_,rfl,rfl,zq h5.1 A2a,h6 _ _ _ _ h5.2 (A8.refl H) (.str _)⟩
 ·exact h5.elim⟩
def C3g:F2:=λd k e l Q=>match d,e with
 | .int i,.int j=>Q (.int (i+j)) .old
 | .list ds,.list es=>ds.length+es.length<=1000000/\Q (.list (ds++es)) (A7t ds k es l)
 | .str x,.str y=>x.length+y.length<=1000000/\Q (.str (x++y)) .old
 | _,_=>False
theorem M3:DOp X K (binaryOp .Add) C3g:=DOp.mono (DOp.or ⟨_,B1n,A9d⟩ (DOp.or ⟨_,B5e,C0p⟩ C3j)) λd k e l Q h=>by
 unfold C3g at h;split at h
 ·exact .inl ⟨trivial,h⟩
 ·exact .inr (.inl h)
 ·exact .inr (.inr h)
 ·exact h.elim
def fIx:F2:=λd k e _ Q=>match d,e with
 | .list ds,.int i=>∃ x,atI ds i=some x/\Q x k.sub
 | .tuple ds,.int i=>∃ x,atI ds i=some x/\Q x k.sub
 | .str z,.int i=>z.length<=1000000/\∃ c,atI z.cps.toList i=some c/\Q (.str ⟨#[c]⟩) .old
 | .dict [(.none,.list ds)],.int i=>∃ x,atI ds i=some x/\Q x .old
 | _,_=>False
theorem B6b:∀ {us:List V} {ds:List D} {ns:List Addr} {j:Nat} {x:D},Ows K H us ds ns->ds[j]?=some x->∃ u ms,us[j]?=some u/\Ow K H u x ms/\(∀ a∈ms,a∈ns)/\(ns.Nodup->ms.Nodup)
 | _,_,_,0,x,.cons h r,e=>by simp at e;subst e;exact ⟨_,_,rfl,h,λa ha=>za _ ha,λn=>(nodup_append.mp n).1⟩
 | _,_,_,j+1,x,.cons h r,e=>by
  simp at e;obtain ⟨u,ms,h1,h2,h3,h4⟩:=B6b r e;exact ⟨u,ms,by simpa using h1,h2,λa ha=>qz _ (h3 a ha),λn=>h4 (nodup_append.mp n).2.1⟩
theorem B16 {α:Type} {xs:List α} {i:Int} {x:α} (h:atI xs i=some x):∃ j,ixN xs.length i=some j/\xs[j]?=some x:=by
 unfold atI at h;cases e:ixN xs.length i with
 | none=>rw[e] at h;cases h
 | some j=>rw[e] at h;exact ⟨j,rfl,h⟩
theorem A8a {α:Type} {xs:List α} {i:Int} {j:Nat} {x:α} (h:ixN xs.length i=some j) (g:xs[j]?=some x):atI xs i=some x:=by
 unfold atI;rw[h];exact g
variable {us:List V} {k:Kd} {v:V} {e:Expr}
theorem A9j {ds:List D} {ms:List Addr} (h:Ows K H us ds ms) (nd:ms.Nodup) (fr:∀ a∈ms,Hs a=none\/∃ j∈([]:List Nat),a∈ν j):∀ (j:Nat) x,ds[j]?=some x->∃ u,us[j]?=some u/\Y6 K Z ν Hs H (.own []) u x:=λj x e=>by
 obtain ⟨u,ns,r1,r2,r3,r4⟩:=B6b h e;exact ⟨u,r1,ns,r2,r4 nd,λa ha=>fr a (r3 a ha)⟩
theorem A26 {ds:List D} (h:Dns K H us ds):∀ (j:Nat) x,ds[j]?=some x->∃ u,us[j]?=some u/\Dn K H u x:=λj x e=>h.get e
theorem B4l {ds:List D} (h:Y6 K Z ν Hs H k v (.tuple ds)):∃ a us,v=.ref a/\SqT K H a us/\us.length=ds.length/\Dns K H us ds/\∀ (j:Nat) x,ds[j]?=some x->∃ u,us[j]?=some u/\Y6 K Z ν Hs H k.sub u x:=by
 unfold Kd.sub;split
 ·sleep 23;cases h1 with
  | tup q1 q2=>exact ⟨_,_,rfl,q1,q2.den.length,q2.den,A9j q2 h2 h3⟩
 ·obtain ⟨a,us,rfl,q1,q2⟩:=Q4 (show Dn K _ _ _ from h);exact ⟨a,us,rfl,A8.tup L3 q1,q2.length,Dns.same L3 q2,A26 q2⟩
 ·obtain ⟨a,us,rfl,q1,q2⟩:=Q4 h.den;exact ⟨a,us,rfl,q1,q2.length,q2,A26 q2⟩
theorem B5z {ds:List D} (h:Y6 K Z ν Hs H k v (.list ds)):∃ a us,v=.ref a/\H a=some (.lst us)/\us.length=ds.length/\Dns K H us ds/\∀ (j:Nat) x,ds[j]?=some x->∃ u,us[j]?=some u/\Y6 K Z ν Hs H k.sub u x:=by
 unfold Kd.sub;split
 ·sleep 23;cases h1 with
  | lst q1 q2=>exact ⟨_,_,rfl,q1,q2.den.length,q2.den,A9j q2 (nodup_cons.mp h2).2 λa ha=>h3 a (qy _ ha)⟩
 ·obtain ⟨a,us,rfl,q1,q2⟩:=D9 (show Dn K _ _ _ from h);exact ⟨a,us,rfl,(P5 q1).1,q2.length,Dns.same L3 q2,A26 q2⟩
 ·obtain ⟨a,us,rfl,q1,q2⟩:=D9 h.den;exact ⟨a,us,rfl,q1,q2.length,q2,A26 q2⟩
theorem dix (hK:X.K=K):DIx X K fIx:=by
 subst hK;refine ⟨_,D4n,λZ ν Hs H x y d k e l Qf Q hl hn hs h3 h4 h5 h6=>?_⟩;unfold fIx at h5;split at h5
 ·obtain ⟨z,e1,q⟩:=h5;obtain ⟨j,e2,e3⟩:=B16 e1;obtain ⟨a,us,rfl,g1,g2,_,g3⟩:=B5z h3;obtain ⟨u,g4,g5⟩:=g3 j z e3;have:=h4.den;cases this;exact .inl ⟨a,us,_,u,rfl,rfl,E6.of g1,A8a (by rw[g2];exact e2) g4,h6 _ _ _ _ q (A8.refl H) g5⟩
 ·obtain ⟨z,e1,q⟩:=h5;obtain ⟨j,e2,e3⟩:=B16 e1;obtain ⟨a,us,rfl,g1,g2,_,g3⟩:=B4l h3;obtain ⟨u,g4,g5⟩:=g3 j z e3;have:=h4.den;cases this;exact .inr (.inl ⟨a,us,_,u,rfl,rfl,g1,A8a (by rw[g2];exact e2) g4,h6 _ _ _ _ q (A8.refl H) g5⟩)
 ·have a:=h3.den;have b:=h4.den;cases a;cases b;obtain ⟨h0,c,e1,q⟩:=h5;exact .inr (.inr ⟨_,_,c,rfl,rfl,zq h0 A2a,e1,h6 _ _ _ _ q (A8.refl H) (.str _)⟩)
 ·obtain ⟨z,e1,q⟩:=h5;obtain ⟨j,e2,e3⟩:=B16 e1;have b:=h4.den;cases b;have a:=h3.den;cases a with
  | scr ns h =>
   rw[qp] at e3;cases en:ns[j]? with
   | none=>rw[en] at e3;cases e3
   | some n =>
    rw[en] at e3;cases e3;exact .inl ⟨_,_,_,V.int n,rfl,rfl,h,A8a (by rw[qk];rw[qk] at e2;exact e2) (by rw[qp,en];rfl),h6 _ _ _ _ q (A8.refl H) (.int _)⟩
 ·exact h5.elim
def B47 (xs:List D) (lo hi:Option Int):List D:=(xs.drop (HT.sIx xs.length 0 lo)).take (HT.sIx xs.length xs.length hi - HT.sIx xs.length 0 lo)
theorem Dns.take:∀ {us:List V} {ds:List D} (n:Nat),Dns K H us ds->Dns K H (us.take n) (ds.take n)
 | _,_,0,_=>by rw[List.take_zero,List.take_zero];exact .nil
 | _,_,n+1,.nil=>.nil
 | _,_,n+1,.cons h r=>.cons h (Dns.take n r)
theorem Dns.drop:∀ {us:List V} {ds:List D} (n:Nat),Dns K H us ds->Dns K H (us.drop n) (ds.drop n)
 | _,_,0,h=>h
 | _,_,n+1,.nil=>.nil
 | _,_,n+1,.cons h r=>Dns.drop n r
theorem A2o:∀ {ds:List D},flats ds=true ↔ ∀ d∈ds,flat d=true
 | []=>by simp[flats]
 | d::r=>by simp[flats,A2o (ds:=r)]
def TDO:=G2->(Option Int->Prop)->XD->Prop
def LO (K:W.Frag) (E:XK) (t:TDO):TO:=λU H Q=>∃ H0 ν O Qd Xd,D2 K Z0 H0 ν O U H/\t O Qd Xd/\(∀ b H',Qd b->A8 H H'->Q b H')/\∀ C H',Xd C->A8 H0 H'->E (.ref C) none H'
structure DO (X:Cx) (K:W.Frag) (E:XK) (e:Option Expr) (t:TDO):Prop where
 q:QO X e (LO K E t)
def B6i:TDO:=λ_ Q _=>Q none
def C9k (t:TD):TDO:=λO Q Xd=>t O (λd _=>match d with|.int i=>Q (some i)|_=>False) Xd
theorem A44:DO X K E none B6i:=⟨⟨λpins s U H Q I h=>A1o.h pins s U H Q I (by
 obtain ⟨H0,ν,O,Qd,Xd,S,h1,q,_⟩:=h;exact q _ _ h1 (A8.refl H))⟩⟩
theorem A43 {t:TD} (he:DE X K E e t):DO X K E (some e) (C9k t):=⟨⟨λpins s U H Q I h=>(A22 he.q).h pins s U H Q I (by
 sleep 0;sleep 4;have:=g3.den;cases d with
 | int i=>cases this;exact ⟨i,rfl,q _ _ g1 g2⟩
 | _=>exact g1.elim)⟩⟩
abbrev F3:=D->Kd->Option Int->Option Int->QD->Prop
def fSl:F3:=λd k lo hi Q=>match d with
 | .list ds=>Q (.list (B47 ds lo hi)) (A2u (B47 ds lo hi) k)
 | _=>False
def dSl (f:F3) (te:TD) (tl th:TDO):TD:=λO Q Xd=>te O (λd k=>tl O (λl=>th O (λh=>f d k l h Q) Xd) Xd) Xd
theorem A2j {lo hi:Option Expr} {tl th:TDO} (hK:X.K=K) (he:DE X K E e te) (hl:DO X K E lo tl) (hu:DO X K E hi th):DE X K E (.Subscript e (.Slice lo hi none p2) pos) (dSl fSl te tl th):=⟨by
 subst hK;refine L6 (A0r B66 he.q hl.q hu.q) λU H Q h=>?_;obtain ⟨H0,ν,O,Qd,Xd,S,h1,q,x⟩:=h;refine ⟨H0,ν,O,_,Xd,S,h1,λd k v H1 g1 e1 r1=>?_,x⟩;refine ⟨H0,ν,O,_,Xd,S.same e1,g1,λl H2 g2 e2=>?_,x⟩;refine ⟨H0,ν,O,_,Xd,S.same (e1.trans e2),g2,λu H3 g3 e3=>?_,x⟩;have e03:=(e1.trans e2).trans e3;have r3:=(r1.same e2).same e3;have hl3:=(S.same e03).hl;cases d with
 | list ds =>
  obtain ⟨a,us,rfl,a1,a2,a3⟩:=A1r hl3 S.hl r3;refine ⟨a,us,rfl,E6.of a1,λp hp=>q _ _ _ _ g3 (e03.trans (A8.new hp)) (A1q hl3 e03 hp ?_)⟩;refine C3y hl3 a3 (λ{G} hd=>?_) λhf=>A2o.mpr λd hd=>A2o.mp hf d (mem_of_mem_drop (List.mem_of_mem_take hd));unfold A6u B47;rw[hd.length];exact (hd.drop _).take _
 | _=>exact g3.elim⟩
def C5o (s t:List Nat):Bool:=s.all λi=>!t.contains i
def Y8 (d:D) (k:Kd) (l:Kd):Kd:=match (if flat d=true then Kd.own [] else k),l with
 | .own s,.own t=>if C5o s t=true then .own (s++t) else .mix
 | .own [],.old=>.old
 | .old,.own []=>.old
 | .old,.old=>.old
 | _,_=>.mix
def D6o:TDA:=λ_ Q _=>Q [] (.own [])
def C9b (ta:TD) (tr:TDA):TDA:=λO Q Xd=>ta O (λd k=>tr O (λds l=>Q (d::ds) (Y8 d k l)) Xd) Xd
theorem RsL.old0 {ds:List D} (hl:∀ a,Hd Z ν a->Mu H a) (hn:∀ a,Hd Z ν a->Mu Hs a) (h:RsL K Z ν Hs H k us ds) (hk:k.isOld=true):Dns K (S4 (Hd Z ν) H) us ds:=by
 cases k with
 | own s =>
  cases s with
  | nil =>
   obtain ⟨ms,h1,_,h3⟩:=h;refine C5k hl h1 λa ha z=>?_;rcases h3 a ha with q|⟨j,q,_⟩
   ·obtain ⟨us,z⟩:=hn a z;rw[q] at z;cases z
   ·cases q
  | cons=>cases hk
 | old=>exact h
 | mix=>cases hk
theorem C1n {l:Kd} {d:D} {ds:List D} (hn:∀ a,Hd Z ν a->Mu Hs a) (dj:∀ i j a,a∈ν i->a∈ν j->i=j) (e1:A8 Hs H1) (e2:A8 H1 H2) (h:Y6 K Z ν Hs H1 k v d) (g:RsL K Z ν H1 H2 l us ds) :
  RsL K Z ν Hs H2 (Y8 d k l) (v::us) (d::ds):=by
 have hl1:∀ a,Hd Z ν a->Mu H1 a:=λa z=>by obtain ⟨us,q⟩:=hn a z;exact ⟨us,e1 _ _ q⟩
 have hl2:∀ a,Hd Z ν a->Mu H2 a:=λa z=>by obtain ⟨us,q⟩:=hl1 a z;exact ⟨us,e2 _ _ q⟩
 have h':Y6 K Z ν Hs H1 (if flat d=true then Kd.own [] else k) v d:=by
  split
  ·exact Y6.flat h.den ‹_› hl1 _
  ·exact h
 have all:Dns K H2 (v::us) (d::ds):=.cons (Dn.same e2 h.den) g.dens;have old:∀ {k':Kd},Y6 K Z ν Hs H1 k' v d->k'.isOld=true->l.isOld=true->Dns K (S4 (Hd Z ν) H2) (v::us) (d::ds):=λ{k'} r1 q1 q2=>.cons ((r1.same e2).old hl2 hn q1) (g.old0 hl2 hl1 q2);unfold Y8;generalize (if flat d=true then Kd.own [] else k)=k' at h';split
 ·split
  case isTrue q =>
   obtain ⟨ms,a1,a2,a3⟩:=h';obtain ⟨ns,b1,b2,b3⟩:=g;rename_i s t;refine ⟨ms++ns,.cons (a1.same e2) b1,nodup_append.mpr ⟨a2,b2,λx hx y hy e=>?_⟩,λa ha=>?_⟩
   ·subst e;obtain ⟨us',z1⟩:=a1.there x hx;rcases b3 x hy with z|⟨j,hj,z⟩
    ·rw[z1] at z;cases z
    ·rcases a3 x hx with z'|⟨i,hi,z'⟩
     ·obtain ⟨us'',z''⟩:=hn x (.inr ⟨j,z⟩);rw[z'] at z'';cases z''
     ·have:=dj i j x z' z;subst this;unfold C5o at q;have:=all_eq_true.mp q i hi;simp at this;exact this hj
   ·rcases zm.mp ha with ha|ha
    ·rcases a3 a ha with z|⟨j,hj,z⟩
     ·exact .inl z
     ·exact .inr ⟨j,za _ hj,z⟩
    ·rcases b3 a ha with z|⟨j,hj,z⟩
     ·exact .inl (e1.gone z)
     ·exact .inr ⟨j,qz _ hj,z⟩
  case isFalse=>exact all
 ·exact old h' rfl rfl
 ·exact old h' rfl rfl
 ·exact old h' rfl rfl
 ·exact all
theorem A6:DA X K E [] D6o:=⟨B5f B5 λU H Q h=>by
 sleep 0;exact q _ _ _ _ h1 (A8.refl H) ⟨[],.nil,nodup_nil,λ_ z=>by cases z⟩⟩
theorem A0 {es:List Expr} {t:TDA} (ha:DE X K E e te) (hr:DA X K E es t) (hs:stE e es X.env:=by rfl):DA X K E (e::es) (C9b te t):=⟨B5f (A2 ha.q hr.q hs) λU H Q h=>by
 sleep 0;refine ⟨H0,ν,O,_,Xd,S,h1,λd k v H1 g1 e1 r1=>?_,x⟩;refine ⟨H0,ν,O,_,Xd,S.same e1,g1,λds l us H2 g2 e2 r2=>?_,x⟩;exact q _ _ _ _ g2 (e1.trans e2) (C1n S.hl S.dj e1 e2 r1 r2)⟩
def D8e (t:TDA):TD:=λO Q Xd=>t O (λds k=>ds.length<=1000/\Q (.tuple ds) k) Xd
def D5z (t:TDA):TD:=λO Q Xd=>t O (λds k=>ds.length<=1000/\Q (.list ds) k) Xd
theorem T4 {es:List Expr} {t:TDA} {x1} (h:DA X K E es t):DE X K E (.Tuple es x1 pos) (D8e t):=⟨L6 (B0q h.q) λU H Q h=>by
 sleep 0;refine ⟨H0,ν,O,_,Xd,S,h1,λds k us H1 g1 e1 r1=>?_,x⟩;refine ⟨by rw[r1.dens.length];exact zq g1.1 (by decide),λp hp=>q _ _ _ _ g1.2 (e1.trans (A8.new hp)) (C42 (S.same e1).hl e1 hp r1)⟩⟩
theorem Z7 {es:List Expr} {t:TDA} (h:DA X K E es t):DE X K E (.List es pos) (D5z t):=⟨L6 (B1i h.q) λU H Q h=>by
 sleep 0;refine ⟨H0,ν,O,_,Xd,S,h1,λds k us H1 g1 e1 r1=>?_,x⟩;refine ⟨by rw[r1.dens.length];exact zq g1.1 (by decide),λp hp=>q _ _ _ _ g1.2 (e1.trans (A8.new hp)) (A1q (S.same e1).hl e1 hp r1)⟩⟩
end
section
variable {X:Cx} {K:W.Frag} {E:XK} {pos:Pos} {a b c e:Expr} {G4:List Expr} {ta tb:TD} {tA tB:TDT}
theorem A3u {v:V} {x:Bool} (h:Dn K H v (.bool x)):v=.bl x:=by cases h;rfl
theorem N3 {v:V} {x:Int} (h:Dn K H v (.int x)):v=.int x:=by cases h;rfl
def D2w (ta:TD):TD:=λO Q Xd=>ta O (λd _=>match d with|.int i=>Q (.int (-i)) .old|_=>False) Xd
theorem T8 (ha:DE X K E a ta):DE X K E (.UnaryOp .USub a pos) (D2w ta):=⟨L6 (A7r A83 ha.q) λU H Q h=>by
 sleep 0;sleep 4;cases d with
 | int i=>exact ⟨i,N3 g3.den,q _ _ _ _ g1 g2 (.int _)⟩
 | _=>exact g1.elim⟩
def C95 (ta:TD):TD:=λO Q Xd=>ta O (λd _=>match d with|.bool i=>Q (.bool (!i)) .old|_=>False) Xd
theorem C74 (ha:DE X K E a ta):DE X K E (.UnaryOp .Not a pos) (C95 ta):=⟨L6 (C5r ha.q) λU H Q h=>by
 sleep 0;sleep 4;cases d with
 | bool i=>exact ⟨i,A3u g3.den,q _ _ _ _ g1 g2 (.bl _)⟩
 | _=>exact g1.elim⟩
def C9u (ta tb:TD):TD:=λO Q Xd=>ta O (λd _=>match d with|.bool i=>if i=true then tb O Q Xd else Q (.bool false) .old|_=>False) Xd
def D77 (ta tb:TD):TD:=λO Q Xd=>ta O (λd _=>match d with|.bool i=>if i=true then Q (.bool true) .old else tb O Q Xd|_=>False) Xd
theorem B1q {op} (h:DE X K E a ta):DE X K E (.BoolOp op [a] pos) ta:=⟨C6u h.q⟩
theorem B0b (ha:DE X K E a ta) (hb:DE X K E (.BoolOp .And (b::G4) pos) tb):DE X K E (.BoolOp .And (a::b::G4) pos) (C9u ta tb):=⟨L6 (C8u ha.q hb.q) λU H Q h=>by
 sleep 0;sleep 4;cases d with
 | bool i =>
  refine ⟨i,A3u g3.den,?_⟩;cases i with
  | true=>exact ⟨H0,ν,O,Qd,Xd,S.same g2,g1,λd k v H'' a1 a2 a3=>q d k v H'' a1 (g2.trans a2) (a3.later g2),x⟩
  | false=>exact q _ _ _ _ g1 g2 (.bl _)
 | _=>exact g1.elim⟩
theorem D0l (ha:DE X K E a ta) (hb:DE X K E (.BoolOp .Or (b::G4) pos) tb):DE X K E (.BoolOp .Or (a::b::G4) pos) (D77 ta tb):=⟨L6 (D1u ha.q hb.q) λU H Q h=>by
 sleep 0;sleep 4;cases d with
 | bool i =>
  refine ⟨i,A3u g3.den,?_⟩;cases i with
  | false=>exact ⟨H0,ν,O,Qd,Xd,S.same g2,g1,λd k v H'' a1 a2 a3=>q d k v H'' a1 (g2.trans a2) (a3.later g2),x⟩
  | true=>exact q _ _ _ _ g1 g2 (.bl _)
 | _=>exact g1.elim⟩
def dB (ta:TD):TDT:=λO Q Xd=>ta O (λd _=>match d with|.bool i=>Q i|_=>False) Xd
theorem E27:∀ {U:L2.St} {H:Hp} {Q:Bool->Hp->Prop},LT K E (dB ta) U H Q->L2.tB (LE K E ta) U H Q:=λ{U H Q} h=>by
 sleep 0;sleep 4;cases d with
 | bool i=>exact ⟨i,A3u g3.den,q _ _ g1 g2⟩
 | _=>exact g1.elim
theorem A6i (h:DE X K E e ta) (he:∀ whole,isTrue e X.env whole=(do let v <- whole;standAt e.pos;holding [v] (truthy v)):=by intro _;rfl):DT X K E e (dB ta):=⟨B17 (B6t h.q he) λU H Q h=>E27 h⟩
def C63:D->Option Bool
 | .none=>some false
 | .bool b=>some b
 | .int i=>some (!decide (i=0))
 | .str _=>Option.none
 | .list ds=>some (!ds.isEmpty)
 | .tuple ds=>some (!ds.isEmpty)
 | .dict _=>Option.none
def D8i (ta:TD):TDT:=λO Q Xd=>ta O (λd _=>∃ b,C63 d=some b/\Q b) Xd
theorem B8 {op:CmpOp} {f:F2} (ho:DOp X K (compareOp op) f) (ha:DE X K E a ta) (hb:DE X K E b tb) (hm:behindInMarks op b=false):DT X K E (.Compare a [op] [b] pos) (dB (dOp f ta tb)):=by
 obtain ⟨r,o,p⟩:=ho.ex;refine ⟨B17 (S9 o ha.q hb.q hm) λU H Q h=>?_⟩;sleep 0;refine B21 p U H _ ⟨H0,ν,O,_,Xd,S,h1,λd k v H' g1 g2 g3=>?_,x⟩;cases d with
 | bool i=>exact ⟨i,A3u g3.den,q _ _ g1 g2⟩
 | _=>exact g1.elim
def D4s (tA tB:TDT):TDT:=λO Q Xd=>tA O (λb=>if b=true then tB O Q Xd else Q false) Xd
def dOr (tA tB:TDT):TDT:=λO Q Xd=>tA O (λb=>if b=true then Q true else tB O Q Xd) Xd
def D9j (tA:TDT):TDT:=λO Q Xd=>tA O (λb=>Q (!b)) Xd
theorem A17 (h:DW X K E e tA):DT X K E e tA:=⟨C2u h.q⟩
theorem A42 (ha:DT X K E a tA):DW X K E (.BoolOp .And [a] pos) tA:=⟨B28 ha.q⟩
theorem A01 (ha:DT X K E a tA):DW X K E (.BoolOp .Or [a] pos) tA:=⟨B64 ha.q⟩
theorem D3d:∀ U H Q,LT K E (D4s tA tB) U H Q->C58 (LT K E tA) (LT K E tB) U H Q:=λU H Q h=>by
 sleep 0;sleep 33;cases b with
 | true=>exact ⟨H0,ν,O,Qd,Xd,S.same g2,g1,λb H'' a1 a2=>q b H'' a1 (g2.trans a2),x⟩
 | false=>exact q _ _ g1 g2
theorem D7x:∀ U H Q,LT K E (dOr tA tB) U H Q->tOr (LT K E tA) (LT K E tB) U H Q:=λU H Q h=>by
 sleep 0;sleep 33;cases b with
 | false=>exact ⟨H0,ν,O,Qd,Xd,S.same g2,g1,λb H'' a1 a2=>q b H'' a1 (g2.trans a2),x⟩
 | true=>exact q _ _ g1 g2
theorem A6b (ha:DT X K E a tA) (hb:DW X K E (.BoolOp .And (b::G4) pos) tB):DW X K E (.BoolOp .And (a::b::G4) pos) (D4s tA tB):=⟨C1c (B7j ha.q hb.q) D3d⟩
theorem X6 (ha:DT X K E a tA) (hb:DW X K E (.BoolOp .Or (b::G4) pos) tB):DW X K E (.BoolOp .Or (a::b::G4) pos) (dOr tA tB):=⟨C1c (C24 ha.q hb.q) D7x⟩
theorem B1x (ha:DT X K E a tA):DT X K E (.UnaryOp .Not a pos) (D9j tA):=⟨B17 (B7z ha.q) λU H Q h=>by
 sleep 0;exact ⟨H0,ν,O,_,Xd,S,h1,λb H' g1 g2=>q _ _ g1 g2,x⟩⟩
def dIf (tA:TDT) (ta tb:TD):TD:=λO Q Xd=>tA O (λb=>if b=true then ta O Q Xd else tb O Q Xd) Xd
theorem A55 (hc:DT X K E c tA) (ha:DE X K E a ta) (hb:DE X K E b tb):DE X K E (.IfExp c a b pos) (dIf tA ta tb):=⟨L6 (A94 hc.q ha.q hb.q) λU H Q h=>by
 sleep 0;sleep 33;cases b with
 | true=>exact ⟨H0,ν,O,Qd,Xd,S.same g2,g1,λd k v H'' a1 a2 a3=>q d k v H'' a1 (g2.trans a2) (a3.later g2),x⟩
 | false=>exact ⟨H0,ν,O,Qd,Xd,S.same g2,g1,λd k v H'' a1 a2 a3=>q d k v H'' a1 (g2.trans a2) (a3.later g2),x⟩⟩
abbrev SpD:=List D->(D->Bool->Prop)->XD->Prop
def RR (K:W.Frag) (H H':Hp):Bool->V->D->Prop
 | true,v,d=>∃ ms,Ow K H' v d ms/\ms.Nodup/\∀ a∈ms,H a=none
 | false,v,d=>Dn K H' v d
def G3 (K:W.Frag) (sp:SpD):Sp:=λvs H Q E=>∃ ds Qd Xd,Dns K H vs ds/\sp ds Qd Xd/\(∀ d o v H',Qd d o->A8 H H'->RR K H H' o v d->Q v H')/\∀ C H',Xd C->A8 H H'->E (.ref C) none H'
def B11 (o:Bool):Kd:=if o=true then .own [] else .mix
def C3d (sp:SpD) (t:TDA):TD:=λO Q Xd=>t O (λds _=>sp ds (λd o=>Q d (B11 o)) Xd) Xd
theorem B4n {o:Bool} {v:V} {d:D} (e:A8 Hs H) (h:RR K H H' o v d):Y6 K Z ν Hs H' (B11 o) v d:=by
 cases o with
 | true=>obtain ⟨ms,h1,h2,h3⟩:=h;exact ⟨ms,h1,h2,λa ha=>.inl (e.gone (h3 a ha))⟩
 | false=>exact h
variable {t:TDA} {k:Nat}
theorem C5m {sp:SpD} :∀ U H Q,LE K E (C3d sp t) U H Q->LA K E t U H λvs H1=>G3 K sp vs H1 Q E:=λU H Q h=>by
 sleep 0;refine ⟨H0,ν,O,_,Xd,S,h1,λds k vs H1 g1 e1 r1=>?_,x⟩;exact ⟨ds,_,Xd,r1.dens,g1,λd o v H' a1 a2 a3=>q _ _ _ _ a1 (e1.trans a2) (B4n e1 a3),λC H' a1 a2=>x C H' a1 ((S.sm.trans e1).trans a2)⟩
def B1o (sp:SpD) (t:TDA):TD:=λO Q Xd=>t O (λds _=>sp ds (λd o=>Q d (B11 o)) (λ_=>False)) Xd
theorem B2w {sp:SpD} :∀ U H Q,LE K E (B1o sp t) U H Q->LA K E t U H λvs H1=>G3 K sp vs H1 Q E0:=λU H Q h=>by
 sleep 0;refine ⟨H0,ν,O,_,Xd,S,h1,λds k vs H1 g1 e1 r1=>?_,x⟩;exact ⟨ds,_,_,r1.dens,g1,λd o v H' a1 a2 a3=>q _ _ _ _ a1 (e1.trans a2) (B4n e1 a3),λC H' z _=>z.elim⟩
theorem M8 {x:Str} {ps:List Str} {sp:SpD} {es:List Expr} (D:Df X.prog X.w X.K X.mg X.base x ps k (G3 K sp)) (hr:S0 k X.A) (ha:DA X K E (e::es) t) (hg:Gl X x:=by rfl) (hdb:noD x:=by decide)
  (he:stE e es X.env:=by rfl) (hpl:stB pos es X.env:=by rfl):DE X K E (.Call (.Name x p) (e::es) [] pos) (B1o sp t) :=
 ⟨L6 (J1 D hr ha.q hg hdb he hpl) λU H Q h=>by
  show LA K E t U H λvs H1=>G3 K sp (vs++[]) H1 Q E0;simp only[append_nil];exact B2w U H Q h⟩
theorem T9 {x:Str} {ps:List Str} {sp:SpD} {es:List Expr} (D:DfE X.prog X.w X.K X.mg X.base x ps k (G3 K sp)) (hx:A21 (CXE X.prog X.w X.base) X E) (hr:S0 k X.A) (ha:DA X K E (e::es) t) (hg:Gl X x:=by rfl) (hdb:noD x:=by decide)
  (he:stE e es X.env:=by rfl) (hpl:stB pos es X.env:=by rfl):DE X K E (.Call (.Name x p) (e::es) [] pos) (C3d sp t) :=
 ⟨L6 (C7f D hx hr ha.q hg hdb he hpl) λU H Q h=>by
  show LA K E t U H λvs H1=>G3 K sp (vs++[]) H1 Q E;simp only[append_nil];exact C5m U H Q h⟩
abbrev FA:=List D->Kd->QD->Prop
def C9f (K:W.Frag) (r:List V->Hp->VK->Prop) (f:FA):Prop:=∀ (Z:Addr->Prop) (ν:Nat->List Addr) (Hs H:Hp) (xs:List V) (ds:List D) (k:Kd) (Qf:QD) (Q:VK),(∀ a,Hd Z ν a->Mu H a)->(∀ a,Hd Z ν a->Mu Hs a)->A8 Hs H->RsL K Z ν Hs H k xs ds ->
 f ds k Qf->(∀ d k v H',Qf d k->A8 H H'->Y6 K Z ν Hs H' k v d->Q v H')->r xs H Q
structure DCl (X:Cx) (K:W.Frag) (f:Value) (g:FA):Prop where
 ex:∃ r,R3 X f r/\C9f K r g
def dCB (g:FA) (t:TDA):TD:=λO Q Xd=>t O (λds k=>g ds k Q) Xd
theorem D07 {r:List V->Hp->VK->Prop} {g:FA} (p:C9f K r g):∀ U H Q,LE K E (dCB g t) U H Q->tCB r (LA K E t) U H Q:=λU H Q h=>by
 sleep 0;refine ⟨H0,ν,O,_,Xd,S,h1,λds k vs H1 g1 e1 r1=>?_,x⟩;exact p Z0 ν H H1 vs ds k _ _ (S.same e1).hl S.hl e1 r1 g1 λd k v H' a1 a2 a3=>q d k v H' a1 (e1.trans a2) a3
theorem E8 {id:String} {g:FA} {x:Str} {es:List Expr} (hc:DCl X K (.builtin id) g) (hg:Gl X x) (hm:X.mg x=none) (hv:bootBuiltins x=some (.builtin id)) (ha:DA X K E (e::es) t) (hn:x≠"__name__":=by decide) (hdb:noD x:=by decide)
  (he:stE e es X.env:=by rfl) (hpl:stB pos es X.env:=by rfl):DE X K E (.Call (.Name x p) (e::es) [] pos) (dCB g t):=by
 obtain ⟨r,c,pr⟩:=hc.ex;exact ⟨L6 (K6 c hg hm hv ha.q hn hdb he hpl) (D07 pr)⟩
theorem A3d {T:String} {g:FA} {x:Str} {es:List Expr} (hc:DCl X K (.type T) g) (hg:Gl X x) (hm:X.mg x=none) (hv:bootBuiltins x=some (.type T)) (ha:DA X K E (e::es) t) (hn:x≠"__name__":=by decide) (hdb:noD x:=by decide)
  (he:stE e es X.env:=by rfl) (hpl:stB pos es X.env:=by rfl):DE X K E (.Call (.Name x p) (e::es) [] pos) (dCB g t):=by
 obtain ⟨r,c,pr⟩:=hc.ex;exact ⟨L6 (B5l c hg hm hv ha.q hn hdb he hpl) (D07 pr)⟩
theorem A61 {xs:List V} {d:D} (h:Dns K H xs [d]):∃ v,xs=[v]/\Dn K H v d:=by
 cases h with
 | cons h r=>cases r;exact ⟨_,rfl,h⟩
theorem C29 {xs:List V} {d e:D} (h:Dns K H xs [d,e]):∃ v w',xs=[v,w']/\Dn K H v d/\Dn K H w' e:=by
 cases h with
 | cons h r=>obtain ⟨v,rfl,g⟩:=A61 r;exact ⟨_,_,rfl,h,g⟩
def B87:FA:=λds _ Q=>match ds with
 | [.list xs]=>Q (.int xs.length) .old
 | [.tuple xs]=>Q (.int xs.length) .old
 | [.dict [(.none,.list xs)]]=>Q (.int xs.length) .old
 | _=>False
theorem B4k {v:V} {ds:List D} (h:Dn K H v (.dict [(.none,.list ds)])):∃ (a:Addr) (ns:List Int),v=.ref a/\E6 K H a (ns.map V.int)/\ds=ns.map PyData.int:=by
 cases h with
 | scr ns h=>exact ⟨_,_,rfl,h,rfl⟩
theorem Q8 (hK:X.K=K):DCl X K (.builtin "len") B87:=⟨_,P4 K hK,λZ ν Hs H xs ds k Qf Q _ _ _ h g q=>by
 unfold B87 at g;split at g
 ·sleep 16;sleep 34;exact ⟨a,us,rfl,.inl (E6.of g1),q _ _ _ _ g (A8.refl H) (by rw[g2.length];exact .int _)⟩
 ·sleep 16;obtain ⟨a,us,rfl,g1,g2⟩:=Q4 h1;exact ⟨a,us,rfl,.inr g1,q _ _ _ _ g (A8.refl H) (by rw[g2.length];exact .int _)⟩
 ·sleep 16;obtain ⟨a,ns,rfl,g1,rfl⟩:=B4k h1;exact ⟨a,_,rfl,.inl g1,q _ _ _ _ g (A8.refl H) (by rw[qk,qk];exact .int _)⟩
 ·exact g.elim⟩
def A5i:List D->Option (List Int)
 | []=>some []
 | .int i::r=>(A5i r).map (i::·)
 | _=>Option.none
def A3q:List D->Option (List Bool)
 | []=>some []
 | .bool i::r=>(A3q r).map (i::·)
 | _=>Option.none
theorem A4d:∀ {us:List V} {ds:List D} {ns:List Int},Dns K H us ds->A5i ds=some ns->us=ns.map V.int
 | _,_,_,.nil,e=>by cases e;rfl
 | _,_,ns,.cons h r,e=>by
  cases h<;>first|(simp only[C3n,A5i] at e;first|cases e|(rw[Option.map_eq_some_iff] at e;obtain ⟨ms,e1,rfl⟩:=e;rw[A4d r e1];rfl))
theorem A4t:∀ {us:List V} {ds:List D} {ns:List Bool},Dns K H us ds->A3q ds=some ns->us=ns.map V.bl
 | _,_,_,.nil,e=>by cases e;rfl
 | _,_,ns,.cons h r,e=>by
  cases h<;>first|(simp only[C3n,A3q] at e;first|cases e|(rw[Option.map_eq_some_iff] at e;obtain ⟨ms,e1,rfl⟩:=e;rw[A4t r e1];rfl))
def E48:FA:=λds _ Q=>match ds with
 | [.list xs]=>∃ ns,A5i xs=some ns/\Q (.int ns.sum) .old
 | _=>False
def C1u (f:List Bool->Bool):FA:=λds _ Q=>match ds with
 | [.list xs]=>∃ ns,A3q xs=some ns/\Q (.bool (f ns)) .old
 | _=>False
theorem C5y (hK:X.K=K) (hc:X.calm=true):DCl X K (.builtin "all") (C1u λl=>l.all id):=⟨_,B8b K hK hc,λZ ν Hs H xs ds k Qf Q _ _ _ h g q=>by
 unfold C1u at g;split at g
 ·sleep 16;sleep 34;obtain ⟨ns,e,g⟩:=g;exact ⟨a,ns,rfl,E6.of (by rw[g1,A4t g2 e]),q _ _ _ _ g (A8.refl H) (.bl _)⟩
 ·exact g.elim⟩
theorem B71 (hK:X.K=K) (hc:X.calm=true):DCl X K (.builtin "any") (C1u λl=>l.any id):=⟨_,B8s K hK hc,λZ ν Hs H xs ds k Qf Q _ _ _ h g q=>by
 unfold C1u at g;split at g
 ·sleep 16;sleep 34;obtain ⟨ns,e,g⟩:=g;exact ⟨a,ns,rfl,E6.of (by rw[g1,A4t g2 e]),q _ _ _ _ g (A8.refl H) (.bl _)⟩
 ·exact g.elim⟩
theorem C75 {k:Kd} {v:V} {d:D} (h:RsL K Z ν Hs H k [v] [d]):Y6 K Z ν Hs H k v d:=by
 cases k with
 | own s =>
  sleep 23;cases h1 with
  | cons h r=>cases r;rw[append_nil] at h2 h3;exact ⟨_,h,h2,h3⟩
 | old=>cases (show Dns K _ [v] [d] from h) with|cons h r=>exact h
 | mix=>cases (show Dns K _ [v] [d] from h) with|cons h r=>exact h
def C33:FA:=λds k Q=>match ds with
 | [.list xs]=>Q (.list xs) (A2u xs k)
 | _=>False
theorem A7j (hK:X.K=K):DCl X K (.type "list") C33:=⟨_,B5w K hK,λZ ν Hs H xs ds k Qf Q hl hn hs h g q=>by
 unfold C33 at g;split at g
 ·obtain ⟨v,rfl,_⟩:=A61 h.dens;obtain ⟨a,us,rfl,g1,g2,g3⟩:=A1r hl hn (C75 h);exact ⟨a,us,rfl,.inl (E6.of g1),λp hp=>q _ _ _ _ g (A8.new hp) (A1q hl hs hp g3)⟩
 ·exact g.elim⟩
def D3c:FA:=λds _ Q=>match ds with
 | [.int i,.int j]=>Q (.int (if j < i then j else i)) .old
 | [.list xs]=>∃ ns,A5i xs=some ns/\ns≠[]/\∀ m,m∈ns->(∀ x∈ns,m<=x)->Q (.int m) .old
 | _=>False
def D2l:FA:=λds _ Q=>match ds with
 | [.int i,.int j]=>Q (.int (if j > i then j else i)) .old
 | [.list xs]=>∃ ns,A5i xs=some ns/\ns≠[]/\∀ m,m∈ns->(∀ x∈ns,x<=m)->Q (.int m) .old
 | _=>False
theorem B2d {f:Value} {r r':List V->Hp->VK->Prop} (h:R3 X f r) (h':R3 X f r'):R3 X f (λx H Q=>r x H Q\/r' x H Q):=by
 intro pins s U H xs us Q I rv h;rcases h with h1|h1
 ·exact h pins s U H xs us Q I rv h1
 ·exact h' pins s U H xs us Q I rv h1
theorem C8b (hK:X.K=K) (hc:X.calm=true):DCl X K (.builtin "min") D3c:=⟨_,B2d (B03 hc) (B52 K hK hc),λZ ν Hs H xs ds k Qf Q hl hn hs h g q=>by
 unfold D3c at g;split at g
 ·obtain ⟨v,w',rfl,h1,h2⟩:=C29 h.dens;exact .inl ⟨_,_,by rw[N3 h1,N3 h2],q _ _ _ _ g (A8.refl H) (.int _)⟩
 ·sleep 16;sleep 34;obtain ⟨ns,e,ne,g⟩:=g;exact .inr ⟨a,ns,rfl,E6.of (by rw[g1,A4d g2 e]),ne,λm m1 m2=>q _ _ _ _ (g m m1 m2) (A8.refl H) (.int _)⟩
 ·exact g.elim⟩
theorem C6i (hK:X.K=K) (hc:X.calm=true):DCl X K (.builtin "max") D2l:=⟨_,B2d (B8i hc) (B60 K hK hc),λZ ν Hs H xs ds k Qf Q hl hn hs h g q=>by
 unfold D2l at g;split at g
 ·obtain ⟨v,w',rfl,h1,h2⟩:=C29 h.dens;exact .inl ⟨_,_,by rw[N3 h1,N3 h2],q _ _ _ _ g (A8.refl H) (.int _)⟩
 ·sleep 16;sleep 34;obtain ⟨ns,e,ne,g⟩:=g;exact .inr ⟨a,ns,rfl,E6.of (by rw[g1,A4d g2 e]),ne,λm m1 m2=>q _ _ _ _ (g m m1 m2) (A8.refl H) (.int _)⟩
 ·exact g.elim⟩
def tyN:D->String
 | .none=>"NoneType"
 | .bool _=>"bool"
 | .int _=>"int"
 | .str _=>"str"
 | .list _=>"list"
 | .tuple _=>"tuple"
 | .dict _=>"dict"
def isInt:D->Bool
 | .int _=>true
 | .bool _=>true
 | _=>false
def isList:D->Bool
 | .list _=>true
 | _=>false
def A6y:D->Bool
 | .dict _=>false
 | _=>true
def D3h (K:W.Frag) (T:String) (f:D->Bool):Prop:=∀ d,A6y d=true->W.kitOne K (.type (tyN d)) (.type T)=some (f d)
theorem C38:D3h K "list" isList:=by intro d h;cases d<;>first|rfl|simp[A6y] at h
def E0o (K:W.Frag) (T:String) (f:D->Bool):List V->Hp->VK->Prop:=λxs H Q=>∃ x d,xs=[x,.ty T]/\Dn K H x d/\A6y d=true/\Q (.bl (f d)) H
theorem C22 {T:String} {f:D->Bool} (hK:X.K=K) (kt:D3h K T f):R3 X (.builtin "isinstance") (E0o K T f):=by
 subst hK;sleep 10;obtain ⟨x,d,rfl,hd,nd,q⟩:=h;obtain ⟨u,w',rfl,r1,r2⟩:=B2t r;cases r2;have k:=kt d nd;cases hd with
 | non=>exact A0q I r1 .non k λtk=>⟨.bl _,H,I.tok _,rfl,q⟩
 | bl i=>exact A0q I r1 (.bl _) k λtk=>⟨.bl _,H,I.tok _,rfl,q⟩
 | int i=>exact A0q I r1 (.int _) k λtk=>⟨.bl _,H,I.tok _,rfl,q⟩
 | str i=>exact A0q I r1 (.str _) k λtk=>⟨.bl _,H,I.tok _,rfl,q⟩
 | lst h _=>exact A0q I r1 (.lst h) k λtk=>⟨.bl _,H,I.tok _,rfl,q⟩
 | tup h _ =>
  cases r1;obtain ⟨its,rv,⟨o,e,c,n,d⟩,_⟩:=I.tuple h;exact W.kia_one W.kitx_tuple I.kIn ⟨o,e,c⟩ k (λz=>nomatch z) λtk=>⟨.bl _,H,I.tok _,rfl,q⟩
 | scr _ _=>cases nd
 | opq _=>cases nd
 | dct _ _=>cases nd
 | dcf _ _=>cases nd
 | dcl _ _ _=>cases nd
def dIs (f:D->Bool) (ta:TD):TD:=λO Q Xd=>ta O (λd _=>A6y d=true/\Q (.bool (f d)) .old) Xd
theorem C7h {T:String} {f:D->Bool} {y:Str} (hK:X.K=K) (kt:D3h K T f) (hg:Gl X "isinstance") (hm:X.mg "isinstance"=none) (ha:DE X K E a ta) (hg2:Gl X y) (hm2:X.mg y=none) (hv2:bootBuiltins y=some (.type T)) (hn:y≠"__name__":=by decide) (hd:noD y:=by decide)
  (he:starEach [a,.Name y p2] X.env=(false,eval a X.env)::starEach [.Name y p2] X.env:=by rfl) (hpl:(backTo pos (starEach [.Name y p2] X.env)).any (·.1)=false:=by rfl):DE X K E (.Call (.Name "isinstance" p) [a,.Name y p2] [] pos) (dIs f ta) :=
 ⟨L6 (K6 (C22 hK kt) hg hm (by decide +kernel) (A2 ha.q (hs:=he) (A2 (C16 (v:=.ty T) hg2 hm2 hv2 rfl hn hd) B5)) (by decide) (by decide) he hpl) λU H Q h=>by
  sleep 0;sleep 4;exact ⟨v,d,rfl,g3.den,g1.1,q _ _ _ _ g1.2 g2 (.bl _)⟩⟩
def A0g:D->Bool
 | .none=>true
 | .bool _=>true
 | .int _=>true
 | .str _=>true
 | _=>false
theorem A6r {v:V} {d:D} (h:Dn K H v d) (s:A0g d=true):A31 v=true:=by
 cases h<;>first|rfl|simp[A0g,C3n] at s
theorem D0j {v u:V} {d e:D} (h:Dn K H v d) (g:Dn K H u e) (s:A0g d=true) (t:A0g e=true):eqV v u=PyData.eqv d e:=by
 cases h<;>first|(simp[A0g,C3n] at s;done)|(cases g<;>first|(simp[A0g,C3n] at t;done)|rfl|(simp[eqV,PyData.eqv];done))
def inD (x:D) (xs:List D):Bool:=xs.any λy=>PyData.eqv y x
def fIn (f:Bool->Bool):F2:=λd _ e _ Q=>A0g d=true/\match e with
 | .list es=>es.all A0g=true/\Q (.bool (f (inD d es))) .old
 | .tuple es=>es.all A0g=true/\Q (.bool (f (inD d es))) .old
 | _=>False
theorem A73 {v:V} {d:D} (h:Dn K H v d) (s:A0g d=true):∀ {us:List V} {es:List D},Dns K H us es->es.all A0g=true->us.all A31=true/\inV v us=inD d es
 | _,_,.nil,_=>⟨rfl,rfl⟩
 | _,_,.cons g r,t=>by
  rw[List.all_cons,zb] at t;obtain ⟨h1,h2⟩:=A73 h s r t.2;refine ⟨by rw[List.all_cons,A6r g t.1,h1];rfl,?_⟩;unfold inV inD at h2 ⊢;rw[List.any_cons,List.any_cons,h2,D0j g h t.1 s]
theorem C6x {neg:Bool} {f:Bool->Bool} (hf:∀ b,f b=if neg then !b else b):A33 K (rIn K neg) (fIn f):=λZ ν Hs H x y d k e l Qf Q _ _ _ h3 h4 h5 h6=>by
 obtain ⟨h0,h5⟩:=h5;split at h5
 ·obtain ⟨a,us,rfl,g1,g2⟩:=D9 h4.den;obtain ⟨q1,q2⟩:=A73 h3.den h0 g2 h5.1;refine ⟨a,us,rfl,.inl (E6.of g1),A6r h3.den h0,q1,h6 _ _ _ _ h5.2 (A8.refl H) ?_⟩;rw[q2,hf];cases neg<;>exact .bl _
 ·obtain ⟨a,us,rfl,g1,g2⟩:=Q4 h4.den;obtain ⟨q1,q2⟩:=A73 h3.den h0 g2 h5.1;refine ⟨a,us,rfl,.inr g1,A6r h3.den h0,q1,h6 _ _ _ _ h5.2 (A8.refl H) ?_⟩;rw[q2,hf];cases neg<;>exact .bl _
 ·exact h5.elim
theorem A9x (hK:X.K=K):DOp X K (compareOp .NotIn) (fIn not):=⟨_,B9t K hK,C6x λb=>rfl⟩
theorem A9q {e:Expr} (hK:X.K=K) (h:DE X K E e ta) (he:∀ whole,isTrue e X.env whole=(do let v <- whole;standAt e.pos;holding [v] (truthy v)):=by intro _;rfl):DT X K E e (D8i ta):=⟨by
 subst hK;refine B17 ⟨C47 h.q.h he⟩ λU H Q h=>?_;obtain ⟨H0,ν,O,Qd,Xd,S,h1,q,x⟩:=h;refine ⟨H0,ν,O,_,Xd,S,h1,λd k v H' g1 g2 g3=>?_,x⟩;obtain ⟨b,e1,e2⟩:=g1;refine ⟨b,?_,q _ _ e2 g2⟩;have:=g3.den;cases this with
 | non=>cases e1;exact rfl
 | bl i=>cases e1;exact rfl
 | int i=>cases e1;exact rfl
 | str i=>cases e1
 | lst h r=>cases e1;exact .inl ⟨_,E6.of h,by cases r<;>rfl⟩
 | tup h r=>cases e1;exact .inr (.inl ⟨_,h,by cases r<;>rfl⟩)
 | scr _ _=>cases e1
 | opq _=>cases e1
 | dct _ _=>cases e1
 | dcf _ _=>cases e1
 | dcl _ _ _=>cases e1⟩
end
structure S6 where
 nx:G2->Prop
 rt:D->Bool->Prop
 bk:G2->Prop:=λ_=>False
 ct:G2->Prop:=λ_=>False
abbrev N5:=S6->G2->XD->Prop
structure A7b (K:W.Frag) (H0:Hp) (En:V0) (Dd:S6):Prop where
 nx:∀ ν O U H,Dd.nx O->D2 K Z0 H0 ν O U H->En.nx U H
 bk:∀ ν O U H,Dd.bk O->D2 K Z0 H0 ν O U H->En.bk U H
 ct:∀ ν O U H,Dd.ct O->D2 K Z0 H0 ν O U H->En.ct U H
 rt:∀ d o v H,Dd.rt d o->A8 H0 H->RR K H0 H o v d->En.rt v H
def LS (K:W.Frag) (E:XK) (t:N5):TS:=λEn U H=>∃ H0 ν O Dd Xd,D2 K Z0 H0 ν O U H/\t Dd O Xd/\A7b K H0 En Dd/\∀ C H',Xd C->A8 H0 H'->E (.ref C) none H'
structure DS (X:Cx) (K:W.Frag) (E:XK) (s:Stmt) (t:N5):Prop where
 q:QS X s (LS K E t)
structure DSs (X:Cx) (K:W.Frag) (E:XK) (s:List Stmt) (t:N5):Prop where
 q:QSs X s (LS K E t)
def setK (O:G2) (i:Nat) (d:D) (k:Kd):G2:=if flat d=true then O.set i (some (false,d)) else match k with
 | .own s=>(E9 O s).set i (some (true,d))
 | .old=>O.set i (some (false,d))
 | .mix=>(frz O).set i (some (false,d))
section
variable {K:W.Frag} {H0 H H':Hp} {ν:Nat->List Addr} {O:G2} {U:L2.St} {v:V} {d:D} {k:Kd}
theorem B5k {H:Hp}:A8 H (S4 (Hd Z0 λ_=>[]) H):=λa o h=>L8 h λz=>by
 rcases z with z|⟨_,z⟩
 ·exact z
 ·cases z
theorem D2.setK (S:D2 K Z0 H0 ν O U H) (e:A8 H H') (h:Y6 K Z0 ν H H' k v d) (i:Nat):∃ ν',D2 K Z0 H0 ν' (setK O i d k) (U.set i (some v)) H':=by
 unfold DL.setK;split
 ·exact ⟨_,(S.same e).setOld i (B0g (S.same e).hl h.den ‹_›)⟩
 ·cases k with
  | own s =>
   sleep 23;exact ⟨_,S.setOwn s i e h1 h2 h3⟩
  | old=>exact ⟨_,(S.same e).setOld i h⟩
  | mix=>exact ⟨_,(S.same e).frz.setOld i (Dn.same B5k h)⟩
def rtK (d:D) (k:Kd):Bool:=flat d||match k with
 | .own _=>true
 | _=>false
theorem D9s (S:D2 K Z0 H0 ν O U H) (e:A8 H H') (h:Y6 K Z0 ν H H' k v d):RR K H0 H' (rtK d k) v d:=by
 unfold rtK;cases hf:flat d with
 | true=>exact ⟨[],B6g h.den hf,nodup_nil,λ_ z=>by cases z⟩
 | false =>
  cases k with
  | own s =>
   sleep 23;refine ⟨ms,h1,h2,λa ha=>?_⟩;rcases h3 a ha with z|⟨j,_,z⟩
   ·exact S.sm.gone z
   ·exact (S.fr j a z).1
  | old=>exact Dn.same L3 h
  | mix=>exact h
theorem D2.low (S:D2 K Z H1 ν O U H) (e:A8 H0 H1):D2 K Z H0 ν O U H :=
 ⟨e.trans S.sm,S.len,S.sl,S.nd,S.dj,λi a h=>⟨e.gone (S.fr i a h).1,(S.fr i a h).2⟩,λa h=>⟨e.gone (S.zf a h).1,(S.zf a h).2⟩⟩
theorem D2.base (S:D2 K Z H0 ν O U H):A8 H0 (S4 (Hd Z ν) H):=λa o h=>L8 (S.sm a o h) λz=>by
 rcases z with z|⟨i,z⟩
 ·rw[(S.zf a z).1] at h;cases h
 ·rw[(S.fr i a z).1] at h;cases h
theorem D2.high (S:D2 K Z H0 ν O U H):D2 K Z (S4 (Hd Z ν) H) ν O U H :=
 ⟨L3,S.len,S.sl,S.nd,S.dj,λi a h=>⟨by unfold S4;rw[qr (.inr ⟨i,h⟩)],(S.fr i a h).2⟩,λa h=>⟨by unfold S4;rw[qr (.inl h)],(S.zf a h).2⟩⟩
theorem RR.low {o:Bool} (h:RR K H1 H o v d) (e:A8 H0 H1):RR K H0 H o v d:=by
 cases o with
 | true=>obtain ⟨ms,h1,h2,h3⟩:=h;exact ⟨ms,h1,h2,λa ha=>e.gone (h3 a ha)⟩
 | false=>exact h
theorem A7b.high {Dd:S6} (h:A7b K H0 En Dd) (e:A8 H0 H1):A7b K H1 En Dd :=
 ⟨λν O U H a S=>h.nx ν O U H a (S.low e),λν O U H a S=>h.bk ν O U H a (S.low e),λν O U H a S=>h.ct ν O U H a (S.low e),λd o v H a b c=>h.rt d o v H a (e.trans b) (c.low e)⟩
end
section
variable {X:Cx} {K:W.Frag} {E:XK} {pos:Pos} {a b c e:Expr} {te:TD} {tA:TDT} {t u:N5}
def D12 (i:Nat) (te:TD):N5:=λDd O Xd=>te O (λd k=>Dd.nx (setK O i d k)) Xd
theorem G5 (i:Nat) {x:Str} (hN:X.N.Nodup) (he:DE X K E e te) (hi:X.N[i]?=some x:=by rfl) (hx:Loc X.env.scope x:=by first|exact Or.inl rfl|exact Or.inr rfl) (hs:swapsWith e (some (.Name x pos')) pos.line X.env=pure false:=by rfl) (hf:X.fn x=true\/X.env.scope.names.lookup x=some .local:=by first|exact .inl rfl|exact .inr rfl|assumption) :
  DS X K E (.Assign [.Name x pos'] e pos) (D12 i te):=⟨N9 (S7 i hN he.q hi hx hs hf) λEn U H h=>by
 sleep 1;sleep 4;obtain ⟨ν',S'⟩:=S.setK g2 g3 i;exact ok.nx _ _ _ _ g1 S'⟩
def D6h (te:TD):N5:=λDd O Xd=>te O (λd k=>Dd.rt d (rtK d k)) Xd
theorem C6 (he:DE X K E e te):DS X K E (.Return (some e) pos) (D6h te):=⟨N9 (A41 he.q) λEn U H h=>by
 sleep 1;exact ⟨H0,ν,O,_,Xd,S,h1,λd k v H' g1 g2 g3=>ok.rt _ _ _ _ g1 (S.sm.trans g2) (D9s S g2 g3),x⟩⟩
def C9d (te:TD):N5:=λDd O Xd=>te O (λ_ _=>Dd.nx O) Xd
theorem A4h (he:DE X K E e te) (hs:swapsWith e none pos.line X.env=pure false:=by rfl):DS X K E (.Expr e pos) (C9d te):=⟨N9 (X4 he.q hs) λEn U H h=>by
 sleep 1;exact ⟨H0,ν,O,_,Xd,S,h1,λd k v H' g1 g2 g3=>ok.nx _ _ _ _ g1 (S.same g2),x⟩⟩
def C94:N5:=λDd O _=>Dd.nx O
def D7w (tA:TDT) (t u:N5):N5:=λDd O Xd=>tA O (λb=>if b=true then t Dd O Xd else u Dd O Xd) Xd
theorem G9 {as bs:List Stmt} (hc:DT X K E c tA) (ha:DSs X K E as t) (hb:DSs X K E bs u):DS X K E (.If c as bs pos) (D7w tA t u):=⟨N9 (B1b hc.q ha.q hb.q) λEn U H h=>by
 sleep 1;sleep 33;cases b with
 | true=>exact ⟨H0,ν,O,Dd,Xd,S.same g2,g1,ok,x⟩
 | false=>exact ⟨H0,ν,O,Dd,Xd,S.same g2,g1,ok,x⟩⟩
def D6p (t u:N5):N5:=λDd O Xd=>t { Dd with nx:=λO'=>u Dd O' Xd } O Xd
theorem D0:DSs X K E [] C94:=⟨B6y A4f λEn U H h=>by
 sleep 1;exact ok.nx _ _ _ _ h1 S⟩
variable {st:Stmt}
theorem A7 (h1:DS X K E st t):DSs X K E [st] t:=⟨J8 h1.q⟩
theorem A4 {G4:List Stmt} (h1:DS X K E st t) (h2:DSs X K E G4 u):DSs X K E (st::G4) (D6p t u):=⟨B6y (B3 h1.q h2.q) λEn U H h=>by
 sleep 1;exact ⟨H0,ν,O,_,Xd,S,h1,⟨λν' O' U' H' a S'=>⟨H0,ν',O',Dd,Xd,S',a,ok,x⟩,ok.bk,ok.ct,ok.rt⟩,x⟩⟩
def D9k (i:Nat) (t:N5):N5:=λDd O Xd=>t Dd (frz1 i O) Xd
theorem B1y (i:Nat) {s:Stmt} (h:DS X K E s t):DS X K E s (D9k i t):=⟨N9 h.q λEn U H h=>by
 sleep 1;exact ⟨H0,_,_,Dd,Xd,S.frz1 i,h1,ok,x⟩⟩
def C4f (C:Addr) (t:TDA):N5:=λ_ O Xd=>t O (λds _=>ds.length<=1000/\Xd C) Xd
theorem X0 {x:Str} {C:Addr} {es:List Expr} {t:TDA} (hx:A69 X E) (hc:X.calm=true) (c:ExC X.K X.mg x C) (hg:Gl X x) (ha:DA X K E (e0::es) t) (hdb:noD x:=by decide)
  (he:stE e0 es X.env:=by rfl) (hpl:stB cpos es X.env:=by rfl) :
  DS X K E (.Raise (some (.Call (.Name x np) (e0::es) [] cpos)) none pos) (C4f C t):=⟨N9 (B8y hx hc c hg ha.q hdb he hpl) λEn U H h=>by
 sleep 1;sleep 12;exact ⟨by rw[g3.dens.length];exact zq g1.1 (by decide),x C H' g1.2 (S.sm.trans g2)⟩⟩
def D32 (tc:TDT) (tb:N5):N5:=λDd O Xd=>∃ W:Nat->G2->Prop,(∃ m,W m O)/\∀ m O,W m O->tc O (λb=>if b=true then tb { Dd with nx:=λO'=>∃ m',m' < m/\W m' O',ct:=λO'=>∃ m',m' < m/\W m' O',bk:=Dd.nx } O Xd else Dd.nx O) Xd
theorem A9y {tb:N5} (hp:PassesOwn (model X.prog X.w) X.A X.env X.xe) (hc:DT X K E c tA) (hb:DSs X K E body tb):DS X K E (.While c body [] pos) (D32 tA tb):=⟨N9 (A2n hp hc.q hb.q) λEn U H h=>by
 obtain ⟨H0,ν,O,Dd,Xd,S,⟨W,⟨m0,w0⟩,turn⟩,ok,x⟩:=h;refine ⟨λm U H=>∃ ν O,D2 K Z0 H0 ν O U H/\W m O,⟨m0,ν,O,S,w0⟩,?_⟩;rintro m σ1 H1 ⟨ν1,ρ1,S1,w1⟩;refine ⟨H0,ν1,ρ1,_,Xd,S1,turn m ρ1 w1,λb H' g1 g2=>?_,x⟩;cases b with
 | true =>
  rw[qr rfl] at g1 ⊢;refine ⟨λU' H'=>∃ m',m' < m/\∃ ν O,D2 K Z0 H0 ν O U' H'/\W m' O,λU' H' z=>z,H0,ν1,ρ1,_,Xd,S1.same g2,g1,⟨λν O U H a S=>?_,λν O U H a S=>ok.nx ν O U H a S,λν O U H a S=>?_,ok.rt⟩,x⟩
  ·obtain ⟨m',hm,w'⟩:=a;exact ⟨m',hm,ν,O,S,w'⟩
  ·obtain ⟨m',hm,w'⟩:=a;exact ⟨m',hm,ν,O,S,w'⟩
 | false =>
  rw[qs qw] at g1 ⊢;exact ok.nx _ _ _ _ g1 (S1.same g2)⟩
end
abbrev TGD:=D->G2->(G2->Prop)->Prop
abbrev A8o:=List D->G2->(G2->Prop)->Prop
def X7 (O:G2):Prop:=∀ (i:Nat) d,O[i]?≠some (some (true,d))
theorem B8x {O:G2} (h:X7 O) (i:Nat) (d:D):X7 (O.set i (some (false,d))):=λj e z=>by
 rcases A2r z with ⟨_,z,_⟩|⟨_,z⟩
 ·cases z
 ·exact h j e z
def Agr (T:List Nat) (O O':G2):Prop:=O'.length=O.length/\∀ i,i∉T->O'[i]?=O[i]?
def D6w (K:W.Frag) (g:TG) (T:List Nat) (bnd:TGD):Prop:=∀ (H0:Hp) (ν:Nat->List Addr) (O:G2) (U:L2.St) (H:Hp) (v:V) (d:D) (Qd:G2->Prop) (Q:L2.St->Hp->Prop),D2 K Z0 H0 ν O U H->Dn K (S4 (Hd Z0 ν) H) v d->bnd d O Qd ->
 (∀ O' U',Qd O'->D2 K Z0 H0 ν O' U' H->Agr T O O'->(X7 O->X7 O')->Q U' H)->g v U H Q
def D0w (K:W.Frag) (g:TGs) (T:List Nat) (bnd:A8o):Prop:=∀ (H0:Hp) (ν:Nat->List Addr) (O:G2) (U:L2.St) (H:Hp) (vs:List V) (ds:List D) (Qd:G2->Prop) (Q:L2.St->Hp->Prop),D2 K Z0 H0 ν O U H->Dns K (S4 (Hd Z0 ν) H) vs ds->bnd ds O Qd ->
 (∀ O' U',Qd O'->D2 K Z0 H0 ν O' U' H->Agr T O O'->(X7 O->X7 O')->Q U' H)->g vs U H Q
structure DG (X:Cx) (K:W.Frag) (tg:Expr) (T:List Nat) (bnd:TGD):Prop where
 ex:∃ g,QG X tg g/\D6w K g T bnd
structure DGs (X:Cx) (K:W.Frag) (tg:List Expr) (T:List Nat) (bnd:A8o):Prop where
 ex:∃ g,QGs X tg g/\D0w K g T bnd
def D00 (i:Nat):TGD:=λd O Q=>Q (O.set i (some (false,d)))
def D6x:A8o:=λds O Q=>ds=[]/\Q O
def C9n (b:TGD) (bs:A8o):A8o:=λds O Q=>match ds with
 | d::r=>b d O λO'=>bs r O' Q
 | []=>False
def D1b (n:Nat) (bs:A8o):TGD:=λd O Q=>match d with
 | .tuple ds=>ds.length=n/\bs ds O Q
 | _=>False
section
variable {X:Cx} {K:W.Frag} {pos:Pos}
theorem Agr.trans {a b c:G2} (h:Agr T a b) (g:Agr Ui b c):Agr (T++Ui) a c:=⟨g.1.trans h.1,λi hi=>by
 rw[zm,not_or] at hi;rw[g.2 i hi.2,h.2 i hi.1]⟩
theorem K5 (i:Nat) {x:Str} (hN:X.N.Nodup) (hi:X.N[i]?=some x:=by rfl) (hx:Loc X.env.scope x:=by first|exact Or.inl rfl|exact Or.inr rfl) (hf:X.fn x=true\/X.env.scope.names.lookup x=some .local:=by first|exact .inl rfl|exact .inr rfl|assumption):DG X K (.Name x pos) [i] (D00 i) :=
 ⟨_,U8 i hN hi hx hf,λH0 ν O U H v d Qd Q S h b q=>q _ _ b (S.setOld i h) ⟨length_set,λj hj=>List.getElem?_set_ne (by simpa using Ne.symm (by simpa using hj))⟩ λn=>B8x n i d⟩
theorem P9:DGs X K [] [] D6x:=⟨_,T1,λH0 ν O U H vs ds Qd Q S h b q=>by
 obtain ⟨rfl,b⟩:=b;cases h;exact ⟨rfl,q _ _ b S ⟨rfl,λ_ _=>rfl⟩ id⟩⟩
variable {es:List Expr}
theorem D6 {e:Expr} {b:TGD} {bs:A8o} (h1:DG X K e T b) (h2:DGs X K es Ui bs) (hs:(assignEach (e::es) X.env).map (·.2)=assign e X.env::(assignEach es X.env).map (·.2):=by rfl):DGs X K (e::es) (T++Ui) (C9n b bs):=by
 obtain ⟨g,q1,o1⟩:=h1.ex;obtain ⟨gs,q2,o2⟩:=h2.ex;refine ⟨_,D8 q1 q2 hs,λH0 ν O U H vs ds Qd Q S h b q=>?_⟩;cases h with
 | nil=>exact b.elim
 | cons h r =>
  refine ⟨_,_,rfl,o1 H0 ν O U H _ _ _ _ S h b λO' U' b' S' A n1=>?_⟩;exact o2 H0 ν O' U' H _ _ _ _ S' r b' λO'' U'' b'' S'' A' n2=>q _ _ b'' S'' (A.trans A') λn=>n2 (n1 n)
theorem U0 (n:Nat) {k:Nat} {bs:A8o} (hK:X.K=K) (hc:X.calm=true) (h:DGs X K es T bs) (hn:(assignEach es X.env).length=n) (hst:(assignEach es X.env).findIdx? (·.1)=none):DG X K (.Tuple es k pos) T (D1b n bs):=by
 obtain ⟨gs,q1,o1⟩:=h.ex;refine ⟨_,X2 K n hK hc q1 hn hst,λH0 ν O U H v d Qd Q S h b q=>?_⟩;unfold D1b at b;split at b
 ·obtain ⟨a,us,rfl,g1,g2⟩:=Q4 h;exact ⟨a,us,rfl,A8.tup L3 g1,by rw[g2.length];exact b.1,o1 H0 ν O U H _ _ _ _ S g2 b.2 q⟩
 ·exact b.elim
end
def B34 (K:W.Frag) (F0:Hp) (J:It) (ds:List D):Prop:=∀ (W:Addr->Prop) (H2:Hp),(∀ a,W a->Mu H2 a)->A8 F0 (S4 W H2) ->
 J.stop ds.length H2/\∀ i d,ds[i]?=some d->J.go i H2/\∀ x H',J.yld i H2 x H'->A8 H2 H'/\Dn K (S4 W H') x d
abbrev TDI:=G2->(List D->Bool->Prop)->XD->Prop
noncomputable def fz (b:Bool) (ν:Nat->List Addr) (H:Hp):Hp:=if b=true then S4 (Hd Z0 ν) H else H
def LI (K:W.Frag) (E:XK) (t:TDI):TI:=λU H R=>∃ H0 ν O Qd Xd,D2 K Z0 H0 ν O U H/\t O Qd Xd/\(∀ ds b J H1,Qd ds b->A8 H H1->B34 K (fz b ν H1) J ds->R J H1)/\∀ C H',Xd C->A8 H0 H'->E (.ref C) none H'
structure DI (X:Cx) (K:W.Frag) (E:XK) (tg e:Expr) (t:TDI):Prop where
 q:QI X tg e (LI K E t)
theorem A7s {e:Expr} {t t':TI} (h:QI X tg e t) (i:∀ U H Q,t' U H Q->t U H Q):QI X tg e t':=⟨λpins s U H Q I w=>h.h pins s U H Q I (i U H Q w)⟩
section
variable {X:Cx} {K:W.Frag} {E:XK} {pos:Pos} {tg l:Expr} {te:TD} {ta:TDA}
variable {us vs:List V} {k:Kd}
theorem B9h {ds:List D} (h:F0 a=some (.lst us)) (r:Dns K F0 us ds):B34 K F0 (Itl K a) ds:=λW H2 hl sm=>by
 have h2:H2 a=some (.lst us):=(P5 (sm _ _ h)).1;refine ⟨⟨us,E6.of h2,by rw[r.length];exact qt _⟩,λi d hd=>?_⟩;obtain ⟨u,h3,h4⟩:=r.get hd;refine ⟨⟨us,u,E6.of h2,h3⟩,λx H' y=>?_⟩;obtain ⟨rfl,y⟩:=y;have:=y us (E6.of h2);rw[h3] at this;cases this;exact ⟨A8.refl _,Dn.same sm h4⟩
theorem D2b {v:V} {d:D} (hl:∀ a,Hd Z0 ν a->Mu H a) (hn:∀ a,Hd Z0 ν a->Mu Hs a) (h:Y6 K Z0 ν Hs H k v d):Dn K (fz k.isOld ν H) v d:=by
 unfold fz;split
 ·exact h.old hl hn ‹_›
 ·exact h.den
def iL (te:TD):TDI:=λO Q Xd=>te O (λd k=>match d with
 | .list ds=>Q ds k.isOld
 | _=>False) Xd
theorem O9 (hK:X.K=K) (hl:DE X K E l te):DI X K E tg l (iL te):=⟨A7s (A59 K hK hl.q) λU H R h=>by
 sleep 0;sleep 4;cases d with
 | list ds =>
  have hf:=D2b (S.same g2).hl S.hl g3;obtain ⟨a,us,rfl,q1,q2⟩:=D9 hf;have q0:H' a=some (.lst us):=by unfold fz at q1;split at q1;exact (P5 q1).1;exact q1
  exact ⟨a,rfl,⟨us,E6.of q0⟩,q ds _ _ H' g1 g2 (B9h q1 q2)⟩
 | _=>exact g1.elim⟩
def A2y (lo:Int) (n:Nat):List D:=(List.range n).map λ(i:Nat)=>PyData.int (lo+i)
theorem A8c:B34 K F0 (Itr lo n) (A2y lo n):=λW H2 hl sm=>by
 refine ⟨?_,λi d hd=>?_⟩
 ·show n<=_;unfold A2y;rw[qk,length_range];exact qt _
 ·unfold A2y at hd;rw[qp] at hd;cases e:(List.range n)[i]? with
  | none=>rw[e] at hd;cases hd
  | some j =>
   rw[e] at hd;cases hd;obtain ⟨h1,h2⟩:=ql.mp e;rw[List.getElem_range] at h2;subst h2;rw[length_range] at h1;refine ⟨h1,λx H' y=>?_⟩;obtain ⟨rfl,rfl⟩:=y;exact ⟨A8.refl _,.int _⟩
def iR1 (ta:TDA):TDI:=λO Q Xd=>ta O (λds _=>match ds with
 | [.int j]=>-(2 ^ 62)<=j/\j < 2 ^ 62/\Q (A2y 0 j.toNat) true
 | _=>False) Xd
def iR2 (ta:TDA):TDI:=λO Q Xd=>ta O (λds _=>match ds with
 | [.int i,.int j]=>(-(2 ^ 62)<=i/\i < 2 ^ 62/\-(2 ^ 62)<=j/\j < 2 ^ 62)/\Q (A2y i (j - i).toNat) true
 | _=>False) Xd
theorem K0 {a:Expr} (hg:Gl X "range") (hm:X.mg "range"=none) (ha:DA X K E [a] ta) (hs:starEach [a] X.env=[(false,eval a X.env)]:=by rfl):DI X K E tg (.Call (.Name "range" p) [a] [] pos) (iR1 ta):=⟨A7s (A3h hg hm ha.q hs) λU H R h=>by
 sleep 0;sleep 12;split at g1
 ·obtain ⟨v,rfl,h2⟩:=A61 g3.dens;exact ⟨_,by rw[N3 h2],g1.1,g1.2.1,q _ _ _ H' g1.2.2 g2 A8c⟩
 ·exact g1.elim⟩
theorem A74 {a b:Expr} (hg:Gl X "range") (hm:X.mg "range"=none) (ha:DA X K E [a,b] ta) (hs:starEach [a,b] X.env=[(false,eval a X.env),(false,eval b X.env)]:=by rfl) (hs2:starEach [b] X.env=[(false,eval b X.env)]:=by rfl):DI X K E tg (.Call (.Name "range" p) [a,b] [] pos) (iR2 ta):=⟨A7s (A6v hg hm ha.q hs hs2) λU H R h=>by
 sleep 0;sleep 12;split at g1
 ·obtain ⟨v,w',rfl,h2,h3⟩:=C29 g3.dens;exact ⟨_,_,by rw[N3 h2,N3 h3],g1.1,q _ _ _ H' g1.2 g2 A8c⟩
 ·exact g1.elim⟩
theorem C3c {ds:List D} (hl:∀ a,Hd Z0 ν a->Mu H a) (hn:∀ a,Hd Z0 ν a->Mu Hs a) (h:RsL K Z0 ν Hs H k vs ds):Dns K (fz k.isOld ν H) vs ds:=by
 unfold fz;split
 ·exact h.old0 hl hn ‹_›
 ·exact h.dens
theorem B50 {b:Bool} (h:fz b ν H a=some (.lst us)):H a=some (.lst us):=by
 unfold fz at h;split at h
 ·exact (P5 h).1
 ·exact h
def Y9:Nat->List D->List D
 | _,[]=>[]
 | i,d::r=>.tuple [.int i,d]::Y9 (i+1) r
theorem B06:∀ {n i:Nat} {ds:List D} {x:D},(Y9 n ds)[i]?=some x->∃ d,ds[i]?=some d/\x=.tuple [.int ((n+i:Nat):Int),d]
 | n,0,d::r,x,h=>by simp[Y9] at h;exact ⟨d,rfl,h.symm⟩
 | n,i+1,d::r,x,h=>by
  simp[Y9] at h;obtain ⟨e,h1,h2⟩:=B06 h;exact ⟨e,by simpa using h1,by rw[h2];simp;lia⟩
 | n,i,[],x,h=>by simp[Y9] at h
theorem A9g:∀ (n:Nat) (ds:List D),(Y9 n ds).length=ds.length
 | _,[]=>rfl
 | n,d::r=>by simp[Y9,A9g (n+1) r]
theorem B6c {W:Addr->Prop} {p:Addr} {ds:List D} (hl:∀ a,W a->Mu H a) (hp:H p=none) (h:Dns K (S4 W H) vs ds):A8 H (E5 H p (.tup vs))/\Dn K (S4 W (E5 H p (.tup vs))) (.ref p) (.tuple ds):=by
 have hz:¬ W p:=λz=>by obtain ⟨us,q⟩:=hl p z;rw[hp] at q;cases q
 exact ⟨A8.new hp,.tup (SqT.of (L8 B7 hz)) (Dns.same (A0p (A8.new hp)) h)⟩
theorem B93 {ds:List D} (h:F0 a=some (.lst us)) (r:Dns K F0 us ds):B34 K F0 (Ite K a) (Y9 0 ds):=λW H2 hl sm=>by
 have h2:H2 a=some (.lst us):=(P5 (sm _ _ h)).1;refine ⟨⟨us,E6.of h2,by rw[r.length,A9g];exact qt _⟩,λi d hd=>?_⟩;obtain ⟨e,hd2,rfl⟩:=B06 hd;obtain ⟨u,h3,h4⟩:=r.get hd2;refine ⟨⟨us,u,E6.of h2,h3⟩,λx H' y=>?_⟩;obtain ⟨p,z,hp,hy,rfl,rfl⟩:=y;have:=hy us (E6.of h2);rw[h3] at this;cases this;refine B6c hl hp (.cons ?_ (.cons (Dn.same sm h4) .nil));rw[Nat.zero_add];exact .int _
def iEn (ta:TDA):TDI:=λO Q Xd=>ta O (λds k=>match ds with
 | [.list xs]=>Q (Y9 0 xs) k.isOld
 | _=>False) Xd
theorem A48 {a:Expr} {x1} (hK:X.K=K) (hg:Gl X "enumerate") (hm:X.mg "enumerate"=none) (ha:DA X K E [a] ta) (hs:starEach [a] X.env=[(false,eval a X.env)]):DI X K E (.Tuple elts x1 tp) (.Call (.Name "enumerate" p) [a] [] pos) (iEn ta):=⟨A7s (B8p K hK hg hm ha.q hs) λU H R h=>by
 sleep 0;sleep 12;split at g1
 ·obtain ⟨v,rfl,h2⟩:=A61 (C3c (S.same g2).hl S.hl g3);obtain ⟨a,us,rfl,q1,q2⟩:=D9 h2;exact ⟨a,rfl,⟨us,E6.of (B50 q1)⟩,q _ _ _ H' g1 g2 (B93 q1 q2)⟩
 ·exact g1.elim⟩
def A1u:List D->List D->List D
 | d::r,e::s=>.tuple [d,e]::A1u r s
 | _,_=>[]
theorem B2a:∀ {i:Nat} {ds es:List D} {x:D},(A1u ds es)[i]?=some x->∃ d e,ds[i]?=some d/\es[i]?=some e/\x=.tuple [d,e]
 | 0,d::r,e::s,x,h=>by simp[A1u] at h;exact ⟨d,e,rfl,rfl,h.symm⟩
 | i+1,d::r,e::s,x,h=>by
  simp[A1u] at h;obtain ⟨d',e',h1,h2,h3⟩:=B2a h;exact ⟨d',e',by simpa using h1,by simpa using h2,h3⟩
 | i,[],es,x,h=>by simp[A1u] at h
 | i,d::r,[],x,h=>by simp[A1u] at h
theorem B2b:∀ (ds es:List D),ds.length<=(A1u ds es).length\/es.length<=(A1u ds es).length
 | [],es=>.inl (jb _)
 | d::r,[]=>.inr (jb _)
 | d::r,e::s=>by
  rcases B2b r s with h|h
  ·exact .inl (by simp[A1u];exact h)
  ·exact .inr (by simp[A1u];exact h)
theorem C30 {b:Addr} {ds es:List D} (h:F0 a=some (.lst us)) (r:Dns K F0 us ds) (h':F0 b=some (.lst vs)) (r':Dns K F0 vs es):B34 K F0 (Itz K a b) (A1u ds es):=λW H2 hl sm=>by
 have h2:H2 a=some (.lst us):=(P5 (sm _ _ h)).1;have h2':H2 b=some (.lst vs):=(P5 (sm _ _ h')).1;refine ⟨⟨us,vs,E6.of h2,E6.of h2',by rw[r.length,r'.length];exact B2b ds es⟩,λi d hd=>?_⟩;obtain ⟨e,e',hd2,hd',rfl⟩:=B2a hd;obtain ⟨u,h3,h4⟩:=r.get hd2;obtain ⟨u',h3',h4'⟩:=r'.get hd';refine ⟨⟨us,vs,u,u',E6.of h2,E6.of h2',h3,h3'⟩,λx H' y=>?_⟩;obtain ⟨p,z,z',hp,hy,hy',rfl,rfl⟩:=y;have:=hy us (E6.of h2);rw[h3] at this;cases this;have:=hy' vs (E6.of h2');rw[h3'] at this;cases this;exact B6c hl hp (.cons (Dn.same sm h4) (.cons (Dn.same sm h4') .nil))
def iZp (ta:TDA):TDI:=λO Q Xd=>ta O (λds k=>match ds with
 | [.list xs,.list ys]=>Q (A1u xs ys) k.isOld
 | _=>False) Xd
theorem A10 {a b:Expr} {x1} (hK:X.K=K) (hg:Gl X "zip") (hm:X.mg "zip"=none) (ha:DA X K E [a,b] ta) (hs:starEach [a,b] X.env=[(false,eval a X.env),(false,eval b X.env)]:=by rfl) (hs2:starEach [b] X.env=[(false,eval b X.env)]:=by rfl):DI X K E (.Tuple elts x1 tp) (.Call (.Name "zip" p) [a,b] [] pos) (iZp ta):=⟨A7s (B2q K hK hg hm ha.q hs hs2) λU H R h=>by
 sleep 0;sleep 12;split at g1
 ·obtain ⟨v,w',rfl,h2,h3⟩:=C29 (C3c (S.same g2).hl S.hl g3);obtain ⟨a,us,rfl,q1,q2⟩:=D9 h2;obtain ⟨b,us',rfl,q3,q4⟩:=D9 h3;exact ⟨a,b,rfl,⟨us,E6.of (B50 q1)⟩,⟨us',E6.of (B50 q3)⟩,q _ _ _ H' g1 g2 (C30 q1 q2 q3 q4)⟩
 ·exact g1.elim⟩
def D8m (ti:TDI) (bnd:TGD) (tb:N5):N5:=λDd O Xd=>ti O (λds b=>b=true/\∃ W:Nat->G2->Prop,W 0 O/\(∀ i d O,ds[i]?=some d->W i O->bnd d O λO'=>tb { Dd with nx:=W (i+1),ct:=W (i+1),bk:=Dd.nx } O' Xd)/\∀ O,W ds.length O->Dd.nx O) Xd
theorem V7 {ti:TDI} {bnd:TGD} {tb:N5} (hp:PassesOwn (model X.prog X.w) X.A X.env X.xe) (hc:X.calm=true) (hi:DI X K E tg iter ti) (hg:DG X K tg T bnd) (hb:DSs X K E body tb) (hs:∀ x,foldedSetIterable iter X.env x=pure x:=by intro _;rfl) :
  DS X K E (.For tg iter body [] pos) (D8m ti bnd tb):=by
 obtain ⟨g,qg,og⟩:=hg.ex;refine ⟨N9 (A3x hp hc hi.q qg hb.q hs) λEn U H h=>?_⟩;sleep 1;refine ⟨H0,ν,O,_,Xd,S,h1,λds b J H1 g1 e1 it=>?_,x⟩;obtain ⟨rfl,W,w0,step,done⟩:=g1;have S1:=(S.same e1).high;have eb:A8 H0 (S4 (Hd Z0 ν) H1):=(S.same e1).base;have ok1:=ok.high eb;sleep 38
 ·obtain ⟨j1,j2⟩:=i2 i ds[i] (zd hlt);refine .inr ⟨j1,λU' H'=>∃ ν' O',D2 K Z0 (S4 (Hd Z0 ν) H1) ν' O' U' H'/\W (i+1) O',λU' H' ⟨ν',O',S',w'⟩=>⟨_,by lia,rfl,hlt,ν',O',S',w'⟩,λy H' hy=>?_⟩;obtain ⟨k1,k2⟩:=j2 y H' hy;refine og _ ν2 ρ2 σ2 H' y _ _ _ (S2.same k1) k2 (step i _ ρ2 (zd hlt) w2) λρ3 σ3 b3 S3 A _=>?_;exact ⟨_,ν2,ρ3,_,Xd,S3,b3,⟨λν O U H a S=>⟨ν,O,S,a⟩,λν O U H a S=>ok1.nx ν O U H a S,λν O U H a S=>⟨ν,O,S,a⟩,ok1.rt⟩,x1⟩
 ·have e:i=ds.length:=by lia
  subst e;exact .inl ⟨i1,ok1.nx _ _ _ _ (done ρ2 w2) S2⟩
end
abbrev R0:=List (D × Bool)
abbrev TB:=G2->R0->(R0->Prop)->Prop
def Xf:XD:=λ_=>False
structure In (K:W.Frag) (Hs Hm H0:Hp) (ν:Nat->List Addr) (acc:Addr) (O:G2) (U:L2.St) (H:Hp) (es:R0):Prop where
 st:D2 K Z0 H0 ν O U H
 sm:A8 Hm H
 nm:Hm acc=none
 hs:∃ o,Hs acc=some o
 sh:∀ a,H a=none->Hs a=none
 hd:∃ j,acc∈ν j
 no:X7 O
 ac:∃ us,H acc=some (.lst us)/\Dns K (S4 (Hd Z0 ν) H) us (es.map (·.1))/\(es.all (·.2)=true->∃ ms,Ows K H us (es.map (·.1)) ms/\ms.Nodup/\∀ a∈ms,Hs a=none)
section
variable {K:W.Frag} {Hs Hm H0 H H':Hp} {ν:Nat->List Addr} {acc:Addr} {O O':G2} {U:L2.St} {es:R0}
theorem In.same (I:In K Hs Hm H0 ν acc O U H es) (e:A8 H H'):In K Hs Hm H0 ν acc O U H' es:=by
 obtain ⟨us,h1,h2,h3⟩:=I.ac;refine ⟨I.st.same e,I.sm.trans e,I.nm,I.hs,λa h=>I.sh a (e.gone h),I.hd,I.no,us,e _ _ h1,Dns.same (A0p e) h2,λq=>?_⟩;obtain ⟨ms,g1,g2,g3⟩:=h3 q;exact ⟨ms,g1.same e,g2,g3⟩
theorem In.ren {U':L2.St} (I:In K Hs Hm H0 ν acc O U H es) (S:D2 K Z0 H0 ν O' U' H) (no:X7 O'):In K Hs Hm H0 ν acc O' U' H es:=⟨S,I.sm,I.nm,I.hs,I.sh,I.hd,no,I.ac⟩
variable {v:V} {d:D}
theorem B32 {vs:List V} {ds:List D} {ns ms:List Addr} (h:Ow K H v d ns) (r:Ows K H vs ds ms):Ows K H (vs++[v]) (ds++[d]) (ms++ns):=by
 induction vs generalizing ds ms with
 | nil =>
  cases r;rw[nil_append,nil_append,nil_append];have:=Ows.cons h (.nil (K:=K) (H:=H));rw[append_nil] at this;exact this
 | cons u us ih =>
  cases r with
  | cons a b=>rw[append_assoc];exact .cons a (ih b)
theorem D2.updH (S:D2 K Z0 H0 ν O U H) (hd:∃ j,acc∈ν j) (no:X7 O):D2 K Z0 H0 ν O U (E5 H acc (.lst ws)) where
 sm:=by obtain ⟨j,hj⟩:=hd;exact S.sm.put (S.fr j acc hj).1
 len:=S.len
 sl:=λi b d h=>by
  obtain ⟨v,h1,h2⟩:=S.sl i b d h;refine ⟨v,h1,?_⟩;cases b with
  | true=>exact absurd h (no i d)
  | false =>
   refine Dn.same (λa o ha=>?_) h2;obtain ⟨g1,g2⟩:=P5 ha;have:a≠acc:=λz=>g2 (.inr (by rw[z];exact hd));exact L8 (by rw[B4 this];exact g1) g2
 nd:=S.nd
 dj:=S.dj
 fr:=λi a h=>by
  obtain ⟨g1,g2,us,g3⟩:=S.fr i a h;by_cases z:a=acc
  ·subst z;exact ⟨g1,g2,Mu.lst B7⟩
  ·exact ⟨g1,g2,us,by rw[B4 z];exact g3⟩
 zf:=λa h=>h.elim
theorem In.emit {He:Hp} {k:Kd} (I:In K Hs Hm H0 ν acc O U H es) (e:A8 H H') (r:Y6 K Z0 ν H H' k v d) (hk:(if flat d=true then Kd.own [] else k).isOld=true) (b:Bool) (hb:b=true->(if flat d=true then Kd.own [] else k)=.own []) :
  ∃ us,H' acc=some (.lst us)/\us.length=es.length/\In K Hs Hm H0 ν acc O U (E5 H' acc (.lst (us++[v]))) (es++[(d,b)]):=by
 have I':=I.same e;obtain ⟨us,h1,h2,h3⟩:=I'.ac;have hl:=I'.st.hl;have r':Y6 K Z0 ν H H' (if flat d=true then Kd.own [] else k) v d:=by
  split
  ·exact Y6.flat r.den ‹_› hl _
  ·exact r
 generalize (if flat d=true then Kd.own [] else k)=k' at hk hb r';refine ⟨us,h1,by rw[h2.length,qk],I'.st.updH I'.hd I'.no,I'.sm.put I'.nm,I'.nm,I'.hs,λa h=>?_,I'.hd,I'.no,us++[v],B7,?_,λq=>?_⟩
 ·by_cases z:a=acc
  ·subst z;rw[B7] at h;cases h
  ·rw[B4 z] at h;exact I'.sh a h
 ·rw[map_append];have ho:=r'.old hl I.st.hl hk;have all:Dns K (S4 (Hd Z0 ν) H') (us++[v]) (es.map (·.1)++[d]):=h2.append (.cons ho .nil);refine Dns.same (λa o ha=>?_) all;obtain ⟨g1,g2⟩:=P5 ha;have:a≠acc:=λz=>g2 (.inr (by rw[z];exact I'.hd));exact L8 (by rw[B4 this];exact g1) g2
 ·rw[List.all_append,zb] at q;obtain ⟨q1,q2⟩:=q;have hb':=hb (by simpa using q2);subst hb';obtain ⟨ms,g1,g2,g3⟩:=h3 q1;obtain ⟨ns,k1,k2,k3⟩:=r';have frn:∀ a∈ns,H a=none:=λa ha=>by
   rcases k3 a ha with z|⟨j,z,_⟩
   ·exact z
   ·cases z
  obtain ⟨us0,_,_,h30⟩:=I.ac;obtain ⟨ms0,g10,g20,g30⟩:=h30 q1;refine ⟨ms0++ns,?_,nodup_append.mpr ⟨g20,k2,λx hx y hy e'=>?_⟩,λa ha=>?_⟩
  ·have hu:us0=us:=by
    obtain ⟨us1,z1,_⟩:=I.ac;have z2:=e _ _ z1;rw[h1] at z2;cases z2;rename_i hh _;have:H acc=some (.lst us0):=by assumption
    rw[z1] at this;cases this;rfl
   subst hu;rw[map_append];have hacc:∀ a∈ms0++ns,a≠acc:=λa ha z=>by
    obtain ⟨o,ho⟩:=I.hs;rcases zm.mp ha with ha|ha
    ·have:=g30 a ha;rw[z,ho] at this;cases this
    ·have:=I.sh a (frn a ha);rw[z,ho] at this;cases this
   refine (B32 k1 (g10.same e)).kept ⟨λa ha=>B4 (hacc a ha),λa o ha hn=>?_⟩;have:a≠acc:=λz=>by rw[z,h1] at ha;cases ha;cases (show true=false from hn)
   rw[B4 this];exact ha
  ·subst e';obtain ⟨ws,z⟩:=g10.there x hx;rw[frn x hy] at z;cases z
  ·rcases zm.mp ha with ha|ha
   ·exact g30 a ha
   ·exact I.sh a (frn a ha)
end
def go (f:D->R0->(R0->Prop)->Prop):List D->R0->(R0->Prop)->Prop
 | [],es,Q=>Q es
 | d::r,es,Q=>f d es λes'=>go f r es' Q
def LB (K:W.Frag) (acc:Addr) (T:List Nat) (tb:TB):TS:=λEn U H=>∃ Hs Hm H0 ν O es Qd,In K Hs Hm H0 ν acc O U H es/\tb O es Qd/\∀ es' O' U' H',Qd es'->In K Hs Hm H0 ν acc O' U' H' es'->Agr T O O'->En.nx U' H'
def LG (K:W.Frag) (T:List Nat) (bnd:TGD):TG:=λv U H Q=>∃ H0 ν O d Qd,D2 K Z0 H0 ν O U H/\Dn K (S4 (Hd Z0 ν) H) v d/\bnd d O Qd/\∀ O' U',Qd O'->D2 K Z0 H0 ν O' U' H->Agr T O O'->(X7 O->X7 O')->Q U' H
structure DB (Y:Cx) (K:W.Frag) (elt:Expr) (gens:List Comprehension) (scope:Scope) (pos:Pos) (d:Nat) (acc:Addr) (T:List Nat) (tb:TB):Prop where
 q:QB Y elt gens scope pos d acc (LB K acc T tb)
structure DTs (Y:Cx) (K:W.Frag) (ifs:List Expr) (t:TDT):Prop where
 q:QTs Y ifs (LT K E0 t)
theorem D0p {e:Expr} {g g':TG} (h:QG X e g) (i:∀ v U H Q,g' v U H Q->g v U H Q):QG X e g':=⟨λpins s U H x u Q I r w=>h.h pins s U H x u Q I r (i x U H Q w)⟩
theorem C0j {Y:Cx} {elt:Expr} {gens:List Comprehension} {pos:Pos} {d:Nat} {t t':TS} (h:QB Y elt gens scope pos d acc t) (i:∀ En U H,t' En U H->t En U H):QB Y elt gens scope pos d acc t':=⟨λpins s U H D I w=>h.h pins s U H D I (i D U H w)⟩
theorem DG.lift {bnd:TGD} (h:DG X K tg T bnd):QG X tg (LG K T bnd):=by
 obtain ⟨g,q,o⟩:=h.ex;refine D0p q λv U H Q w=>?_;obtain ⟨H0,ν,O,d,Qd,S,h1,h2,h3⟩:=w;exact o H0 ν O U H v d Qd Q S h1 h2 h3
def C9v:TDT:=λ_ Q _=>Q true
def A54:Kd->Bool
 | .own []=>true
 | _=>false
def eff (d:D) (k:Kd):Kd:=if flat d=true then Kd.own [] else k
def C9i (te:TD):TB:=λO es Q=>te O (λd k=>es.length < 1000000/\(eff d k).isOld=true/\Q (es++[(d,A54 (eff d k))])) Xf
def D6k (ti:TDI) (T:List Nat) (bnd:TGD) (tif:TDT) (tb:TB):TB:=λO es Q=>ti O (λds b=>b=true/\go (λd es Q'=>bnd d (E9 O T) λO'=>tif O' (λc=>if c=true then tb O' es Q' else Q' es) Xf) ds es Q) Xf
section
variable {Y:Cx} {K:W.Frag} {pos:Pos} {elt:Expr} {gens:List Comprehension} {scope:Scope} {dep:Nat} {acc:Addr}
theorem E3:DTs Y K [] C9v:=⟨⟨λpins s U H Q I h=>A6s.h pins s U H Q I (by
 sleep 0;exact q _ _ h1 (A8.refl H))⟩⟩
theorem A3z {c:Expr} {t:TDT} (h:DT Y K E0 c t):DTs Y K [c] t:=⟨B3j h.q⟩
theorem D5 (hg:gens[dep+1]?=none) (hx:Y.xe=λ_ _=>False) (he:DE Y K E0 elt te):DB Y K elt gens scope pos dep acc [] (C9i te):=⟨C0j (A3y hg hx he.q) λEn U H h=>by
 obtain ⟨Hs,Hm,H0,ν,O,es,Qd,I,h1,q⟩:=h;refine ⟨H0,ν,O,_,_,I.st,h1,λd k v H' g1 g2 g3=>?_,λC H' z _=>z.elim⟩;obtain ⟨g0,g4,g5⟩:=g1;obtain ⟨us,k1,k2,I'⟩:=I.emit (He:=H) g2 g3 g4 (A54 (eff d k)) (λz=>by
  change eff d k=_;generalize eff d k=k' at z;unfold A54 at z;split at z
  ·rfl
  ·cases z)
 exact ⟨us,k1,by rw[k2];exact qv g0 A2a,q _ _ _ _ g5 I' ⟨rfl,λ_ _=>rfl⟩⟩⟩
variable {O:G2} {U:L2.St} {es:R0}
theorem A76 (h:X7 O):X7 (E9 O T):=λi d z=>h i d (A0s T z).2
theorem D2.agr (S:D2 K Z0 H0 ν O' U H) (A:Agr T O O'):D2 K Z0 H0 ν (E9 O T) U H :=
 ⟨S.sm,by rw[W8,S.len,A.1],λi b d h=>by
  obtain ⟨h1,h2⟩:=A0s T h;exact S.sl i b d (by rw[A.2 i h1];exact h2),S.nd,S.dj,S.fr,S.zf⟩
theorem Agr.drop:Agr T O (E9 O T):=by
 refine ⟨W8 T O,λi hi=>?_⟩
 induction T generalizing O with
 | nil=>rfl
 | cons j r ih =>
  rw[zn,not_or] at hi;show (E9 (O.set j none) r)[i]?=_;rw[ih hi.2,List.getElem?_set_ne (Ne.symm hi.1)]
theorem Agr.same {O'':G2} (h:Agr T O O') (g:Agr T O' O''):Agr T O O'':=⟨g.1.trans h.1,λi hi=>by rw[g.2 i hi,h.2 i hi]⟩
theorem Agr.less (h:Agr T O O') (s:∀ i∈T,i∈Ui):Agr Ui O O':=⟨h.1,λi hi=>h.2 i λz=>hi (s i z)⟩
theorem In.low (I:In K Hs Hm H1 ν acc O U H es) (e:A8 H0 H1):In K Hs Hm H0 ν acc O U H es:=⟨I.st.low e,I.sm,I.nm,I.hs,I.sh,I.hd,I.no,I.ac⟩
theorem In.high (I:In K Hs Hm H0 ν acc O U H es):In K Hs Hm (S4 (Hd Z0 ν) H) ν acc O U H es:=⟨I.st.high,I.sm,I.nm,I.hs,I.sh,I.hd,I.no,I.ac⟩
theorem In.agr (I:In K Hs Hm H0 ν acc O' U H es) (A:Agr T O O') (n:X7 O):In K Hs Hm H0 ν acc (E9 O T) U H es:=I.ren (I.st.agr A) (A76 n)
theorem B79 {J:It} {ds:List D} {bnd:TGD} {tb:TB} {Qd:R0->Prop} (I:In K Hs Hm H0 ν acc O U H es) (it:B34 K F0 J ds) (hf:A8 F0 H0) (hT:∀ i∈T,i∈T++Tb)
  (h:go (λd es Q'=>bnd d (E9 O (T++Tb)) λO'=>tif O' (λc=>if c=true then tb O' es Q' else Q' es) Xf) ds es Qd)
  (q:∀ es' O' U' H',Qd es'->In K Hs Hm H0 ν acc O' U' H' es'->Agr (T++Tb) O O'->En.nx U' H') :
  A45 J (LG K T bnd) (B2o (LT K E0 tif) (LB K acc Tb tb)) En U H:=by
 refine ⟨λi m U H=>m=ds.length - i/\i<=ds.length/\∃ es,In K Hs Hm H0 ν acc (E9 O (T++Tb)) U H es/\go (λd es Q'=>bnd d (E9 O (T++Tb)) λO'=>tif O' (λc=>if c=true then tb O' es Q' else Q' es) Xf) (ds.drop i) es Qd,
  ⟨ds.length,by simp,jb _,es,I.ren (I.st.agr ⟨rfl,λ_ _=>rfl⟩) (A76 I.no),by simpa using h⟩,?_⟩
 rintro i m σ2 H2 ⟨rfl,hi,es2,I2,w2⟩;obtain ⟨i1,i2⟩:=it (Hd Z0 ν) H2 I2.st.hl (hf.trans I2.st.base);by_cases hlt:i < ds.length
 ·obtain ⟨j1,j2⟩:=i2 i ds[i] (zd hlt);rw[List.drop_eq_getElem_cons hlt] at w2;have back:∀ es3 ρ3 σ3 H3,go (λd es Q'=>bnd d (E9 O (T++Tb)) λO'=>tif O' (λc=>if c=true then tb O' es Q' else Q' es) Xf) (ds.drop (i+1)) es3 Qd->In K Hs Hm H0 ν acc ρ3 σ3 H3 es3->Agr (T++Tb) (E9 O (T++Tb)) ρ3 ->
    ∃ es,In K Hs Hm H0 ν acc (E9 O (T++Tb)) σ3 H3 es/\go (λd es Q'=>bnd d (E9 O (T++Tb)) λO'=>tif O' (λc=>if c=true then tb O' es Q' else Q' es) Xf) (ds.drop (i+1)) es Qd:=λes3 ρ3 σ3 H3 g3 I3 A3=>⟨es3,I3.agr (Agr.same Agr.drop A3) I.no,g3⟩
  refine .inr ⟨j1,λU' H'=>∃ es,In K Hs Hm H0 ν acc (E9 O (T++Tb)) U' H' es/\go (λd es Q'=>bnd d (E9 O (T++Tb)) λO'=>tif O' (λc=>if c=true then tb O' es Q' else Q' es) Xf) (ds.drop (i+1)) es Qd,λU' H' ⟨es',a,b⟩=>⟨_,by omega,rfl,hlt,es',a,b⟩,λy H' hy=>?_⟩;obtain ⟨k1,k2⟩:=j2 y H' hy;refine ⟨H0,ν,_,_,_,(I2.same k1).st,k2,w2,λρ3 σ3 b3 S3 A3 n3=>?_⟩;have I3:=(I2.same k1).ren S3 (n3 I2.no);have A3':Agr (T++Tb) (E9 O (T++Tb)) ρ3:=A3.less hT;refine ⟨H0,ν,ρ3,_,_,S3,b3,λc H4 g4 e4=>?_,λC H' z _=>z.elim⟩;cases c with
  | true =>
   rw[qr rfl] at g4 ⊢;exact ⟨Hs,Hm,H0,ν,ρ3,es2,_,I3.same e4,g4,λes5 ρ5 σ5 H5 g5 I5 A5=>back es5 ρ5 σ5 H5 g5 I5 (Agr.same A3' (A5.less λi hi=>qz _ hi))⟩
  | false =>
   rw[qs qw] at g4 ⊢;exact back es2 ρ3 σ3 H4 g4 (I3.same e4) A3'
 ·have e:i=ds.length:=by omega
  subst e;rw[List.drop_length] at w2;exact .inl ⟨i1,q es2 _ σ2 H2 w2 I2 Agr.drop⟩
theorem C80 {ti:TDI} {bnd:TGD} {tb:TB} (hgd:gens[dep+1]?=some ⟨tg,iter,ifs,0⟩) (hx:Y.xe=λ_ _=>False) (hc:Y.calm=true) (hs:∀ x,foldedSetIterable iter Y.env x=pure x) (hi:DI Y K E0 tg iter ti) (hg:DG Y K tg T bnd) (ht:DTs Y K ifs tif) (hb:DB Y K elt gens scope pos (dep+1) acc Tb tb) :
  DB Y K elt gens scope pos dep acc (T++Tb) (D6k ti (T++Tb) bnd tif tb):=⟨C0j (C8g hgd hx hc hs hi.q hg.lift ht.q hb.q) λEn U H h=>by
 obtain ⟨Hs,Hm,H0,ν,O,es,Qd,I,h1,q⟩:=h;refine ⟨H0,ν,O,_,_,I.st,h1,λds b J H1 g1 e1 it=>?_,λC H' z _=>z.elim⟩;obtain ⟨rfl,g1⟩:=g1;have I1:=I.same e1;exact B79 I1.high it (A8.refl _) (λi hi=>za _ hi) g1 λes' O' U' H' a I' A=>q es' O' U' H' a (I'.low I1.st.base) A⟩
end
def B2y (own:List Str) (cap:List (Str × Nat)) (O:G2):G2:=own.map (λ_=>none)++cap.map λp=>((O[p.2]?).join).map λy=>(false,y.2)
def A91 (cap:List (Str × Nat)) (O:G2):Bool:=cap.all λp=>match (O[p.2]?).join with
 | some (true,_)=>false
 | _=>true
def dLC (ti:TDI) (T:List Nat) (bnd:TGD) (tif:TDT) (tb:TB) (own:List Str) (cap:List (Str × Nat)):TD:=λO Q Xd=>ti O (λds b =>
 go (λd es Q'=>bnd d (E9 (B2y own cap O) T) λO'=>tif O' (λc=>if c=true then tb O' es Q' else Q' es) Xf) ds [] λes=>Q (.list (es.map (·.1))) (if es.all (·.2)=true then .own [] else if (b&&A91 cap O)=true then .old else .mix)) Xd
section
variable {K:W.Frag}
variable {O:G2} {U:L2.St}
theorem B2x {own:List Str} {i:Nat} {b:Bool} {d:D} (h:(B2y own cap O)[i]?=some (some (b,d))):b=false/\∃ p c,cap[i - own.length]?=some p/\own.length<=i/\O[p.2]?=some (some (c,d)):=by
 unfold B2y at h;by_cases hi:i < own.length
 ·rw[List.getElem?_append_left (by simpa using hi),qp] at h;cases e:own[i]? with
  | none=>rw[e] at h;cases h
  | some _=>rw[e] at h;cases h
 ·rw[List.getElem?_append_right (by simpa using Nat.le_of_not_lt hi),qk,qp] at h;cases e:cap[i - own.length]? with
  | none=>rw[e] at h;cases h
  | some p =>
   rw[e] at h;simp only[Option.map_some,Option.some.injEq] at h;cases e2:O[p.2]? with
   | none=>rw[e2] at h;cases h
   | some x =>
    rw[e2] at h;cases x with
    | none=>cases h
    | some y=>cases h;exact ⟨rfl,p,y.1,rfl,Nat.le_of_not_lt hi,e2⟩
theorem C0k {own:List Str} {i:Nat} {p:Str × Nat} {v:V} (h:cap[i - own.length]?=some p) (hi:own.length<=i) (hv:U[p.2]?=some (some v)):(A8r own cap U)[i]?=some (some v):=by
 unfold A8r;rw[List.getElem?_append_right (by simpa using hi),qk,qp,h];simp[hv]
theorem C7k {own:List Str} :X7 (B2y own cap O):=λi d h=>by
 have:=(B2x h).1;cases this
def N6 (ok:Bool) (acc:Addr) (ν:Nat->List Addr):Nat->List Addr
 | 0=>[acc]
 | i+1=>if ok=true then ν i else []
theorem W7 {ok:Bool} {i:Nat}:N6 ok acc ν (i+1)=if ok=true then ν i else []:=rfl
theorem C1i {own:List Str} (S:D2 K Z0 H0 ν O U H1) (ha:H1 acc=none) (ok:Bool) (hok:ok=true->A91 cap O=true) :
  In K (E5 H1 acc (.lst [])) H1 (fz ok ν H1) (N6 ok acc ν) acc (B2y own cap O) (A8r own cap U) (E5 H1 acc (.lst [])) []:=by
 have sm:A8 H1 (E5 H1 acc (.lst [])):=A8.new ha;have fzs:A8 (fz ok ν H1) H1:=by unfold fz;split;exact L3;exact A8.refl _
 have nacc:∀ i,acc∉ν i:=λi z=>by obtain ⟨_,_,us,q⟩:=S.fr i acc z;rw[ha] at q;cases q
 refine ⟨⟨fzs.trans sm,?_,?_,?_,?_,?_,λa z=>z.elim⟩,sm,ha,⟨_,B7⟩,λa h=>h,⟨0,by simp[N6]⟩,C7k,[],B7,.nil,λ_=>⟨[],.nil,nodup_nil,λ_ z=>by cases z⟩⟩
 ·unfold A8r B2y;simp
 ·intro i b d h;obtain ⟨rfl,p,c,h1,h2,h3⟩:=B2x h;obtain ⟨v,g1,g2⟩:=S.sl p.2 c d h3;refine ⟨v,C0k h1 h2 g1,?_⟩;cases ok with
  | true =>
   have hc:=hok rfl;unfold A91 at hc;have hc:=all_eq_true.mp hc p (zx h1);rw[h3] at hc;cases c with
   | true=>cases hc
   | false =>
    refine Dn.same (λa o q=>?_) (show Dn K (S4 (Hd Z0 ν) H1) v d from g2);obtain ⟨q1,q2⟩:=P5 q;refine L8 (sm _ _ q1) λz=>?_;rcases z with z|⟨j,z⟩
    ·exact z
    ·cases j with
     | zero=>rw[show N6 true acc ν 0=[acc] from rfl,zc] at z;rw[z,ha] at q1;cases q1
     | succ j=>exact q2 (.inr ⟨j,z⟩)
  | false =>
   have gd:Dn K H1 v d:=by
    cases c with
    | true=>exact Ow.den g2
    | false=>exact Dn.same L3 g2
   refine Dn.same (λa o q=>?_) gd;refine L8 (sm _ _ q) λz=>?_;rcases z with z|⟨j,z⟩
   ·exact z
   ·cases j with
    | zero=>rw[show N6 false acc ν 0=[acc] from rfl,zc] at z;rw[z,ha] at q;cases q
    | succ j=>cases z
 ·intro i;cases i with
  | zero=>simp[N6]
  | succ i=>rw[W7];split;exact S.nd i;exact nodup_nil
 ·intro i j a hi hj;cases i with
  | zero =>
   have e:a=acc:=by simpa [N6] using hi
   cases j with
   | zero=>rfl
   | succ j =>
    rw[W7] at hj;split at hj
    ·rw[e] at hj;exact absurd hj (nacc j)
    ·cases hj
  | succ i =>
   rw[W7] at hi;split at hi
   case isFalse=>cases hi
   case isTrue =>
    cases j with
    | zero =>
     have e:a=acc:=by simpa [N6] using hj
     rw[e] at hi;exact absurd hi (nacc i)
    | succ j =>
     rename_i hk;rw[W7,qr hk] at hj;rw[S.dj i j a hi hj]
 ·intro i a h;cases i with
  | zero =>
   have e:a=acc:=by simpa [N6] using h
   subst e;exact ⟨fzs.gone ha,λz=>z,Mu.lst B7⟩
  | succ i =>
   rw[W7] at h;split at h
   case isFalse=>cases h
   case isTrue hk =>
    obtain ⟨_,_,us,q⟩:=S.fr i a h;refine ⟨?_,λz=>z,us,sm _ _ q⟩;unfold fz;rw[qr hk];unfold S4;rw[qr (.inr ⟨i,h⟩)]
theorem D3t {Hq:Hp} {ρr:G2} {σr:L2.St} {es:R0} {ok:Bool} (S:D2 K Z0 H0 ν O U Hs) (e1:A8 Hs H1) (ha:H1 acc=none) (I:In K (E5 H1 acc (.lst [])) H1 Hq (N6 ok acc ν) acc ρr σr H' es) :
  Y6 K Z0 ν Hs H' (if es.all (·.2)=true then .own [] else if ok=true then .old else .mix) (.ref acc) (.list (es.map (·.1))):=by
 obtain ⟨us,h1,h2,h3⟩:=I.ac;split
 ·obtain ⟨ms,g1,g2,g3⟩:=h3 ‹_›;refine ⟨acc::ms,.lst h1 g1,nodup_cons.mpr ⟨λz=>?_,g2⟩,λa hm=>.inl ?_⟩
  ·have:=g3 acc z;rw[B7] at this;cases this
  ·rcases zn.mp hm with rfl|hm
   ·exact e1.gone ha
   ·have:=g3 a hm;by_cases z:a=acc
    ·subst z;exact e1.gone ha
    ·rw[B4 z] at this;exact e1.gone this
 ·split
  case isTrue hk =>
   have hz:¬ Hd Z0 ν acc:=λz=>by obtain ⟨us,q⟩:=S.hl acc z;rw[e1.gone ha] at q;cases q
   refine .lst (L8 h1 hz) (Dns.same (A1s λa z=>?_) h2);rcases z with z|⟨j,z⟩
   ·exact z.elim
   ·exact .inr ⟨j+1,by rw[W7,qr hk];exact z⟩
  case isFalse=>exact .lst h1 (Dns.same L3 h2)
end
section
variable {X:Cx} {K:W.Frag} {E:XK} {pos:Pos} {elt tg iter:Expr} {ifs:List Expr} {G4:List Comprehension} {scope:Scope} {ti:TDI} {T Tb:List Nat} {bnd:TGD} {tif:TDT} {tb:TB}
theorem C9z {own:List Str} :∀ U H Q,LE K E (dLC ti (T++Tb) bnd tif tb own cap) U H Q->tLC (LI K E ti) (LG K T bnd) (LT K E0 tif) (λacc=>LB K acc Tb tb) own cap U H Q:=λU H Q h=>by
 sleep 0;refine ⟨H0,ν,O,_,Xd,S,h1,λds b J H1 g1 e1 it=>?_,x⟩;intro acc ha;obtain ⟨ok,hk⟩:∃ ok,ok=(b&&A91 cap O):=⟨_,rfl⟩;have I:=C1i (own:=own) (S.same e1) ha ok (λz=>by rw[hk,zb] at z;exact z.2);have hf:A8 (fz b ν H1) (fz ok ν H1):=by
  cases ok with
  | true =>
   have:b=true:=by rw[Eq.comm,zb] at hk;exact hk.1
   rw[this];exact A8.refl _
  | false=>unfold fz;split;exact L3;exact A8.refl _
 refine B79 I it hf (λi hi=>za _ hi) g1 λes' O' U' H' a I' A=>?_;rw[<-hk] at a;exact q _ _ _ H' a (e1.trans I'.sm) (D3t S e1 ha I')
theorem L4 (own:List Str) (cap:List (Str × Nat)) (hc:X.calm=true) (L:C7 X scope own cap) (hi:DI X K E tg iter ti)
  (hin:∀ (s₃:Shared) (H₃:Hp) (fp:List Addr) (acc:Addr),DG (X.inn scope (L2.N6 own cap) s₃ H₃ fp) K tg T bnd/\DTs (X.inn scope (L2.N6 own cap) s₃ H₃ fp) K ifs tif/\DB (X.inn scope (L2.N6 own cap) s₃ H₃ fp) K elt (⟨tg,iter,ifs,0⟩::G4) scope pos 0 acc Tb tb)
  (hs:∀ x,foldedSetIterable iter X.env x=pure x:=by intro _;rfl):DE X K E (.ListComp elt (⟨tg,iter,ifs,0⟩::G4) scope pos) (dLC ti (T++Tb) bnd tif tb own cap) :=
 ⟨L6 (B0s own cap hc L hi.q (λa b c d=>⟨(hin a b c d).1.lift,(hin a b c d).2.1.q,(hin a b c d).2.2.q⟩) hs) C9z⟩
theorem A29 {i:Nat} {y:Str} (own:List Str) (cap:List (Str × Nat)) (hN:X.N.Nodup) (hyi:X.N[i]?=some y) (hy:X.env.scope.names.lookup y=some .local) (hc:X.calm=true) (L:C7 X scope own cap) (hi:DI X K E tg iter ti)
  (hin:∀ (s₃:Shared) (H₃:Hp) (fp:List Addr) (acc:Addr),DG (X.inn scope (L2.N6 own cap) s₃ H₃ fp) K tg T bnd/\DTs (X.inn scope (L2.N6 own cap) s₃ H₃ fp) K ifs tif/\DB (X.inn scope (L2.N6 own cap) s₃ H₃ fp) K elt (⟨tg,iter,ifs,0⟩::G4) scope pos 0 acc Tb tb)
  (hsw:swapsWith (.ListComp elt (⟨tg,iter,ifs,0⟩::G4) scope pos) (some (.Name y py)) spos.line X.env=pure true:=by rfl) (hs:∀ x,foldedSetIterable iter X.env x=pure x:=by intro _;rfl) :
  DS X K E (.Assign [.Name y py] (.ListComp elt (⟨tg,iter,ifs,0⟩::G4) scope pos) spos) (D12 i (dLC ti (T++Tb) bnd tif tb own cap)) :=
 ⟨N9 (B96 own cap hN hyi hy hc L hi.q (λa b c d=>⟨(hin a b c d).1.lift,(hin a b c d).2.1.q,(hin a b c d).2.2.q⟩) hsw hs) λEn U H h=>by
  sleep 1;refine C9z U H _ ⟨H0,ν,O,_,Xd,S,h1,λd k v H' g1 g2 g3=>?_,x⟩;obtain ⟨ν',S'⟩:=S.setK g2 g3 i;exact ok.nx _ _ _ _ g1 S'⟩
end
section
variable {K:W.Frag} {H0 H H':Hp} {ν:Nat->List Addr} {O:G2} {U:L2.St} {v:V} {d:D}
theorem D2.mut (S:D2 K Z0 H0 ν O U H) (s:List Nat) (i:Nat) {ms:List Addr} (hi:U[i]?=some (some v)) (hr:i < O.length) (k:∀ a o,H a=some o->a∉ν i->H' a=some o) (h:Ow K H' v d ms) (nd:ms.Nodup) (fr:∀ a∈ms,a∈ν i\/H a=none\/∃ j∈s,a∈ν j) (hs:i∉s)
  (gone:∀ j∈s,∀ a∈ν j,Mu H' a) :
  D2 K Z0 H0 (λj=>if j=i then ms else if j∈s then [] else ν j) ((E9 O s).set i (some (true,d))) U H' where
 sm:=λa o ha=>k a o (S.sm a o ha) λz=>by rw[(S.fr i a z).1] at ha;cases ha
 len:=by rw[length_set,W8];exact S.len
 sl:=λj b c hj=>by
  rcases A2r hj with ⟨rfl,h1,h2⟩|⟨h1,h2⟩
  ·cases h1;exact ⟨v,hi,by rw[qr rfl];rw[qr rfl];exact h⟩
  ·obtain ⟨h3,h4⟩:=A0s s h2;obtain ⟨u,q1,q2⟩:=S.sl j b c h4;refine ⟨u,q1,?_⟩;cases b with
   | true =>
    rw[qr rfl,qs h1,qs h3];have q2:Ow K H u c (ν j):=q2;refine q2.kept ⟨λa ha=>?_,λa o ha hn=>k a o ha λz=>?_⟩
    ·obtain ⟨us,q⟩:=q2.there a ha;rw[k a _ q λz=>h1 (S.dj j i a ha z),q]
    ·exact (S.fr i a z).2.2.no ha hn
   | false =>
    refine Dn.same (λa o ha=>?_) q2;obtain ⟨g1,g2⟩:=P5 ha;refine L8 (k a o g1 λz=>g2 (.inr ⟨i,z⟩)) λz=>?_;rcases z with z|⟨l,z⟩
    ·exact z
    ·have z:a∈(if l=i then ms else if l∈s then [] else ν l):=z;split at z
     ·rcases fr a z with z|z|⟨l,_,z⟩
      ·exact g2 (.inr ⟨i,z⟩)
      ·rw[g1] at z;cases z
      ·exact g2 (.inr ⟨l,z⟩)
     ·split at z
      ·cases z
      ·exact g2 (.inr ⟨l,z⟩)
 nd:=λj=>by
  split
  ·exact nd
  ·split
   ·exact nodup_nil
   ·exact S.nd j
 dj:=λj l a hj hl=>by
  have key:∀ m,m≠i->m∉s->a∈ν m->a∉ms:=λm hm hms ha hz=>by
   rcases fr a hz with z|z|⟨n,hn,z⟩
   ·exact hm (S.dj m i a ha z)
   ·obtain ⟨_,_,us,q⟩:=S.fr m a ha;rw[z] at q;cases q
   ·rw[S.dj m n a ha z] at hms;exact hms hn
  split at hj
  ·split at hl
   ·lia
   ·split at hl
    ·cases hl
    ·exact absurd hj (key l ‹_› ‹_› hl)
  ·split at hj
   ·cases hj
   ·split at hl
    ·exact absurd hl (key j ‹_› ‹_› hj)
    ·split at hl
     ·cases hl
     ·exact S.dj j l a hj hl
 fr:=λj a ha=>by
  split at ha
  ·have ht:=h.there a ha;rcases fr a ha with z|z|⟨m,_,z⟩
   ·exact ⟨(S.fr i a z).1,(λq=>q),ht⟩
   ·exact ⟨S.sm.gone z,(λq=>q),ht⟩
   ·exact ⟨(S.fr m a z).1,(λq=>q),ht⟩
  ·split at ha
   ·cases ha
   ·obtain ⟨q1,q2,us,q3⟩:=S.fr j a ha;exact ⟨q1,q2,us,k a _ q3 λz=>absurd (S.dj j i a ha z) ‹_›⟩
 zf:=λa h=>h.elim
theorem B0i {k:Kd} {s:List Nat} (e:eff d k=.own s) (hl:∀ a,Hd Z0 ν a->Mu H a) (h:Y6 K Z0 ν Hs H k v d):∃ ms,Ow K H v d ms/\ms.Nodup/\∀ a∈ms,Hs a=none\/∃ j∈s,a∈ν j:=by
 have h':Y6 K Z0 ν Hs H (eff d k) v d:=by
  unfold eff;split
  ·exact Y6.flat h.den ‹_› hl _
  ·exact h
 rw[e] at h';exact h'
end
section
variable {X:Cx} {K:W.Frag} {E:XK} {pos apos cpos:Pos} {e:Expr} {te:TD}
def D7l (i:Nat) (te:TD):N5:=λDd O Xd=>∃ ds,O[i]?=some (some (true,.list ds))/\ds.length < 1000000/\te O (λd k=>match eff d k with
 | .own s=>i∉s/\Dd.nx ((E9 O s).set i (some (true,.list (ds++[d]))))
 | _=>False) Xd
theorem A0k {O:G2} {U:L2.St} {i:Nat} {ds:List D} (S:D2 K Z0 H0 ν O U H) (h:O[i]?=some (some (true,.list ds))):∃ a us ns,U[i]?=some (some (.ref a))/\H a=some (.lst us)/\Ows K H us ds ns/\ν i=a::ns/\a∉ns/\ns.Nodup:=by
 obtain ⟨v,h1,h2⟩:=S.sl i true _ h;have h2:Ow K H v (.list ds) (ν i):=h2;have hn:=S.nd i;generalize hv:ν i=n at h2 hn;cases h2 with
 | lst h r=>exact ⟨_,_,_,h1,h,r,rfl,(nodup_cons.mp hn).1,(nodup_cons.mp hn).2⟩
theorem A4y {α:Type} {l:List α} {i:Nat} {x:α} (h:l[i]?=some x):i < l.length:=(ql.mp h).1
theorem A39 (i:Nat) {x:Str} (hK:X.K=K) (ho:QE X (.Name x px) (B0v i)) (he:DE X K E e te) (hs:starEach [e] X.env=[(false,eval e X.env)]) (hbase:attributeBase (.Name x px) "append" X.env (eval (.Name x px) X.env)=eval (.Name x px) X.env) (hline:(apos.endLine==cpos.line)=true)
  (hsw:swapsWith (.Call (.Attribute (.Name x px) "append" apos) [e] [] cpos) none pos.line X.env=pure false:=by rfl):DS X K E (.Expr (.Call (.Attribute (.Name x px) "append" apos) [e] [] cpos) pos) (D7l i te):=⟨N9 (X4 (A5l K hK ho he.q hs hbase hline) hsw) λEn U H h=>by
 obtain ⟨H0,ν,O,Dd,Xd,S,⟨ds,h1,h2,h3⟩,ok,x⟩:=h;sleep 20;refine ⟨_,g1,tyl (E6.of g2),H0,ν,O,_,Xd,S,h3,λd k v H1 q1 e1 r1=>?_,x⟩;split at q1
 case h_2=>exact q1.elim
 case h_1 s es =>
  obtain ⟨ms,m1,m2,m3⟩:=B0i es (S.same e1).hl r1;have ha1:H1 a=some (.lst us):=e1 _ _ g2;have nm:∀ b∈ms,b∉ν i:=λb hb z=>by
   rcases m3 b hb with y|⟨j,hj,y⟩
   ·obtain ⟨_,_,us,w⟩:=S.fr i b z;rw[y] at w;cases w
   ·rw[S.dj i j b z y] at q1;exact q1.1 hj
  have ham:a∉ms:=λz=>nm a z (by rw[g4];exact qx);refine ⟨a,us,v,rfl,rfl,ha1,by rw[g3.den.length];exact qv h2 A2a,?_⟩;have S1:=S.same e1;refine ok.nx _ _ _ _ q1.2 (S.mut s i (ms:=a::(ns++ms)) (v:=.ref a) g1 (A4y h1) (λb o hb hn=>?_) ?_ ?_ ?_ q1.1 ?_)
  ·rw[B4 (λz=>hn (by rw[z,g4];exact qx))];exact e1 _ _ hb
  ·have kp:∀ l:List Addr,(∀ b∈l,b≠a)->A09 l H1 (E5 H1 a (.lst (us++[v]))):=λl hl=>⟨λb hb=>B4 (hl b hb),λb o hb hn=>by
    have:b≠a:=λz=>by rw[z,ha1] at hb;cases hb;cases (show true=false from hn)
    rw[B4 this];exact hb⟩
   have A:=(g3.same e1).kept (kp ns λb hb z=>g5 (z ▸ hb));have B:=m1.kept (kp ms λb hb z=>ham (z ▸ hb));exact .lst B7 (B32 B A)
  ·refine nodup_cons.mpr ⟨λz=>?_,nodup_append.mpr ⟨g6,m2,λy hy z hz e=>?_⟩⟩
   ·sleep 26
    ·exact g5 z
    ·exact ham z
   ·subst e;exact nm y hz (by rw[g4];exact qy _ hy)
  ·intro b hb;rcases zn.mp hb with rfl|hb
   ·exact .inl (by rw[g4];exact qx)
   ·rcases zm.mp hb with hb|hb
    ·exact .inl (by rw[g4];exact qy _ hb)
    ·rcases m3 b hb with y|y
     ·exact .inr (.inl y)
     ·exact .inr (.inr y)
  ·intro j hj b hb;obtain ⟨_,_,us',w⟩:=S1.fr j b hb;have:b≠a:=λz=>by
    have:=S.dj i j b (by rw[g4,z];exact qx) hb;rw[this] at q1;exact q1.1 hj
   exact ⟨us',by rw[B4 this];exact w⟩⟩
end
section
variable {K:W.Frag}
theorem V3:∀ {us:List V} {ds:List D} {ns:List Addr} {j:Nat} {c:D},Ows K H us ds ns->ds[j]?=some c->∃ n1 n2 n3 u,ns=n1++(n2++n3)/\us[j]?=some u/\Ow K H u c n2 /\
  (∀ H',A09 n1 H H'->A09 n3 H H'->∀ v d ms,Ow K H' v d ms->Ows K H' (us.set j v) (ds.set j d) (n1++(ms++n3)))/\∀ H',A09 n1 H H'->A09 n3 H H'->Ows K H' (us.eraseIdx j) (ds.eraseIdx j) (n1++n3)
 | _,_,_,0,c,.cons (ns:=n) (ms:=m) h r,e=>by
  simp at e;subst e;exact ⟨[],n,m,_,rfl,rfl,h,λH' _ k v d ms q=>by simpa using Ows.cons q (r.kept k),λH' _ k=>by simpa using r.kept k⟩
 | _,_,_,j+1,c,.cons (ns:=n) (ms:=m) h r,e=>by
  simp at e;obtain ⟨n1,n2,n3,u,e1,e2,e3,e4,e5⟩:=V3 r e;refine ⟨n++n1,n2,n3,u,by rw[e1];simp,by simpa using e2,e3,λH' k1 k3 v d ms q=>?_,λH' k1 k3=>?_⟩
  ·have:=Ows.cons (h.kept ⟨λa ha=>k1.1 a (za _ ha),k1.2⟩) (e4 H' ⟨λa ha=>k1.1 a (qz _ ha),k1.2⟩ k3 v d ms q);simpa using this
  ·have:=Ows.cons (h.kept ⟨λa ha=>k1.1 a (za _ ha),k1.2⟩) (e5 H' ⟨λa ha=>k1.1 a (qz _ ha),k1.2⟩ k3);simpa using this
variable {o:HO} {l ms ns:List Addr} {s:List Nat} {U:L2.St} {O:G2} {ds:List D} {us:List V} {j:Nat} {v:V} {d:D}
theorem A72 {b:Addr} {ow:HO} (e:A8 H H1) (hb:H b=some ow) (hl:∀ a∈l,(Mu H a)/\a≠b) (mb:muO ow=true:=by rfl):A09 l H (E5 H1 b o):=⟨λa ha=>by
 obtain ⟨⟨us,q⟩,z⟩:=hl a ha;rw[B4 z,q];exact e _ _ q,λa o' ha hn=>by
 have:a≠b:=λz=>by rw[z,hb] at ha;cases ha;rw[mb] at hn;cases hn
 rw[B4 this];exact e _ _ ha⟩
theorem A93 {b:Addr} {ow:HO} (hb:H1 b=some ow) (hl:∀ a∈l,a≠b) (mb:muO ow=true:=by rfl):A09 l H1 (E5 H1 b o):=⟨λa ha=>B4 (hl a ha),λa o' ha hn=>by
 have:a≠b:=λz=>by rw[z,hb] at ha;cases ha;rw[mb] at hn;cases hn
 rw[B4 this];exact ha⟩
theorem B67 {i:Nat} (S:D2 K Z0 H0 ν O U H) (m3:∀ b∈ms,H b=none\/∃ l∈s,b∈ν l) (hs:i∉s):∀ b∈ms,b∉ν i:=λb hb z=>by
 rcases m3 b hb with y|⟨j,hj,y⟩
 ·obtain ⟨_,_,us,w⟩:=S.fr i b z;rw[y] at w;cases w
 ·rw[S.dj i j b z y] at hs;exact hs hj
theorem B6k {i:Nat} (S:D2 K Z0 H0 ν O U H) (hs:i∉s) (e:A8 H H2) (ha:a∈ν i):∀ j∈s,∀ b∈ν j,Mu (E5 H2 a o) b:=λj hj b hb=>by
 obtain ⟨_,_,us',w⟩:=S.fr j b hb;have:b≠a:=λz=>by
  have:=S.dj i j b (by rw[z];exact ha) hb;rw[this] at hs;exact hs hj
 exact ⟨us',by rw[B4 this];exact e _ _ w⟩
theorem D2.put1 {i:Nat} {c:D} (S:D2 K Z0 H0 ν O U H) (h1:O[i]?=some (some (true,.list ds))) (g1:U[i]?=some (some (.ref a))) (g2:H a=some (.lst us)) (g3:Ows K H us ds ns) (g4:ν i=a::ns) (g5:a∉ns) (g6:ns.Nodup)
  (hj:ds[j]?=some c) (e1:A8 H H1) (m1:Ow K H1 v d ms) (m2:ms.Nodup) (m3:∀ b∈ms,H b=none\/∃ l∈s,b∈ν l) (hs:i∉s) (e2:A8 H1 H2) :
  ∃ ν',D2 K Z0 H0 ν' ((E9 O s).set i (some (true,.list (ds.set j d)))) U (E5 H2 a (.lst (us.set j v))):=by
 obtain ⟨n1,n2,n3,u,q1,q2,q3,q4,_⟩:=V3 g3 hj;have e:=e1.trans e2;have nm:=B67 S m3 hs;have ham:a∉ms:=λz=>nm a z (by rw[g4];exact qx);have inI:∀ b,b∈n1\/b∈n3->b∈ns:=λb hb=>by rw[q1];rcases hb with hb|hb<;>simp[hb]
 have nu:=g6;rw[q1,nodup_append,nodup_append] at nu;have k1:∀ l:List Addr,(∀ b∈l,b∈ns)->A09 l H (E5 H2 a (.lst (us.set j v))):=λl hl=>A72 e g2 λb hb=>⟨g3.there b (hl b hb),λz=>g5 (z ▸ hl b hb)⟩;have B:=(m1.same e2).kept (A93 (o:=.lst (us.set j v)) (e _ _ g2) λb hb z=>ham (z ▸ hb));refine ⟨_,S.mut s i (ms:=a::(n1++(ms++n3))) (v:=.ref a) g1 (A4y h1) (λb o hb hn=>?_) (.lst B7 (q4 _ (k1 n1 λb hb=>inI b (.inl hb)) (k1 n3 λb hb=>inI b (.inr hb)) v d ms B)) ?_ ?_ hs (B6k S hs e (by rw[g4];exact qx))⟩
 ·rw[B4 (λz=>hn (by rw[z,g4];exact qx))];exact e _ _ hb
 ·refine nodup_cons.mpr ⟨λz=>?_,nodup_append.mpr ⟨nu.1,nodup_append.mpr ⟨m2,nu.2.1.2.1,λx hx y hy z=>?_⟩,λx hx y hy z=>?_⟩⟩
  ·sleep 26
   ·exact g5 (inI a (.inl z))
   ·sleep 26
    ·exact ham z
    ·exact g5 (inI a (.inr z))
  ·subst z;exact nm x hx (by rw[g4];exact qy _ (inI x (.inr hy)))
  ·subst z;sleep 14
   ·exact nm x hy (by rw[g4];exact qy _ (inI x (.inl hx)))
   ·exact nu.2.2 x hx x (qz _ hy) rfl
 ·intro b hb;rcases zn.mp hb with rfl|hb
  ·exact .inl (by rw[g4];exact qx)
  ·rcases zm.mp hb with hb|hb
   ·exact .inl (by rw[g4];exact qy _ (inI b (.inl hb)))
   ·rcases zm.mp hb with hb|hb
    ·exact .inr (m3 b hb)
    ·exact .inl (by rw[g4];exact qy _ (inI b (.inr hb)))
theorem D2.put2 {i l:Nat} {es:List D} {c:D} (S:D2 K Z0 H0 ν O U H) (h1:O[i]?=some (some (true,.list ds))) (g1:U[i]?=some (some (.ref a))) (g2:H a=some (.lst us)) (g3:Ows K H us ds ns) (g4:ν i=a::ns) (g5:a∉ns) (g6:ns.Nodup)
  (hj:ds[j]?=some (.list es)) (hl:es[l]?=some c) (e1:A8 H H1) (m1:Ow K H1 v d ms) (m2:ms.Nodup) (m3:∀ b∈ms,H b=none\/∃ l∈s,b∈ν l) (hs:i∉s) (e2:A8 H1 H2) :
  ∃ b ws,us[j]?=some (.ref b)/\H b=some (.lst ws)/\ws.length=es.length/\∃ ν',D2 K Z0 H0 ν' ((E9 O s).set i (some (true,.list (ds.set j (.list (es.set l d)))))) U (E5 H2 b (.lst (ws.set l v))):=by
 obtain ⟨n1,n2,n3,u,q1,q2,q3,q4,_⟩:=V3 g3 hj;have e:=e1.trans e2;have nm:=B67 S m3 hs;have nu:=g6;rw[q1,nodup_append,nodup_append] at nu;cases q3 with
 | lst hb r =>
  rename_i b ws n2;obtain ⟨p1,p2,p3,u',r1,r2,r3,r4,_⟩:=V3 r hl;have nb:=nodup_cons.mp nu.2.1.1;have hbn:b∈ns:=by rw[q1];simp
  have inI:∀ y,y∈n1\/y∈n3\/y∈p1\/y∈p3->y∈ns:=λy hy=>by rw[q1,r1];rcases hy with hy|hy|hy|hy<;>simp[hy]
  have bne:∀ y,y∈n1\/y∈n3\/y∈p1\/y∈p3->y≠b:=λy hy z=>by
   subst z;rcases hy with hy|hy|hy|hy
   ·exact nu.2.2 y hy y (by simp) rfl
   ·exact nu.2.1.2.2 y (by simp) y hy rfl
   ·exact nb.1 (by rw[r1];simp[hy])
   ·exact nb.1 (by rw[r1];simp[hy])
  have hbm:b∉ms:=λz=>nm b z (by rw[g4];exact qy _ hbn);have hab:a≠b:=λz=>g5 (z ▸ hbn);have k1:∀ (w:List V) (l:List Addr),(∀ y∈l,y∈n1\/y∈n3\/y∈p1\/y∈p3)->A09 l H (E5 H2 b (.lst w)):=λw l hl=>A72 e hb λy hy=>⟨g3.there y (inI y (hl y hy)),bne y (hl y hy)⟩;have B:=(m1.same e2).kept (A93 (o:=.lst (ws.set l v)) (e _ _ hb) λy hy z=>hbm (z ▸ hy));have C:Ow K (E5 H2 b (.lst (ws.set l v))) (.ref b) (.list (es.set l d)) (b::(p1++(ms++p3))):=.lst B7 (r4 _ (k1 _ p1 λy hy=>.inr (.inr (.inl hy))) (k1 _ p3 λy hy=>.inr (.inr (.inr hy))) v d ms B);have us':us.set j (.ref b)=us:=by
   apply List.ext_getElem?;intro m;by_cases z:m=j
   ·subst z;rw[List.getElem?_set_self (A4y q2),q2]
   ·rw[List.getElem?_set_ne (Ne.symm z)]
  have A:=q4 _ (k1 (ws.set l v) n1 λy hy=>.inl hy) (k1 _ n3 λy hy=>.inr (.inl hy)) (.ref b) _ _ C;rw[us'] at A;have np:=nb.2;rw[r1,nodup_append,nodup_append] at np;refine ⟨b,ws,q2,hb,r.den.length,_,S.mut s i (ms:=a::(n1++((b::(p1++(ms++p3)))++n3))) (v:=.ref a) g1 (A4y h1) (λy o hy hn=>?_) (.lst (by rw[B4 hab];exact e _ _ g2) A) ?_ ?_ hs (B6k S hs e (by rw[g4];exact qy _ hbn))⟩
  ·rw[B4 (λz=>hn (by rw[z,g4];exact qy _ hbn))];exact e _ _ hy
  ·have inn:∀ y,y∈p1\/y∈p3->y∈n2:=λy hy=>by rw[r1];rcases hy with hy|hy<;>simp[hy]
   have out:∀ y∈ms,y∉ns:=λy hy z=>nm y hy (by rw[g4];exact qy _ z);have nin:(b::(p1++(ms++p3))).Nodup:=by
    refine nodup_cons.mpr ⟨λz=>?_,nodup_append.mpr ⟨np.1,nodup_append.mpr ⟨m2,np.2.1.2.1,λx hx y hy z=>?_⟩,λx hx y hy z=>?_⟩⟩
    ·sleep 26
     ·exact bne b (.inr (.inr (.inl z))) rfl
     ·sleep 26
      ·exact hbm z
      ·exact bne b (.inr (.inr (.inr z))) rfl
    ·subst z;exact out x hx (inI x (.inr (.inr (.inr hy))))
    ·subst z;sleep 14
     ·exact out x hy (inI x (.inr (.inr (.inl hx))))
     ·exact np.2.2 x hx x (qz _ hy) rfl
   have cls:∀ y∈b::(p1++(ms++p3)),y∈b::n2\/y∈ms:=λy hy=>by
    rcases zn.mp hy with rfl|hy
    ·exact .inl qx
    ·sleep 14
     ·exact .inl (qy _ (inn y (.inl hy)))
     ·sleep 14
      ·exact .inr hy
      ·exact .inl (qy _ (inn y (.inr hy)))
   refine nodup_cons.mpr ⟨λz=>?_,nodup_append.mpr ⟨nu.1,nodup_append.mpr ⟨nin,nu.2.1.2.1,λx hx y hy z=>?_⟩,λx hx y hy z=>?_⟩⟩
   ·sleep 26
    ·exact g5 (inI a (.inl z))
    ·sleep 26
     ·rcases cls a z with z|z
      ·exact g5 (by rw[q1];exact qz _ (za _ z))
      ·exact nm a z (by rw[g4];exact qx)
     ·exact g5 (inI a (.inr (.inl z)))
   ·subst z;rcases cls x hx with w|w
    ·exact nu.2.1.2.2 x w x hy rfl
    ·exact out x w (inI x (.inr (.inl hy)))
   ·subst z;sleep 14
    ·rcases cls x hy with w|w
     ·exact nu.2.2 x hx x (za _ w) rfl
     ·exact out x w (inI x (.inl hx))
    ·exact nu.2.2 x hx x (qz _ hy) rfl
  ·intro y hy;have mine:y∈ns->y∈ν i:=λz=>by rw[g4];exact qy _ z
   rcases zn.mp hy with rfl|hy
   ·exact .inl (by rw[g4];exact qx)
   ·sleep 14
    ·exact .inl (mine (inI y (.inl hy)))
    ·sleep 14
     ·rcases zn.mp hy with rfl|hy
      ·exact .inl (mine hbn)
      ·sleep 14
       ·exact .inl (mine (inI y (.inr (.inr (.inl hy)))))
       ·sleep 14
        ·exact .inr (m3 y hy)
        ·exact .inl (mine (inI y (.inr (.inr (.inr hy)))))
     ·exact .inl (mine (inI y (.inr (.inl hy))))
end
section
variable {X:Cx} {K:W.Frag} {E:XK} {pos p1 p2 px:Pos} {e e1 e2:Expr} {te t1 t2:TD} {x:Str}
variable {j:Nat}
theorem A8h {α:Type} {l:List α} (h:j < l.length):∃ c,l[j]?=some c:=⟨_,zd h⟩
theorem C1g {z:Int} (h:ixN n z=some j):j < n:=(A64 h).2.1
def C8y (i:Nat) (t1 te:TD):N5:=λDd O Xd=>te O (λd k=>∃ ds,O[i]?=some (some (true,.list ds))/\t1 O (λy _=>∃ z j,y=.int z/\ixN ds.length z=some j/\match eff d k with
 | .own s=>i∉s/\Dd.nx ((E9 O s).set i (some (true,.list (ds.set j d))))
 | _=>False) Xd) Xd
theorem A20 (i:Nat) (ho:QE X (.Name x px) (B0v i)) (h1:DE X K E e1 t1) (he:DE X K E e te)
  (ha:∀ v,assign (.Subscript (.Name x px) e1 p1) X.env v=(do
   let ov <- holding [v] (eval (.Name x px) X.env)
   let iv <- holding [v,ov] (eval e1 X.env)
   standAt p1
   holding [v,ov,iv] (setItem ov iv v)
   release [v,ov,iv] []):=by intro _;rfl)
  (hs:swapsWithSole [.Subscript (.Name x px) e1 p1] e pos.line X.env=pure false:=by rfl) (hw:swappedStores [.Subscript (.Name x px) e1 p1] e X.env=pure none:=by rfl) (h2:(assignEach [.Subscript (.Name x px) e1 p1] X.env).map (·.2)=[assign (.Subscript (.Name x px) e1 p1) X.env]:=by rfl) :
  DS X K E (.Assign [.Subscript (.Name x px) e1 p1] e pos) (C8y i t1 te):=⟨N9 (O7 he.q (V5 ho h1.q Q2 ha) hs hw h2) λEn U H h=>by
 sleep 1;refine ⟨H0,ν,O,_,Xd,S,h1,λd k v H1 q1 e1 r1=>?_,x⟩;obtain ⟨ds,h1,q1⟩:=q1;sleep 20;refine ⟨_,g1,H0,ν,O,_,Xd,S.same e1,q1,λy l w H2 q2 e2 r2=>?_,x⟩;obtain ⟨z,j,rfl,hj,q2⟩:=q2;split at q2
 case h_2=>exact q2.elim
 case h_1 s es =>
  obtain ⟨ms,m1,m2,m3⟩:=B0i es (S.same e1).hl r1;obtain ⟨c,hc⟩:=A8h (C1g hj);obtain ⟨ν',S'⟩:=S.put1 h1 g1 g2 g3 g4 g5 g6 hc e1 m1 m2 m3 q2.1 e2;exact ⟨a,us,z,j,rfl,N3 r2.den,(e1.trans e2) _ _ g2,by rw[g3.den.length];exact hj,ok.nx _ _ _ _ q2.2 S'⟩⟩
def C9w (i:Nat) (t1 t2 te:TD):N5:=λDd O Xd=>te O (λd k=>∃ ds,O[i]?=some (some (true,.list ds))/\t1 O (λy1 _=>∃ z1 j1 es,y1=.int z1/\ixN ds.length z1=some j1/\ds[j1]?=some (.list es)/\t2 O (λy2 _=>∃ z2 j2,y2=.int z2/\ixN es.length z2=some j2/\match eff d k with
 | .own s=>i∉s/\Dd.nx ((E9 O s).set i (some (true,.list (ds.set j1 (.list (es.set j2 d))))))
 | _=>False) Xd) Xd) Xd
theorem A6q (i:Nat) (hK:X.K=K) (ho:QE X (.Name x px) (B0v i)) (h1:DE X K E e1 t1) (h2':DE X K E e2 t2) (he:DE X K E e te) (hpl:A4o e1)
  (ha:∀ v,assign (.Subscript (.Subscript (.Name x px) e1 p1) e2 p2) X.env v=(do
   let ov <- holding [v] (eval (.Subscript (.Name x px) e1 p1) X.env)
   let iv <- holding [v,ov] (eval e2 X.env)
   standAt p2
   holding [v,ov,iv] (setItem ov iv v)
   release [v,ov,iv] []):=by intro _;rfl)
  (hs:swapsWithSole [.Subscript (.Subscript (.Name x px) e1 p1) e2 p2] e pos.line X.env=pure false:=by rfl) (hw:swappedStores [.Subscript (.Subscript (.Name x px) e1 p1) e2 p2] e X.env=pure none:=by rfl) (h2:(assignEach [.Subscript (.Subscript (.Name x px) e1 p1) e2 p2] X.env).map (·.2)=[assign (.Subscript (.Subscript (.Name x px) e1 p1) e2 p2) X.env]:=by rfl) :
  DS X K E (.Assign [.Subscript (.Subscript (.Name x px) e1 p1) e2 p2] e pos) (C9w i t1 t2 te):=⟨N9 (O7 he.q (V5 (G7 (C9 K hK) ho h1.q hpl) h2'.q Q2 ha) hs hw h2) λEn U H h=>by
 sleep 1;refine ⟨H0,ν,O,_,Xd,S,h1,λd k v H1 q1 e1 r1=>?_,x⟩;obtain ⟨ds,h1,q1⟩:=q1;sleep 20;refine ⟨_,g1,H0,ν,O,_,Xd,S.same e1,q1,λy l w H2 q2 e2 r2=>?_,x⟩;obtain ⟨z,j,es,rfl,hj,hes,q2⟩:=q2;obtain ⟨n1,n2,n3,u,_,hu,hw,_⟩:=V3 g3 hes;refine ⟨a,us,z,u,rfl,N3 r2.den,E6.of ((e1.trans e2) _ _ g2),A8a (by rw[g3.den.length];exact hj) hu,H0,ν,O,_,Xd,S.same (e1.trans e2),q2,λy3 l3 w3 H3 q3 e3 r3=>?_,x⟩;obtain ⟨z2,j2,rfl,hj2,q3⟩:=q3;split at q3
 case h_2=>exact q3.elim
 case h_1 s ee =>
  obtain ⟨ms,m1,m2,m3⟩:=B0i ee (S.same e1).hl r1;obtain ⟨c,hc⟩:=A8h (C1g hj2);obtain ⟨b,ws,k1,k2,k3,ν',S'⟩:=S.put2 h1 g1 g2 g3 g4 g5 g6 hes hc e1 m1 m2 m3 q3.1 (e2.trans e3);rw[hu] at k1;cases k1;exact ⟨b,ws,z2,j2,rfl,N3 r3.den,(e1.trans (e2.trans e3)) _ _ k2,by rw[k3];exact hj2,ok.nx _ _ _ _ q3.2 S'⟩⟩
def D9x (i:Nat) (t1 t2 te:TD) (f:Int->Int->Int):N5:=λDd O Xd=>∃ ds,O[i]?=some (some (true,.list ds))/\t1 O (λy1 _=>∃ z1 j1 es,y1=.int z1/\ixN ds.length z1=some j1/\ds[j1]?=some (.list es)/\t2 O (λy _=>∃ (j:Nat) (a:Int),y=.int j/\es[j]?=some (.int a)/\te O (λd _=>∃ b,d=.int b/\Dd.nx (O.set i (some (true,.list (ds.set j1 (.list (es.set j (.int (f a b)))))))) ) Xd) Xd) Xd
theorem J6 (h:j < n):ixN n (j:Int)=some j:=by
 unfold ixN;rw[qr (by lia),qr (by lia)];simp
theorem C1h (i:Nat) {op:Operator} {f:Int->Int->Int} (hK:X.K=K) (ho:QE X (.Name x px) (B0v i)) (h1:DE X K E e1 t1) (h2':DE X K E e2 t2) (he:DE X K E e te) (hp:PIp X op (ipI f)) (hpl:A4o e1)
  (ha:∀ ov iv new,augStore e2 ov iv new=(do holding [new,ov,iv] (setItem ov iv new);release [new,ov,iv] [];pure .next):=by intros;rfl) :
  DS X K E (.AugAssign (.Subscript (.Subscript (.Name x px) e1 p1) e2 p2) op e pos) (D9x i t1 t2 te f):=⟨N9 (C3o (G7 (C9 K hK) ho h1.q hpl) h2'.q (B92 K hK) he.q hp Q2 ha) λEn U H h=>by
 obtain ⟨H0,ν,O,Dd,Xd,S,⟨ds,h1,h2⟩,ok,x⟩:=h;sleep 20;refine ⟨_,g1,H0,ν,O,_,Xd,S,h2,λy l w H1 q1 e1 r1=>?_,x⟩;obtain ⟨z,j1,es,rfl,hj1,hes,q1⟩:=q1;obtain ⟨n1,n2,n3,u,_,hu,hw,_⟩:=V3 g3 hes;refine ⟨a,us,z,u,rfl,N3 r1.den,E6.of (e1 _ _ g2),A8a (by rw[g3.den.length];exact hj1) hu,H0,ν,O,_,Xd,S.same e1,q1,λy2 l2 w2 H2 q2 e2 r2=>?_,x⟩;obtain ⟨j,xi,rfl,hj,q2⟩:=q2;obtain ⟨b,ws,rfl,hb,rb⟩:=D9 hw.den;obtain ⟨c,hc1,hc2⟩:=rb.get hj;have hc2:=N3 hc2;subst hc2;refine ⟨b,ws,j,_,rfl,N3 r2.den,E6.of ((e1.trans e2) _ _ hb),hc1,H0,ν,O,_,Xd,S.same (e1.trans e2),q2,λy3 l3 w3 H3 q3 e3 r3=>?_,x⟩;obtain ⟨bb,rfl,q3⟩:=q3;refine ⟨xi,bb,rfl,N3 r3.den,?_⟩;obtain ⟨b',ws',k1,k2,k3,ν',S'⟩:=S.put2 (s:=[]) (ms:=[]) h1 g1 g2 g3 g4 g5 g6 hes hj ((e1.trans e2).trans e3) (.int (f xi bb)) nodup_nil (λ_ z=>by cases z) (by simp) (A8.refl _);rw[hu] at k1;cases k1;rw[hb] at k2;cases k2;exact ⟨b,ws,(j:Int),j,rfl,N3 r2.den,((e1.trans e2).trans e3) _ _ hb,J6 (by rw[k3];exact A4y hj),ok.nx _ _ _ _ q3 S'⟩⟩
end
def A3j (N:List Str) (ds:List D):G2:=ds.map (λd=>some (false,d))++List.replicate (N.length - ds.length) none
theorem C0d {vs:List V} {ds:List D} (h:Dns K H vs ds):D2 K Z0 H (λ_=>[]) (A3j N ds) (start N vs) H:=by
 have hl:=h.length;refine ⟨A8.refl H,?_,λi b d hi=>?_,λ_=>nodup_nil,(λ_ _ _ z=>by cases z),(λ_ _ z=>by cases z),λ_ z=>False.elim z⟩
 ·unfold A3j L2.start;simp[hl]
 ·unfold A3j at hi;by_cases hlt:i < ds.length
  ·rw[List.getElem?_append_left (by simpa using hlt),qp] at hi;cases e:ds[i]? with
   | none=>rw[e] at hi;cases hi
   | some c =>
    rw[e] at hi;cases hi;obtain ⟨v,g1,g2⟩:=h.get e;refine ⟨v,?_,Dn.same B5k g2⟩;unfold L2.start;rw[List.getElem?_append_left (by rw[qk,hl];exact hlt),qp,g1];rfl
  ·rw[List.getElem?_append_right (by simpa using Nat.le_of_not_lt hlt),List.getElem?_replicate] at hi;split at hi<;>cases hi
theorem dmk {E:XK} {b:List Stmt} {t:N5} {vs:List V} {Q:VK} {ds:List D} {Qd:D->Bool->Prop} {Xd:XD} (h:DSs X K E b t) (hd:Dns K H vs ds) (q:∀ d o v H',Qd d o->A8 H H'->RR K H H' o v d->Q v H') (x:∀ C H',Xd C->A8 H H'->E (.ref C) none H')
  (r:t { nx:=λ_=>Qd .none true,rt:=Qd } (A3j N ds) Xd):∃ t,PSs X b t/\t { nx:=λ_ H'=>Q .non H',rt:=Q } (start N vs) H :=
 ⟨_,h.q.h,H,_,_,_,Xd,C0d hd,r,⟨λν O U H' a S=>q _ _ _ _ a S.sm ⟨[],.non,nodup_nil,λ_ z=>by cases z⟩,λ_ _ _ _ z=>z.elim,λ_ _ _ _ z=>z.elim,q⟩,x⟩
theorem ok0 {base:Heap} {x:Str} {st:Stmt} {f:Addr} {ps:List Str} {k:Nat} {sp:SpD} (F:W5 K x qual st f fd) (S:C2 N ps (B1 st)) (len:∀ ds Q X,sp ds Q X->ds.length=ps.length)
  (hbody:∀ (cdv:Value) (A:Around) (outer:List Env) (s:Shared) (H:Hp) (E:XK),S0 k (A.deeper (envOfC qual (B1 st) s.heap.objs.size f cdv))->∃ t,DSs (A2x CX0 P w K mg base N qual (B1 st) f cdv A outer s H E).nox K E0 (Q9 st) t/\∀ ds Qd,sp ds Qd Xf->t { nx:=λ_=>Qd .none true,rt:=Qd } (A3j N ds) Xf)
  (hx:∀ ds Qd Xd,sp ds Qd Xd->sp ds Qd Xf):J5 P w K mg base CX0 (k+1) f fd ps (G3 K sp):=by
 refine F.ok S (λvs H Q E h=>?_) (λcdv A outer s H vs Q E hr h=>?_)
 ·obtain ⟨ds,Qd,Xd,h1,h2,_⟩:=h;rw[h1.length];exact len ds Qd Xd h2
 ·obtain ⟨ds,Qd,Xd,h1,h2,h3,h4⟩:=h;obtain ⟨t,D,r⟩:=hbody cdv A outer s H E hr;exact dmk D h1 h3 (λ_ _ z _=>z.elim) (r ds Qd (hx _ _ _ h2))
theorem okE {base:Heap} {x:Str} {st:Stmt} {f:Addr} {ps:List Str} {k:Nat} {sp:SpD} (F:W5 K x qual st f fd) (S:C2 N ps (B1 st)) (len:∀ ds Q X,sp ds Q X->ds.length=ps.length)
  (hbody:∀ (cdv:Value) (A:Around) (outer:List Env) (s:Shared) (H:Hp) (E:XK),S0 k (A.deeper (envOfC qual (B1 st) s.heap.objs.size f cdv))->∃ t,DSs (A2x (CXE P w base) P w K mg base N qual (B1 st) f cdv A outer s H E) K E (Q9 st) t/\∀ ds Qd Xd,sp ds Qd Xd->t { nx:=λ_=>Qd .none true,rt:=Qd } (A3j N ds) Xd) :
  J5 P w K mg base (CXE P w base) (k+1) f fd ps (G3 K sp):=by
 refine F.okE S (λvs H Q E h=>?_) (λcdv A outer s H vs Q E hr h=>?_)
 ·obtain ⟨ds,Qd,Xd,h1,h2,_⟩:=h;rw[h1.length];exact len ds Qd Xd h2
 ·obtain ⟨ds,Qd,Xd,h1,h2,h3,h4⟩:=h;obtain ⟨t,D,r⟩:=hbody cdv A outer s H E hr;exact dmk D h1 h3 h4 (r ds Qd Xd h2)
section
variable {X:Cx} {K:W.Frag} {E:XK} {pos px apos cpos:Pos} {e e1:Expr} {te:TD} {x:Str}
theorem dnS {s:Stmt} {t:N5} (h:DS X.nox K E s t):DS X K E s t:=⟨qnS h.q⟩
theorem dnT {e:Expr} {t:TDT} (h:DT X.nox K E e t):DT X K E e t:=⟨qnT h.q⟩
variable {j:Nat} {es:List Expr} {ns:List Int}
theorem D2.popped {O:G2} {U:L2.St} {i:Nat} {ds:List D} {us:List V} {ns:List Addr} {c:D} (S:D2 K Z0 H0 ν O U H) (h1:O[i]?=some (some (true,.list ds))) (g1:U[i]?=some (some (.ref a))) (g2:H a=some (.lst us)) (g3:Ows K H us ds ns) (g4:ν i=a::ns) (g5:a∉ns) (g6:ns.Nodup)
  (hj:ds[j]?=some c) (e1:A8 H H1):∃ ν' u,us[j]?=some u/\D2 K Z0 H0 ν' (O.set i (some (true,.list (ds.eraseIdx j)))) U (E5 H1 a (.lst (us.eraseIdx j)))/\Dn K (S4 (Hd Z0 ν') (E5 H1 a (.lst (us.eraseIdx j)))) u c:=by
 obtain ⟨n1,n2,n3,u,q1,q2,q3,_,q4⟩:=V3 g3 hj;have nu:=g6;rw[q1,nodup_append,nodup_append] at nu;have inI:∀ b,b∈n1\/b∈n2\/b∈n3->b∈ns:=λb hb=>by rw[q1];rcases hb with hb|hb|hb<;>simp[hb]
 have k1:∀ l:List Addr,(∀ b∈l,b∈ns)->A09 l H (E5 H1 a (.lst (us.eraseIdx j))):=λl hl=>A72 e1 g2 λb hb=>⟨g3.there b (hl b hb),λz=>g5 (z ▸ hl b hb)⟩;have S':=S.mut [] i (ms:=a::(n1++n3)) (H':=E5 H1 a (.lst (us.eraseIdx j))) (v:=.ref a) g1 (A4y h1) (λb o hb hn=>by rw[B4 (λz=>hn (by rw[z,g4];exact qx))];exact e1 _ _ hb)
  (.lst B7 (q4 _ (k1 n1 λb hb=>inI b (.inl hb)) (k1 n3 λb hb=>inI b (.inr (.inr hb)))))
  (nodup_cons.mpr ⟨λz=>by rcases zm.mp z with z|z;exact g5 (inI a (.inl z));exact g5 (inI a (.inr (.inr z))),nodup_append.mpr ⟨nu.1,nu.2.1.2.1,λx hx y hy z=>nu.2.2 x hx y (qz _ hy) z⟩⟩)
  (λb hb=>.inl (by
   rw[g4];rcases zn.mp hb with rfl|hb
   ·exact qx
   ·refine qy _ ?_;rcases zm.mp hb with hb|hb
    ·exact inI b (.inl hb)
    ·exact inI b (.inr (.inr hb)))) (by simp) (λ_ z=>by cases z)
 refine ⟨_,u,q2,S',B0y S'.hl (q3.kept (k1 n2 λb hb=>inI b (.inr (.inl hb)))) λb hb z=>?_⟩;rcases z with z|⟨l,z⟩
 ·exact z
 ·have z:b∈(if l=i then a::(n1++n3) else if l∈([]:List Nat) then [] else ν l):=z;split at z
  ·rcases zn.mp z with z|z
   ·exact g5 (z ▸ inI b (.inr (.inl hb)))
   ·sleep 26
    ·exact nu.2.2 b z b (za _ hb) rfl
    ·exact nu.2.1.2.2 b hb b z rfl
  ·split at z
   ·cases z
   ·exact absurd (S.dj l i b z (by rw[g4];exact qy _ (inI b (.inr (.inl hb))))) ‹_›
def E17 (t i:Nat) (te:TD):N5:=λDd O Xd=>∃ ds,O[i]?=some (some (true,.list ds))/\ds.length<=1000000/\te O (λy _=>∃ z j c,y=.int z/\ixN ds.length z=some j/\ds[j]?=some c/\Dd.nx ((O.set i (some (true,.list (ds.eraseIdx j)))).set t (some (false,c)))) Xd
theorem D9i {O:G2} {U:L2.St} {i:Nat} {ds:List D} (S:D2 K Z0 H0 ν O U H) (h1:O[i]?=some (some (true,.list ds))) (hz:ds.length<=1000000) {z:Int} {c:D} (hj:ixN ds.length z=some j) (hc:ds[j]?=some c) (ha:U[i]?=some (some (.ref a))) (e1:A8 H H1) {Q:VK}
  (q:∀ ν' u H',D2 K Z0 H0 ν' (O.set i (some (true,.list (ds.eraseIdx j)))) U H'->Dn K (S4 (Hd Z0 ν') H') u c->Q u H'):A5a (.ref a) [.int z] H1 Q:=by
 obtain ⟨a',us,ns,g1,g2,g3,g4,g5,g6⟩:=A0k S h1;rw[ha] at g1;cases g1;obtain ⟨ν',u,q1,q2,q3⟩:=S.popped h1 ha g2 g3 g4 g5 g6 hc e1;obtain ⟨k1,k2,k3,k4⟩:=A64 hj;have hl:=g3.den.length;exact ⟨a,us,z,j,u,rfl,rfl,e1 _ _ g2,by lia,by lia,by rw[hl];exact k1,q1,q _ _ _ q2 q3⟩
theorem C6b (t i:Nat) {y:Str} (hK:X.K=K) (hN:X.N.Nodup) (ho:QE X (.Name x px) (B0v i)) (he:DE X K E e te) (hs:starEach [e] X.env=[(false,eval e X.env)]) (hbase:attributeBase (.Name x px) "pop" X.env (eval (.Name x px) X.env)=eval (.Name x px) X.env) (hline:(apos.endLine==cpos.line)=true)
  (hi:X.N[t]?=some y:=by rfl) (hx:Loc X.env.scope y:=by first|exact Or.inl rfl|exact Or.inr rfl) (hsw:swapsWith (.Call (.Attribute (.Name x px) "pop" apos) [e] [] cpos) (some (.Name y py)) pos.line X.env=pure false:=by rfl) (hf:X.fn y=true\/X.env.scope.names.lookup y=some .local:=by first|exact .inl rfl|exact .inr rfl|assumption) :
  DS X K E (.Assign [.Name y py] (.Call (.Attribute (.Name x px) "pop" apos) [e] [] cpos) pos) (E17 t i te):=⟨N9 (S7 t hN (B5v K hK ho he.q hs hbase hline) hi hx hsw hf) λEn U H h=>by
 obtain ⟨H0,ν,O,Dd,Xd,S,⟨ds,h1,hz,h2⟩,ok,x⟩:=h;sleep 20;refine ⟨_,g1,tyl (E6.of g2),H0,ν,O,_,Xd,S,h2,λy l w H1 q1 e1 r1=>?_,x⟩;obtain ⟨z,j,c,rfl,hj,hc,q1⟩:=q1;have:=N3 r1.den;subst this;exact D9i S h1 hz hj hc g1 e1 λν' u H' S' hd=>ok.nx _ _ _ _ q1 (S'.setOld t hd)⟩
def R4 (b:Bool):G2->List Nat->List D->G2
 | O,i::is,d::ds=>R4 b (O.set i (some (b&&!flat d,d))) is ds
 | O,_,_=>O
def B2h (O:G2) (is:List Nat) (ds:List D) (k:Kd):G2:=match eff (.tuple ds) k with
 | .own []=>R4 true O is ds
 | .old=>R4 false O is ds
 | _=>R4 false (frz O) is ds
def B3m:L2.St->List Nat->List V->L2.St
 | U,i::is,v::vs=>B3m (U.set i (some v)) is vs
 | U,_,_=>U
theorem B0t:∀ {is:List Nat} {vs:List V} {ds:List D} {O:G2} {U:L2.St},D2 K Z0 H0 ν O U H->Dns K (S4 (Hd Z0 ν) H) vs ds->D2 K Z0 H0 ν (R4 false O is ds) (B3m U is vs) H
 | [],_,_,_,_,S,_=>S
 | i::is,_,_,_,_,S,.nil=>S
 | i::is,_,_,_,_,S,.cons h r=>by
  have:=B0t (is:=is) (S.setOld i h) r;exact this
theorem B69:∀ (is:List Nat) {vs:List V} {ds:List D} {O:G2} {U:L2.St} {ν:Nat->List Addr} {ms:List Addr},D2 K Z0 H0 ν O U (S4 (·∈ms) H')->Ows K H' vs ds ms->ms.Nodup->∃ ν',D2 K Z0 H0 ν' (R4 true O is ds) (B3m U is vs) H':=by
 intro is
 induction is with
 | nil=>intro vs ds O U ν ms S _ _;exact ⟨ν,by unfold R4 B3m;exact S.same L3⟩
 | cons i is ih =>
  intro vs ds O U ν ms S r0 nd;cases r0 with
  | nil=>exact ⟨ν,S.same L3⟩
  | cons h r =>
   rename_i v vs d ds n m;rw[nodup_append] at nd;have sm:A8 (S4 (·∈n++m) H') (S4 (·∈m) H'):=A1s λa z=>qz _ z;have nt:∀ a o,H' a=some o->muO o=false->S4 (·∈m) H' a=some o:=λa o ha hn=>L8 ha λz=>by
    exact (r.there a z).no ha hn
   have hk:A09 n H' (S4 (·∈m) H'):=⟨λa ha=>by
    unfold S4;rw[qs λz=>nd.2.2 a ha a z rfl],nt⟩
   show ∃ ν',D2 K Z0 H0 ν' (R4 true (O.set i (some (true&&!flat d,d))) is _) (B3m (U.set i (some v)) is _) H';cases hf:flat d with
   | true =>
    have S1:=(S.same sm).setOld i (v:=v) (d:=d) (B0g (S.same sm).hl (B2z nt h.den hf) hf);exact ih S1 r nd.2.1
   | false =>
    have S1:=S.setOwn [] i sm (h.kept hk) nd.1 λa ha=>.inl (by unfold S4;rw[qr (za _ ha)]);exact ih S1 r nd.2.1
theorem D3u {O:G2} {U:L2.St} {k:Kd} {ds:List D} (S:D2 K Z0 H0 ν O U H) (e:A8 H H') (h:Y6 K Z0 ν H H' k (.ref a) (.tuple ds)) (is:List Nat):∃ us ν',SqT K H' a us/\us.length=ds.length/\D2 K Z0 H0 ν' (B2h O is ds k) (B3m U is us) H':=by
 have h':Y6 K Z0 ν H H' (eff (.tuple ds) k) (.ref a) (.tuple ds):=by
  unfold eff;split
  ·exact Y6.flat h.den ‹_› (S.same e).hl _
  ·exact h
 have frzc:∃ us ν',SqT K H' a us/\us.length=ds.length/\D2 K Z0 H0 ν' (R4 false (frz O) is ds) (B3m U is us) H':=by
  obtain ⟨a',us,q,q1,q2⟩:=Q4 h.den;cases q;exact ⟨us,_,q1,q2.length,B0t (S.same e).frz (Dns.same B5k q2)⟩
 unfold B2h;generalize eff (.tuple ds) k=k' at h';split
 ·obtain ⟨ms,m1,m2,m3⟩:=h';cases m1 with
  | tup q1 q2 =>
   have sm:A8 H (S4 (·∈ms) H'):=λb o hb=>L8 (e _ _ hb) λz=>by
    rcases m3 b z with y|⟨_,y,_⟩
    ·rw[hb] at y;cases y
    ·cases y
   obtain ⟨ν',S'⟩:=B69 is (S.same sm) q2 m2;exact ⟨_,ν',q1,q2.den.length,S'⟩
 ·obtain ⟨a',us,q,q1,q2⟩:=Q4 (show Dn K _ _ _ from h');cases q;exact ⟨us,ν,A8.tup L3 q1,q2.length,B0t (S.same e) q2⟩
 ·exact frzc
def B5m:List Nat->TGs
 | []=>C7i
 | i::is=>B6h (A19 i) (B5m is)
theorem A95:∀ (is:List Nat) (vs:List V) (U:L2.St) (H:Hp) (Q:L2.St->Hp->Prop),vs.length=is.length->Q (B3m U is vs) H->B5m is vs U H Q
 | [],[],U,H,Q,_,q=>⟨rfl,q⟩
 | i::is,v::vs,U,H,Q,hl,q=>⟨v,vs,rfl,A95 is vs _ H Q (by simpa using hl) q⟩
 | [],_::_,_,_,_,hl,_=>by cases hl
 | _::_,[],_,_,_,hl,_=>by cases hl
def D9r (is:List Nat) (te:TD):N5:=λDd O Xd=>te O (λd k=>match d with
 | .tuple ds=>ds.length=is.length/\Dd.nx (B2h O is ds k)
 | _=>False) Xd
theorem A6p (is:List Nat) (n:Nat) {kt:Nat} {pt:Pos} (hn':is.length=n) (hK:X.K=K) (hc:X.calm=true) (hg:QGs X es (B5m is)) (hn:(assignEach es X.env).length=n) (hst:(assignEach es X.env).findIdx? (·.1)=none) (he:DE X K E e te)
  (hs:swapsWithSole [.Tuple es kt pt] e pos.line X.env=pure false:=by rfl) (hw:swappedStores [.Tuple es kt pt] e X.env=pure none:=by rfl) (h1:(assignEach [.Tuple es kt pt] X.env).map (·.2)=[assign (.Tuple es kt pt) X.env]:=by rfl) :
  DS X K E (.Assign [.Tuple es kt pt] e pos) (D9r is te):=⟨N9 (O7 he.q (X2 K n hK hc hg hn hst) hs hw h1) λEn U H h=>by
 sleep 1;refine ⟨H0,ν,O,_,Xd,S,h1,λd k v H' q1 e1 r1=>?_,x⟩;cases d with
 | tuple ds =>
  obtain ⟨a,us0,rfl,_,_⟩:=Q4 r1.den;obtain ⟨us,ν',k1,k2,S'⟩:=D3u S e1 r1 is;exact ⟨a,us,rfl,k1,by rw[k2,q1.1,hn'],A95 is us U H' _ (by rw[k2,q1.1]) (ok.nx _ _ _ _ q1.2 S')⟩
 | _=>exact q1.elim⟩
theorem Y0:flats (ns.map PyData.int)=true:=A2o.mpr λd hd=>by
 obtain ⟨n,_,rfl⟩:=zg.mp hd;rfl
theorem A5m:∀ (ns:List Int),Dns K H (ns.map V.int) (ns.map PyData.int)
 | []=>.nil
 | n::r=>.cons (.int n) (A5m r)
def C9g (ns:List Int):TDA:=λ_ Q _=>Q (ns.map PyData.int) (.own [])
theorem C4l (h:A7z es=some ns):DA X K E es (C9g ns):=⟨B5f (C2x h) λU H Q h=>by
 sleep 0;exact q _ _ _ H h1 (A8.refl H) ⟨[],A1p (A5m ns) Y0,nodup_nil,λ_ z=>by cases z⟩⟩
end
def iD (r:List Int):D:=.list (r.map PyData.int)
def gD (g:List (List Int)):D:=.list (g.map iD)
theorem C3v {i:Int}:flat (.int i)=true:=rfl
theorem B8k {i:Bool}:flat (.bool i)=true:=rfl
theorem C1t {i:Str}:flat (.str i)=true:=rfl
theorem C13:flat .none=true:=rfl
theorem B8n {l:List D}:flat (.list l)=false:=rfl
theorem A12 {l:List D}:flat (.tuple l)=flats l:=rfl
theorem B8f:flats []=true:=rfl
theorem B5y {d:D} {l:List D}:flats (d::l)=(flat d&&flats l):=rfl
theorem C8q {r:List Int}:flat (iD r)=false:=rfl
theorem C5w {r:List (List Int)}:flat (gD r)=false:=rfl
def lpD (ds:List D) (bnd:TGD) (tb:N5):N5:=λDd O Xd=>∃ W:Nat->G2->Prop,W 0 O/\(∀ i d O,ds[i]?=some d->W i O->bnd d O λO'=>tb { Dd with nx:=W (i+1),ct:=W (i+1),bk:=Dd.nx } O' Xd)/\∀ O,W ds.length O->Dd.nx O
theorem B7q {ds:List D} {bnd:TGD} {tb:N5} {Dd:S6} {O:G2} {Xd:XD} (W:Nat->G2->Prop) (h0:W 0 O) (hs:∀ i d O,ds[i]?=some d->W i O->bnd d O λO'=>tb { Dd with nx:=W (i+1),ct:=W (i+1),bk:=Dd.nx } O' Xd) (hd:∀ O,W ds.length O->Dd.nx O):lpD ds bnd tb Dd O Xd:=⟨W,h0,hs,hd⟩
theorem B3p {i:Nat} {d:D} (h:(A2y lo n)[i]?=some d):i < n/\d=.int (lo+i):=by
 unfold A2y at h;rw[qp] at h;cases e:(List.range n)[i]? with
 | none=>rw[e] at h;cases h
 | some j =>
  rw[e] at h;cases h;obtain ⟨h1,h2⟩:=ql.mp e;rw[List.getElem_range] at h2;rw[length_range] at h1;exact ⟨h1,by rw[h2]⟩
theorem B2p:(A2y lo n).length=n:=by unfold A2y;rw[qk,length_range]
theorem A1k {bnd:TGD} {tb:N5} {Dd:S6} {O:G2} {Xd:XD} (W:Nat->G2->Prop) (h0:W 0 O) (hs:∀ (i:Nat) O,i < n->W i O->bnd (.int (lo+i)) O λO'=>tb { Dd with nx:=W (i+1),ct:=W (i+1),bk:=Dd.nx } O' Xd) (hd:∀ O,W n O->Dd.nx O):lpD (A2y lo n) bnd tb Dd O Xd :=
 ⟨W,h0,λi d O e w=>by obtain ⟨h1,rfl⟩:=B3p e;exact hs i O h1 w,λO w=>hd O (by rw[B2p] at w;exact w)⟩
variable {f:D->R0->(R0->Prop)->Prop}
theorem B0r {Q:R0->Prop} (h:D->R0) (m:Nat):∀ {ds:List D} {es:R0},(∀ d∈ds,∀ es (Q':R0->Prop),es.length+(h d).length<=m->Q' (es++h d)->f d es Q')->es.length+(ds.flatMap h).length<=m->Q (es++ds.flatMap h)->go f ds es Q
 | [],es,_,_,q=>by
  show Q es;simpa using q
 | d::r,es,hs,hm,q=>by
  rw[List.flatMap_cons,length_append] at hm;refine hs d qx es _ (by lia) (B0r h m (λd hd=>hs d (qy _ hd)) ?_ ?_)
  ·rw[length_append];lia
  ·rw[append_assoc];rw[List.flatMap_cons] at q;exact q
theorem A5t {α β:Type} (h:α->β) (l:List α):(l.flatMap λa=>[h a])=l.map h:=by
 induction l with
 | nil=>rfl
 | cons a r ih=>rw[List.flatMap_cons,ih];rfl
theorem D0s {Q:R0->Prop} (h:D->D × Bool) {ds:List D} (hs:∀ d∈ds,∀ es (Q':R0->Prop),es.length < 1000000->Q' (es++[h d])->f d es Q') (hm:ds.length<=1000000) (q:Q (ds.map h)):go f ds [] Q:=by
 refine B0r (λd=>[h d]) 1000000 (λd hd es Q' hl q=>hs d hd es Q' ?_ q) ?_ ?_
 ·simp only[length_cons,List.length_nil] at hl;lia
 ·rw[A5t,qk];simpa using hm
 ·rw[A5t];exact q
theorem A79 {α β:Type} (p:α->Bool) (h:α->β) (l:List α):(l.flatMap λa=>if p a=true then [h a] else [])=(l.filter p).map h:=by
 induction l with
 | nil=>rfl
 | cons a r ih =>
  rw[List.flatMap_cons,ih,List.filter_cons];split<;>simp
theorem B95 {Q:R0->Prop} (p:D->Bool) (h:D->D × Bool) {ds:List D} (hs:∀ d∈ds,∀ es (Q':R0->Prop),es.length < 1000000->Q' (if p d=true then es++[h d] else es)->f d es Q') (hm:ds.length < 1000000) (q:Q ((ds.filter p).map h)):go f ds [] Q:=by
 refine B0r (λa=>if p a=true then [h a] else []) 999999 (λd hd es Q' hl q=>hs d hd es Q' (by lia) ?_) ?_ ?_
 ·split
  ·rw[qr ‹_›] at q;exact q
  ·rw[qs ‹_›,append_nil] at q;exact q
 ·rw[A79,qk];have:=List.length_filter_le p ds;simp only[List.length_nil];lia
 ·rw[A79];exact q
def onB (d:D) (Q:Bool->Prop):Prop:=match d with|.bool i=>Q i|_=>False
def onI (d:D) (Q:Int->Prop):Prop:=match d with|.int i=>Q i|_=>False
def onL (d:D) (Q:List D->Prop):Prop:=match d with|.list l=>Q l|_=>False
def onT (d:D) (Q:List D->Prop):Prop:=match d with|.tuple l=>Q l|_=>False
section
variable {t u:N5} {te ta tb:TD} {tA tB:TDT} {tl:TDA} {Dd:S6} {O:G2} {Xd:XD} {Q:QD} {QT:Bool->Prop} {QA:List D->Kd->Prop} {i:Nat} {d e:D} {k l:Kd}
theorem D6t {b:Bool} {Q:Bool->Prop} (h:Q b):onB (.bool b) Q:=h
theorem D64 {b:Int} {Q:Int->Prop} (h:Q b):onI (.int b) Q:=h
theorem D43 {b:List Int} {Q:List D->Prop} (h:Q (b.map PyData.int)):onL (iD b) Q:=h
theorem D4t {b:List (List Int)} {Q:List D->Prop} (h:Q (b.map iD)):onL (gD b) Q:=h
theorem D9n {b:List D} {Q:List D->Prop} (h:Q b):onT (.tuple b) Q:=h
theorem D65 (h:t { Dd with nx:=λO'=>u Dd O' Xd } O Xd):D6p t u Dd O Xd:=h
theorem D8v (h:te O (λd k=>Dd.nx (setK O i d k)) Xd):D12 i te Dd O Xd:=h
theorem D91 (h:te O (λd k=>Dd.rt d (rtK d k)) Xd):D6h te Dd O Xd:=h
theorem D4o (h:te O (λ_ _=>Dd.nx O) Xd):C9d te Dd O Xd:=h
theorem D3a (h:Dd.nx O):C94 Dd O Xd:=h
theorem D95 (h:tA O (λb=>if b=true then t Dd O Xd else u Dd O Xd) Xd):D7w tA t u Dd O Xd:=h
theorem E2i {f b c:G2->Prop} {r:D->Bool->Prop} (h:f O):S6.nx ⟨f,r,b,c⟩ O:=h
theorem E2q {f b c:G2->Prop} {r:D->Bool->Prop} {o:Bool} (h:r d o):S6.rt ⟨f,r,b,c⟩ d o:=h
theorem D6i (h:t Dd (frz1 i O) Xd):D9k i t Dd O Xd:=h
theorem w_c (h:Q d .old):dC d O Q Xd:=h
theorem E1l {f:F2} (h:ta O (λd k=>tb O (λe l=>f d k e l Q) Xd) Xd):dOp f ta tb O Q Xd:=h
variable {y:Int} {ds:List D} {es:R0} {s:List Nat} {r:G2} {x1:Option (Bool × D)}
theorem D87 {g:Int->Int->D} {x:Int} (h:Q (g x y) .old):fI T2 g (.int x) k (.int y) l Q:=⟨trivial,h⟩
theorem E21 {g:Int->Int->D} {x:Int} (h:C x y/\Q (g x y) .old):fI C g (.int x) k (.int y) l Q:=h
theorem D2n {x:Int} (h:Q (.int (x+y)) .old):C3g (.int x) k (.int y) l Q:=h
theorem C49 {x y:List D} (h:x.length+y.length<=1000000/\Q (.list (x++y)) (A7t x k y l)):C3g (.list x) k (.list y) l Q:=h
def IxD (ds:List D) (i:Int) (Q:D->Prop):Prop:=∃ x,atI ds i=some x/\Q x
theorem D5w {x:List D} (h:IxD x y λd=>Q d k.sub):fIx (.list x) k (.int y) l Q:=h
theorem D35 {x:List Int} (h:IxD (x.map PyData.int) y λd=>Q d k.sub):fIx (iD x) k (.int y) l Q:=h
theorem D25 {x:List (List Int)} (h:IxD (x.map iD) y λd=>Q d k.sub):fIx (gD x) k (.int y) l Q:=h
theorem D7h {x:List D} (h:IxD x y λd=>Q d k.sub):fIx (.tuple x) k (.int y) l Q:=h
theorem E1k {f:Bool->Bool} (h:(d.canLay0=true/\e.canLay0=true/\d.depth<=32)/\Q (.bool (f (PyData.eqv d e))) .old):fEq f d k e l Q:=⟨h.1.1,h.1.2.1,h.1.2.2,h.2⟩
theorem D6g {f:Bool->Bool} {x:Int} (h:Q (.bool (f (x==y))) .old):fEq f (.int x) k (.int y) l Q:=⟨rfl,rfl,jb _,h⟩
theorem D9d {f:Bool->Bool} {x:List D} (h:(A0g d=true/\x.all A0g=true)/\Q (.bool (f (inD d x))) .old):fIn f d k (.tuple x) l Q:=⟨h.1.1,h.1.2,h.2⟩
theorem D9l (h:ta O (λd _=>onI d λi=>Q (.int (-i)) .old) Xd):D2w ta O Q Xd:=h
theorem D48 (h:ta O (λd _=>onB d λi=>Q (.bool (!i)) .old) Xd):C95 ta O Q Xd:=h
theorem D2v (h:ta O (λd _=>onB d λi=>if i=true then tb O Q Xd else Q (.bool false) .old) Xd):C9u ta tb O Q Xd:=h
theorem D9m (h:ta O (λd _=>onB d λi=>if i=true then Q (.bool true) .old else tb O Q Xd) Xd):D77 ta tb O Q Xd:=h
theorem w_B (h:ta O (λd _=>onB d QT) Xd):dB ta O QT Xd:=h
theorem D8f (h:tA O (λb=>if b=true then tB O QT Xd else QT false) Xd):D4s tA tB O QT Xd:=h
theorem E32 (h:tA O (λb=>if b=true then QT true else tB O QT Xd) Xd):dOr tA tB O QT Xd:=h
theorem w_not (h:tA O (λb=>QT (!b)) Xd):D9j tA O QT Xd:=h
theorem D19 (h:QT true):C9v O QT Xd:=h
theorem D8c (h:ta O (λd _=>∃ b,C63 d=some b/\QT b) Xd):D8i ta O QT Xd:=h
theorem E36 (h:tA O (λb=>if b=true then ta O Q Xd else tb O Q Xd) Xd):dIf tA ta tb O Q Xd:=h
theorem E00 (h:QA [] (.own [])):D6o O QA Xd:=h
theorem D13 (h:ta O (λd k=>tl O (λds l=>QA (d::ds) (Y8 d k l)) Xd) Xd):C9b ta tl O QA Xd:=h
theorem D0v {ns:List Int} (h:QA (ns.map PyData.int) (.own [])):C9g ns O QA Xd:=h
theorem D8a (h:tl O (λds k=>ds.length<=1000/\Q (.tuple ds) k) Xd):D8e tl O Q Xd:=h
theorem D7g (h:tl O (λds k=>ds.length<=1000/\Q (.list ds) k) Xd):D5z tl O Q Xd:=h
theorem D49 {sp:SpD} (h:tl O (λds _=>sp ds (λd o=>Q d (B11 o)) Xd) Xd):C3d sp tl O Q Xd:=h
theorem C7d {sp:SpD} (h:tl O (λds _=>sp ds (λd o=>Q d (B11 o)) Xf) Xd):B1o sp tl O Q Xd:=h
theorem E1g {g:FA} (h:tl O (λds k=>g ds k Q) Xd):dCB g tl O Q Xd:=h
theorem D8b {x:List D} (h:Q (.int x.length) .old):B87 [.list x] k Q:=h
theorem D0u {x:List Int} (h:Q (.int x.length) .old):B87 [iD x] k Q:=by show Q (.int (x.map PyData.int).length) .old;rw[qk];exact h
theorem D0h {x:List (List Int)} (h:Q (.int x.length) .old):B87 [gD x] k Q:=by show Q (.int (x.map iD).length) .old;rw[qk];exact h
theorem D2x {x:List D} (h:Q (.int x.length) .old):B87 [.dict [(.none,.list x)]] k Q:=h
theorem A9o:∀ (ns:List Int),A5i (ns.map PyData.int)=some ns
 | []=>rfl
 | n::r=>by show (A5i (r.map PyData.int)).map (n::·)=_;rw[A9o r];rfl
theorem D9v {f:List Bool->Bool} {x:List D} (h:∃ ns,A3q x=some ns/\Q (.bool (f ns)) .old):C1u f [.list x] k Q:=h
theorem C8f {x:List Int} (h:Q (iD x) (.own [])):C33 [iD x] k Q:=by
 show Q (.list _) (A2u _ k);unfold A2u;rw[qr Y0];exact h
theorem D36 {x:Int} (h:Q (.int (if y < x then y else x)) .old):D3c [.int x,.int y] k Q:=h
theorem D46 {x:Int} (h:Q (.int (if y > x then y else x)) .old):D2l [.int x,.int y] k Q:=h
theorem D5r {f:D->Bool} (h:ta O (λd _=>A6y d=true/\Q (.bool (f d)) .old) Xd):dIs f ta O Q Xd:=h
theorem E15 {f:F3} {tlo thi:TDO} (h:te O (λd k=>tlo O (λl=>thi O (λh=>f d k l h Q) Xd) Xd) Xd):dSl f te tlo thi O Q Xd:=h
theorem C25 {Q:Option Int->Prop} (h:Q none):B6i O Q Xd:=h
theorem D1p {Q:Option Int->Prop} (h:te O (λd _=>onI d λi=>Q (some i)) Xd):C9k te O Q Xd:=h
theorem C5f {Q:G2->Prop} (h:Q (O.set i (some (false,d)))):D00 i d O Q:=h
theorem D1x {bs:A8o} {Q:G2->Prop} (h:ds.length=n/\bs ds O Q):D1b n bs (.tuple ds) O Q:=h
theorem C5h {b:TGD} {bs:A8o} {Q:G2->Prop} (h:b d O λO'=>bs ds O' Q):C9n b bs (d::ds) O Q:=h
theorem D2z {Q:G2->Prop} (h:Q O):D6x [] O Q:=⟨rfl,h⟩
theorem D78 {ti:TDI} {bnd:TGD} (h:ti O (λds b=>b=true/\lpD ds bnd t Dd O Xd) Xd):D8m ti bnd t Dd O Xd:=h
theorem E2u {Q:List D->Bool->Prop} (h:te O (λd k=>onL d λds=>Q ds k.isOld) Xd):iL te O Q Xd:=h
def C6s (ds:List D) (Q:Int->Prop):Prop:=match ds with|[.int j]=>Q j|_=>False
def D83 (ds:List D) (Q:Int->Int->Prop):Prop:=match ds with|[.int i,.int j]=>Q i j|_=>False
def D3s (ds:List D) (Q:List D->Prop):Prop:=match ds with|[.list j]=>Q j|_=>False
def C72 (ds:List D) (Q:List D->List D->Prop):Prop:=match ds with|[.list i,.list j]=>Q i j|_=>False
theorem D0m {x:Int} {Q:Int->Prop} (h:Q x):C6s [.int x] Q:=h
theorem D2f {x:Int} {Q:Int->Int->Prop} (h:Q x y):D83 [.int x,.int y] Q:=h
theorem C55 {x:List Int} {Q:List D->Prop} (h:Q (x.map PyData.int)):D3s [iD x] Q:=h
theorem C8d {x:List (List Int)} {Q:List D->Prop} (h:Q (x.map iD)):D3s [gD x] Q:=h
theorem D4j {x y:List D} {Q:List D->List D->Prop} (h:Q x y):C72 [.list x,.list y] Q:=h
theorem C7c {x y:List Int} {Q:List D->List D->Prop} (h:Q (x.map PyData.int) (y.map PyData.int)):C72 [iD x,iD y] Q:=h
theorem D7k {Q:List D->Bool->Prop} (h:tl O (λds _=>C6s ds λj=>(-(2 ^ 62)<=j/\j < 2 ^ 62)/\Q (A2y 0 j.toNat) true) Xd):iR1 tl O Q Xd:=by
 have e:(λ(ds:List D) (_:Kd)=>C6s ds λj=>(-(2 ^ 62)<=j/\j < 2 ^ 62)/\Q (A2y 0 j.toNat) true)=(λds _=>match ds with|[.int j]=>-(2 ^ 62)<=j/\j < 2 ^ 62/\Q (A2y 0 j.toNat) true|_=>False):=by
  funext ds _;unfold C6s;split
  ·exact propext and_assoc
  ·rfl
 rw[e] at h;exact h
theorem D8x {Q:List D->Bool->Prop} (h:tl O (λds _=>D83 ds λi j=>(-(2 ^ 62)<=i/\i < 2 ^ 62/\-(2 ^ 62)<=j/\j < 2 ^ 62)/\Q (A2y i (j - i).toNat) true) Xd):iR2 tl O Q Xd:=h
theorem D6b {Q:List D->Bool->Prop} (h:tl O (λds k=>D3s ds λx=>Q (Y9 0 x) k.isOld) Xd):iEn tl O Q Xd:=h
theorem D75 {Q:List D->Bool->Prop} (h:tl O (λds k=>C72 ds λx y=>Q (A1u x y) k.isOld) Xd):iZp tl O Q Xd:=h
theorem D6r {is:List Nat} (h:te O (λd k=>onT d λds=>ds.length=is.length/\Dd.nx (B2h O is ds k)) Xd):D9r is te Dd O Xd:=h
theorem C6k {C:Addr} (h:tl O (λds _=>ds.length<=1000/\Xd C) Xd):C4f C tl Dd O Xd:=h
def LcD (f:D->R0->(R0->Prop)->Prop) (ds:List D) (ok:Bool) (Q:QD):Prop:=go f ds [] λes=>Q (.list (es.map (·.1))) (if es.all (·.2)=true then .own [] else if ok=true then .old else .mix)
theorem E1h {ti:TDI} {bnd:TGD} {tb:TB} {own:List Str} (h:ti O (λds b=>LcD (λd es Q'=>bnd d (E9 (B2y own cap O) T) λO'=>tif O' (λc=>if c=true then tb O' es Q' else Q' es) Xf) ds (b&&A91 cap O) Q) Xd):dLC ti T bnd tif tb own cap O Q Xd:=h
theorem D53 {Q:R0->Prop} (h:te O (λd k=>es.length < 1000000/\(eff d k).isOld=true/\Q (es++[(d,A54 (eff d k))])) Xf):C9i te O es Q:=h
theorem D20 {ti:TDI} {bnd:TGD} {tb:TB} {Q:R0->Prop} (h:ti O (λds b=>b=true/\go (λd es Q'=>bnd d (E9 O T) λO'=>tif O' (λc=>if c=true then tb O' es Q' else Q' es) Xf) ds es Q) Xf):D6k ti T bnd tif tb O es Q:=h
theorem D8r {A:Prop} (h:A):if (true:Bool)=true then A else B:=h
theorem D9c {A:Prop} (h:B):if (false:Bool)=true then A else B:=by rw[qs qw];exact h
theorem C1z {x:Int}:setK O i (.int x) k=O.set i (some (false,.int x)):=rfl
theorem B9v {x:Bool}:setK O i (.bool x) k=O.set i (some (false,.bool x)):=rfl
theorem C4n {x:Str}:setK O i (.str x) k=O.set i (some (false,.str x)):=rfl
theorem C4c:setK O i .none k=O.set i (some (false,.none)):=rfl
theorem C17 {x:List D} :setK O i (.list x) (.own s)=(E9 O s).set i (some (true,.list x)):=rfl
theorem C1q {x:List D}:setK O i (.list x) .old=O.set i (some (false,.list x)):=rfl
theorem C0l {x:List D}:setK O i (.list x) .mix=(frz O).set i (some (false,.list x)):=rfl
theorem B88 {x:List Int} :setK O i (iD x) (.own s)=(E9 O s).set i (some (true,iD x)):=rfl
theorem B9m {x:List Int}:setK O i (iD x) .old=O.set i (some (false,iD x)):=rfl
theorem C05 {x:List Int}:setK O i (iD x) .mix=(frz O).set i (some (false,iD x)):=rfl
theorem B94 {x:List (List Int)} :setK O i (gD x) (.own s)=(E9 O s).set i (some (true,gD x)):=rfl
theorem B8r {x:List (List Int)}:setK O i (gD x) .old=O.set i (some (false,gD x)):=rfl
theorem B9l {x:List (List Int)}:setK O i (gD x) .mix=(frz O).set i (some (false,gD x)):=rfl
theorem C0w {x:List D} (h:flats x=true):setK O i (.tuple x) k=O.set i (some (false,.tuple x)):=by unfold setK;rw[A12,qr h]
theorem C62 {x:Int}:rtK (.int x) k=true:=rfl
theorem C4g {x:Bool}:rtK (.bool x) k=true:=rfl
theorem C5c {x:Str}:rtK (.str x) k=true:=rfl
theorem C54:rtK .none k=true:=rfl
theorem C8m:rtK d (.own s)=true:=by unfold rtK;rw[Bool.or_true]
theorem C6t {x:List D} (h:flats x=true):rtK (.tuple x) k=true:=by unfold rtK;rw[A12,h];rfl
theorem X9 (h:flat d=true):Y8 d k (.own [])=.own []:=by unfold Y8;rw[qr h];rfl
theorem A2m (h:flat d=false):Y8 d (.own s) (.own [])=.own (s++[]):=by
 unfold Y8;rw[h,qs qw];show (if C5o s []=true then Kd.own (s++[]) else .mix)=_;rw[qr (by unfold C5o;simp)]
theorem B02 (h:flat d=false):Y8 d .old (.own [])=.old:=by unfold Y8;rw[h];rfl
theorem C6a:frz []=[]:=rfl
theorem C20 {b:Bool} :frz (some (b,d)::r)=some (false,d)::frz r:=rfl
theorem C1b:frz (none::r)=none::frz r:=rfl
theorem B8g:E9 O []=O:=rfl
theorem B41:E9 O (i::s)=E9 (O.set i none) s:=rfl
theorem D2y:B11 true=.own []:=rfl
theorem D4g:B11 false=.mix:=rfl
theorem C52:Kd.sub (.own [])=.own []:=rfl
theorem C5g:Kd.sub .old=.old:=rfl
theorem C36:Kd.sub (.own (i::s))=.mix:=rfl
theorem C5x:Kd.sub .mix=.mix:=rfl
theorem B9u:Kd.isOld (.own [])=true:=rfl
theorem B9p:Kd.isOld .old=true:=rfl
theorem B9j:Kd.isOld .mix=false:=rfl
theorem B56:Kd.isOld (.own (i::s))=false:=rfl
theorem C64 {x:Int}:eff (.int x) k=.own []:=rfl
theorem C0b {x:Bool}:eff (.bool x) k=.own []:=rfl
theorem C7g {x:Str}:eff (.str x) k=.own []:=rfl
theorem B70 {x:List D} (h:flats x=true):eff (.tuple x) k=.own []:=by unfold eff;rw[A12,h];rfl
theorem C8c {x:List D}:eff (.list x) k=k:=rfl
theorem D0x {x:List Int}:eff (iD x) k=k:=rfl
theorem D1k {x:List (List Int)}:eff (gD x) k=k:=rfl
theorem B61:A54 (.own [])=true:=rfl
theorem B57:A54 .old=false:=rfl
theorem E2s (q:Q d .old):A23 0 (some (false,d)::r) Q Xd:=⟨false,d,rfl,q⟩
theorem E0h (q:Q d .old):A23 1 (x0::some (false,d)::r) Q Xd:=⟨false,d,rfl,q⟩
theorem E1n (q:Q d (.own [1])):A23 1 (x0::some (true,d)::r) Q Xd:=⟨true,d,rfl,q⟩
theorem E2h (q:Q d .old):A23 2 (x0::x1::some (false,d)::r) Q Xd:=⟨false,d,rfl,q⟩
theorem E2k (q:Q d (.own [2])):A23 2 (x0::x1::some (true,d)::r) Q Xd:=⟨true,d,rfl,q⟩
theorem E2g (q:Q d .old):A23 3 (x0::x1::x2::some (false,d)::r) Q Xd:=⟨false,d,rfl,q⟩
theorem E14 (q:Q d (.own [3])):A23 3 (x0::x1::x2::some (true,d)::r) Q Xd:=⟨true,d,rfl,q⟩
theorem E2o (q:Q d .old):A23 4 (x0::x1::x2::x3::some (false,d)::r) Q Xd:=⟨false,d,rfl,q⟩
theorem E0p (q:Q d (.own [4])):A23 4 (x0::x1::x2::x3::some (true,d)::r) Q Xd:=⟨true,d,rfl,q⟩
theorem E1z (q:Q d .old):A23 5 (x0::x1::x2::x3::x4::some (false,d)::r) Q Xd:=⟨false,d,rfl,q⟩
theorem E29 (q:Q d (.own [5])):A23 5 (x0::x1::x2::x3::x4::some (true,d)::r) Q Xd:=⟨true,d,rfl,q⟩
theorem E1c (q:Q d .old):A23 6 (x0::x1::x2::x3::x4::x5::some (false,d)::r) Q Xd:=⟨false,d,rfl,q⟩
theorem E1o (q:Q d (.own [6])):A23 6 (x0::x1::x2::x3::x4::x5::some (true,d)::r) Q Xd:=⟨true,d,rfl,q⟩
theorem E1p (q:Q d .old):A23 7 (x0::x1::x2::x3::x4::x5::x6::some (false,d)::r) Q Xd:=⟨false,d,rfl,q⟩
theorem E2c (q:Q d .old):A23 8 (x0::x1::x2::x3::x4::x5::x6::x7::some (false,d)::r) Q Xd:=⟨false,d,rfl,q⟩
theorem E0i (q:Q d (.own [8])):A23 8 (x0::x1::x2::x3::x4::x5::x6::x7::some (true,d)::r) Q Xd:=⟨true,d,rfl,q⟩
end
structure A37 (k:Nat) (A:Around):Prop where
 dp:A.depth+3*k+5 < recursionLimit
 un:A.units+16*k+200 < cLine
theorem S0.h {k:Nat} (r:S0 k A):A37 k A:=⟨r.dp,r.un⟩
theorem A37.units {k:Nat} (r:A37 k A):A.units+64 < cLine:=by have:=r.un;lia
structure B7n (P:Program) (w:World) (K:W.Frag) (mg:Str->Option Value) (base:Heap) (k:Nat) (f:Addr) (fd:FuncData) (ps:List Str) (sp:Sp):Prop where
 len:∀ vs H Q E,sp vs H Q E->vs.length=ps.length
 run:∀ (A:Around) (outer:List Env) (s:Shared) (H:Hp) (args:Args) (us:List Value) (vs:List V) (Q:VK) (E:XK),A37 k A->B31 P w K mg base A outer s H->BindsTo s fd args (ps.zip us)->D7 vs us->sp vs H Q E ->
  codeAny (model P w) A (.call (.ref f) args) (CR CX0 outer P w H s Q E) s
abbrev cxH (P:Program) (w:World) (K:W.Frag) (mg:Str->Option Value) (base:Heap) (N:List Str) (qual:Str) (scope:Scope) (f:Addr) (cd:Value) (A:Around) (outer:List Env) (s:Shared) (H:Hp) (E:XK):Cx :=
 { A2x CX0 P w K mg base N qual scope f cd A outer s H E with calm:=false }
theorem B5a {base:Heap} {ps:List Str} {f:Addr} {outer:List Env} {s s1:Shared} {E:XK} {us:List Value} {vs:List V}
  (S:C2 N ps scope) (e0:B31 P w K mg base A outer s H) (hl:vs.length=ps.length) (r:D7 vs us)
  (x:InCallC s s.heap.objs.size (bindL (envOfC qual scope s.heap.objs.size f cd).kindOf (ps.zip us) λ_=>none) (cellsFrom (s.heap.objs.size+1) scope.names []) (bindC (envOfC qual scope s.heap.objs.size f cd).kindOf (ps.zip us) λ_=>none) s1) :
  C0 (cxH P w K mg base N qual scope f cd A outer s H E) [] (L2.start N vs) H s1:=by
 have I:=A9u (CX:=CX0) (E:=E) (qual:=qual) (f:=f) (cd:=cd) (A:={ A with handled:=none }) (outer:=outer) S rfl (show B31 P w K mg base { A with handled:=none } outer s H from ⟨e0.frames,e0.mod,e0.bs,e0.bsz,e0.funs,e0.frf,e0.hok,e0.bare⟩) hl r x;exact ⟨⟨I.ok.mod,I.ok.kind,I.ok.glob,I.ok.blt,I.ok.above,I.ok.inj,I.ok.has,I.ok.cab,(λz=>nomatch z),Around.frames_deeper e0.frames,I.ok.stk,I.ok.exf,I.ok.bs,I.ok.bsz,I.ok.noex,I.ok.exfs,I.ok.funs,I.ok.frf⟩,I.os,I.bare,I.base,I.loc,I.cell,I.free,I.freeC,I.pin,I.hok,I.len⟩
def LEX (K:W.Frag) (t:TD):TEX:=λU H Q E=>∃ H0 ν O Qd Xd,D2 K Z0 H0 ν O U H/\t O Qd Xd/\(∀ d k v H',Qd d k->A8 H H'->Y6 K Z0 ν H H' k v d->Q v H')/\∀ C H',Xd C->A8 H H'->E (.ref C) none H'
structure DEX (X:Cx) (K:W.Frag) (e:Expr) (t:TD):Prop where
 q:PEX X e (LEX K t)
abbrev A8z:=S6->G2->(G2->Addr->Prop)->Prop
def LSX (K:W.Frag) (t:A8z):TSX:=λEn Es U H=>∃ H0 ν O Dd Xr,D2 K Z0 H0 ν O U H/\t Dd O Xr/\A7b K H0 En Dd/\∀ ν' O' U' H' C,Xr O' C->D2 K Z0 H0 ν' O' U' H'->Es U' (.ref C) none H'
structure DSX (X:Cx) (K:W.Frag) (s:Stmt) (t:A8z):Prop where
 q:PSX X s (LSX K t)
structure D5t (X:Cx) (K:W.Frag) (s:List Stmt) (t:A8z):Prop where
 q:C6f X s (LSX K t)
theorem C83 {e:Expr} {t t':TEX} (h:PEX X e t) (i:∀ U H Q E,t' U H Q E->t U H Q E):PEX X e t':=⟨λpins s U H Q E I w=>h.h pins s U H Q E I (i U H Q E w)⟩
theorem C6c {e:Stmt} {t t':TSX} (h:PSX X e t) (i:∀ D E U H,t' D E U H->t D E U H):PSX X e t':=⟨λpins s U H D E I w=>h.h pins s U H D E I (i D E U H w)⟩
section
variable {X:Cx} {K:W.Frag} {pos pos':Pos} {e:Expr}
def xCl (sp:SpD) (t:TDA):TD:=λO Q Xd=>t O (λds _=>sp ds (λd o=>Q d (B11 o)) Xd) Xf
theorem C3a {x:Str} {ps:List Str} {k:Nat} {sp:SpD} {es:List Expr} {t:TDA} (D:DfE X.prog X.w X.K X.mg X.base x ps k (G3 K sp)) (F:A7a X) (hr:S0 k X.A) (ha:DA X.nox K E0 (e::es) t) (hg:Gl X x:=by rfl) (hdb:noD x:=by decide)
  (he:stE e es X.env:=by rfl) (hpl:stB pos es X.env:=by rfl):DEX X K (.Call (.Name x p) (e::es) [] pos) (xCl sp t):=⟨C83 (C3p D F hr ha.q hg hdb he hpl) λU H Q E h=>by
 sleep 0;refine ⟨H0,ν,O,_,Xf,S,h1,λds k vs H1 g1 e1 r1=>?_,λ_ _ z _=>z.elim⟩;exact ⟨ds,_,Xd,r1.dens,g1,λd o v H' a1 a2 a3=>q _ _ _ _ a1 (e1.trans a2) (B4n e1 a3),λC H' a1 a2=>x C H' a1 (e1.trans a2)⟩⟩
def xSt (i:Nat) (te:TD):A8z:=λDd O Xr=>te O (λd k=>Dd.nx (setK O i d k)) (Xr O)
theorem C6j (i:Nat) {x:Str} (hN:X.N.Nodup) (he:DEX X K e te) (hi:X.N[i]?=some x:=by rfl) (hx:Loc X.env.scope x:=by first|exact Or.inl rfl|exact Or.inr rfl) (hs:swapsWith e (some (.Name x pos')) pos.line X.env=pure false:=by rfl)
  (hf:X.fn x=true\/X.env.scope.names.lookup x=some .local:=by first|exact .inl rfl|exact .inr rfl|assumption):DSX X K (.Assign [.Name x pos'] e pos) (xSt i te):=⟨C6c (C7l i hN he.q hi hx hs hf) λD E U H h=>by
 obtain ⟨H0,ν,O,Dd,Xr,S,h1,ok,x⟩:=h;refine ⟨H0,ν,O,_,_,S,h1,λd k v H' g1 g2 g3=>?_,λC H' a b=>x _ _ _ _ _ a (S.same b)⟩;obtain ⟨ν',S'⟩:=S.setK g2 g3 i;exact ok.nx _ _ _ _ g1 S'⟩
theorem C4m {s:Stmt} {t:A8z} (h:DSX X K s t):D5t X K [s] t:=⟨C1w h.q⟩
def xIf (tc:TDT) (a b:A8z):A8z:=λDd O Xr=>tc O (λc=>if c=true then a Dd O Xr else b Dd O Xr) Xf
def opq (a:Addr):D:=.dict [(.bool true,.int (a:Nat))]
def B5g (Dd:S6):S6:={ nx:=λ_=>False,rt:=Dd.rt,bk:=λ_=>False,ct:=λ_=>False }
def D04 (K:W.Frag) (mg:Str->Option Value) (R:Addr) (i:Nat) (tb:A8z) (ts:Addr->Addr->N5):N5:=λDd O _=>tb Dd O λO' C=>B5q K C R/\(∃ x,ExC K mg x C)/\ExK K C/\∀ ea,ts ea C (B5g Dd) (O'.set i (some (false,opq ea))) Xf
theorem C1y (i:Nat) {E:XK} {x n:Str} {R:Addr} {b0:Stmt} {tb:A8z} {ts:Addr->Addr->N5} (hK:X.K=K) (hmg:X.mg=mg) (F:A7a X) (hN:X.N.Nodup) (hg:Gl X x) (hm:mg x=some (.ref R)) (hb:D5t X K body tb)
  (hs:∀ ea oe C y,XOf oe C->ExC K mg y C->ExK K C->DSs (X.within ea oe) K E0 (b0::suite) (ts ea C)) (hi:X.N[i]?=some n:=by rfl) (hln:X.env.kindOf n=some .local:=by rfl) (hln2:X.env.scope.names.lookup n=some .local:=by rfl) (hdb:noD x:=by decide) :
  DS X K E (.Try body [.ExceptHandler (some (.Name x np)) (some n) (b0::suite) hpos] [] [] pos) (D04 K mg R i tb ts):=⟨N9 (C2g i K hK mg hmg F hN hg hm hb.q (λea oe C y h1 h2 h3=>(hs ea oe C y h1 h2 h3).q) hi hln hln2 hdb) λEn U H h=>by
 sleep 1;refine ⟨H0,ν,O,Dd,_,S,h1,ok,λν' O' U' H' C a S'=>?_⟩;obtain ⟨a1,⟨y,a2⟩,a3,a4⟩:=a;refine ⟨C,y,rfl,a1,a2,a3,λea _=>⟨H0,ν',_,B5g Dd,Xf,S'.setOld i (v:=.ref ea) (d:=opq ea) (.opq ea),a4 ea,⟨λ_ _ _ _ z=>z.elim,λ_ _ _ _ z=>z.elim,λ_ _ _ _ z=>z.elim,ok.rt⟩,λ_ _ z _=>z.elim⟩⟩⟩
def D93 (K:W.Frag) (ea C D:Addr) (te:TD):TD:=λO Q Xd=>te O (λd _=>d=opq ea/\∃ b,W.kitOne K (.ref C) (.ref D)=some b/\Q (.bool b) .old) Xd
theorem D1w {v:V} (h:Dn K H v (opq a)):v=.ref a:=by
 unfold opq at h;generalize hd:(PyData.dict [(.bool true,.int ((a:Nat):Int))])=d at h;cases h with
 | opq b =>
  have:((a:Nat):Int)=((b:Nat):Int):=by injection hd with z;injection z with z _;injection z with _ z;injection z
  have:a=b:=by exact_mod_cast this
  rw[this]
 | _=>cases hd
theorem C5q {E:XK} {C D:Addr} {x y:Str} {ex:Expr} (hK:X.K=K) (hp:(ea,oe)∈X.pn) (hc:XOf oe C) (c:ExC K X.mg x C) (k:ExK K C) (hg:Gl X "isinstance") (hm:X.mg "isinstance"=none) (ha:DE X K E ex te) (hg2:Gl X y) (hm2:X.mg y=some (.ref D)) (hd:noD y:=by decide)
  (he:starEach [ex,.Name y p2] X.env=(false,eval ex X.env)::starEach [.Name y p2] X.env:=by rfl) (hpl:(backTo pos (starEach [.Name y p2] X.env)).any (·.1)=false:=by rfl):DE X K E (.Call (.Name "isinstance" p) [ex,.Name y p2] [] pos) (D93 K ea C D te) :=
 ⟨L6 (K6 (C2y hK hp hc.1 c k) hg hm (by decide +kernel) (A2 ha.q (hs:=he) (A2 (C89 hg2 hm2 hd) B5)) (by decide) (by decide) he hpl) λU H Q h=>by
  sleep 0;refine ⟨H0,ν,O,_,Xd,S,h1,λd l v H' g1 g2 g3=>?_,x⟩;obtain ⟨rfl,b,hb,g1⟩:=g1;exact ⟨.ref D,b,by rw[D1w g3.den],.inl ⟨D,rfl,hb⟩,q _ _ _ _ g1 g2 (.bl _)⟩⟩
end
theorem B5o {ds:List D} {ok:Bool} {Q:QD} (h:D->D) (hs:∀ d∈ds,∀ es (Q':R0->Prop),es.length < 1000000->Q' (es++[(h d,true)])->f d es Q') (hm:ds.length<=1000000) (q:Q (.list (ds.map h)) (.own [])):LcD f ds ok Q:=by
 refine D0s (λd=>(h d,true)) hs hm ?_;have e1:((ds.map λd=>(h d,true)).map (·.1))=ds.map h:=by rw[map_map];rfl
 have e2:((ds.map λd=>(h d,true)).all (·.2))=true:=by rw[List.all_map];exact all_eq_true.mpr λ_ _=>rfl
 rw[e1,qr e2];exact q
theorem C03 {ds:List D} {ok:Bool} {Q:QD} (p:D->Bool) (h:D->D) (hs:∀ d∈ds,∀ es (Q':R0->Prop),es.length < 1000000->Q' (if p d=true then es++[(h d,true)] else es)->f d es Q') (hm:ds.length < 1000000) (q:Q (.list ((ds.filter p).map h)) (.own [])):LcD f ds ok Q:=by
 refine B95 p (λd=>(h d,true)) hs hm ?_;have e1:(((ds.filter p).map λd=>(h d,true)).map (·.1))=(ds.filter p).map h:=by rw[map_map];rfl
 have e2:(((ds.filter p).map λd=>(h d,true)).all (·.2))=true:=by rw[List.all_map];exact all_eq_true.mpr λ_ _=>rfl
 rw[e1,qr e2];exact q
section
variable {Q:QD} {QT:Bool->Prop} {k l:Kd} {X:Cx} {K:W.Frag}
theorem D1m {x:List (List Int)} (h:QT (!x.isEmpty)):∃ b,C63 (gD x)=some b/\QT b:=by
 sleep 19;have:(x.map iD).isEmpty=x.isEmpty:=by cases x<;>rfl
 rw[this];exact h
theorem D4p {x:List Int} (h:QT (!x.isEmpty)):∃ b,C63 (iD x)=some b/\QT b:=by
 sleep 19;have:(x.map PyData.int).isEmpty=x.isEmpty:=by cases x<;>rfl
 rw[this];exact h
theorem A4k {x:List D} {j:Nat} {z:Int} (hz:z=j):B47 x (some z) none=x.drop j:=by
 subst hz;unfold B47;rw[HT.sIx_nat,HT.sIx_none];by_cases h:j<=x.length
 ·rw[Nat.min_eq_left h];exact List.take_of_length_le (by rw[length_drop];exact qt _)
 ·rw[Nat.min_eq_right (by lia),List.drop_eq_nil_of_le (qt _),List.drop_eq_nil_of_le (by lia)];simp
theorem A99 {ns:List Int}:A2u (ns.map PyData.int) k=.own []:=by unfold A2u;rw[qr Y0]
theorem D9e {x:List Int} {lo hi:Option Int} (h:Q (.list (B47 (x.map PyData.int) lo hi)) (A2u (B47 (x.map PyData.int) lo hi) k)):fSl (iD x) k lo hi Q:=h
theorem C5d {x:List Int}:PyData.list (x.map PyData.int)=iD x:=rfl
theorem C56 {x:List (List Int)}:PyData.list (x.map iD)=gD x:=rfl
theorem A0i:∀ (x y:List Int),A1u (x.map PyData.int) (y.map PyData.int)=(x.zip y).map λp=>PyData.tuple [.int p.1,.int p.2]
 | [],_=>rfl
 | _::_,[]=>rfl
 | a::x,b::y=>by
  show PyData.tuple [.int a,.int b]::A1u _ _=_;rw[A0i x y];rfl
theorem B2f {α:Type} (f:α->D):∀ (n:Nat) (l:List α),Y9 n (l.map f)=(l.zipIdx n).map λp=>PyData.tuple [.int (p.2:Int),f p.1]
 | _,[]=>rfl
 | n,a::l=>by
  show PyData.tuple [.int n,f a]::Y9 (n+1) _=_;rw[B2f f (n+1) l,List.zipIdx_cons];rfl
def C9j (i j:Int):Prop:=j≠0/\j.natAbs.log2 < 9000
theorem B9x:DOp X K (binaryOp .FloorDiv) (fI C9j λi j=>.int (i.fdiv j)):=⟨_,opI λ_ _ _ _ _ _ _ hc q=>floordiv_int hc.1 q (.inl (PyProof.noPylong_of_log2 hc.2)),Y5⟩
end
section
variable {te t1:TD} {Dd:S6} {O:G2} {Xd:XD} {i:Nat} {d e:D} {k:Kd}
def D4i (ds:List D) (i:Nat) (O:G2) (Dd:S6) (d:D):Kd->Prop
 | .own s=>i∉s/\Dd.nx ((E9 O s).set i (some (true,.list (ds++[d]))))
 | _=>False
variable {ds:List D} {r:List Int}
theorem B7x (e:O[i]?=some (some (true,.list ds))) (hl:ds.length < 1000000) (h:te O (λd k=>D4i ds i O Dd d (eff d k)) Xd):D7l i te Dd O Xd:=by
 refine ⟨ds,e,hl,?_⟩;have:(λd k=>D4i ds i O Dd d (eff d k))=(λd k=>match eff d k with
  | .own s=>i∉s/\Dd.nx ((E9 O s).set i (some (true,.list (ds++[d]))))
  | _=>False):=by
  funext d k;cases eff d k<;>rfl
 rw[this] at h;exact h
theorem D10 {s:List Nat} (h:i∉s/\Dd.nx ((E9 O s).set i (some (true,.list (ds++[d]))))):D4i ds i O Dd d (.own s):=h
def C7b (i:Nat) (O:G2) (Dd:S6) (x:D):Kd->Prop
 | .own s=>i∉s/\Dd.nx ((E9 O s).set i (some (true,x)))
 | _=>False
theorem D2h {x:D} {s:List Nat} (h:i∉s/\Dd.nx ((E9 O s).set i (some (true,x)))):C7b i O Dd x (.own s):=h
theorem D3y (h:te O (λd k=>∃ ds,O[i]?=some (some (true,.list ds))/\t1 O (λy _=>onI y λz=>∃ j,ixN ds.length z=some j/\C7b i O Dd (.list (ds.set j d)) (eff d k)) Xd) Xd):C8y i t1 te Dd O Xd:=by
 have e:(λ(d:D) (k:Kd)=>∃ ds,O[i]?=some (some (true,.list ds))/\t1 O (λy _=>onI y λz=>∃ j,ixN ds.length z=some j/\C7b i O Dd (.list (ds.set j d)) (eff d k)) Xd)=λd k=>∃ ds,O[i]?=some (some (true,.list ds))/\t1 O (λy _=>∃ z j,y=.int z/\ixN ds.length z=some j/\match eff d k with
  | .own s=>i∉s/\Dd.nx ((E9 O s).set i (some (true,.list (ds.set j d))))
  | _=>False) Xd:=by
  funext d k;congr 1;funext ds;congr 2;funext y _;refine propext ⟨λh=>?_,λh=>?_⟩
  ·cases y with
   | int z =>
    obtain ⟨j,h1,h2⟩:=h;refine ⟨z,j,rfl,h1,?_⟩;cases he:eff d k<;>rw[he] at h2<;>exact h2
   | _=>exact h.elim
  ·obtain ⟨z,j,rfl,h1,h2⟩:=h;refine ⟨j,h1,?_⟩;cases he:eff d k<;>rw[he] at h2<;>exact h2
 rw[e] at h;exact h
theorem C0r {is:List Nat} :B2h O is ds (.own [])=R4 true O is ds:=by
 unfold B2h eff;split<;>first|rfl|(split at*<;> simp_all)
theorem B8m {is:List Nat} (h:flats ds=true):B2h O is ds k=R4 true O is ds:=by
 unfold B2h;have:eff (.tuple ds) k=.own []:=B70 h;rw[this]
theorem B3c {b:Bool} {is:List Nat} :R4 b O (i::is) (d::ds)=R4 b (O.set i (some (b&&!flat d,d))) is ds:=rfl
theorem B5x {b:Bool} :R4 b O [] ds=O:=rfl
theorem D26 {x:Int}:PyData.list (r.map .int++[.int x])=iD (r++[x]):=by unfold iD;rw[map_append];rfl
theorem D4f:PyData.list (g.map iD++[iD r])=gD (g++[r]):=by unfold gD;rw[map_append];rfl
end
variable {α:Type}
theorem B0p {Q:R0->Prop} (F G:α->D) (p:α->Bool):∀ (L:List α) (es:R0),(∀ a∈L,∀ es (Q':R0->Prop),es.length < 1000000->Q' (if p a=true then es++[(G a,true)] else es)->f (F a) es Q')->es.length+L.length<=1000000->Q (es++(L.filter p).map λa=>(G a,true))->go f (L.map F) es Q
 | [],es,_,_,q=>by
  show Q es;simpa using q
 | a::r,es,hs,hm,q=>by
  rw[length_cons] at hm;refine hs a qx es _ (by lia) ?_;refine B0p F G p r _ (λb hb=>hs b (qy _ hb)) ?_ ?_
  ·split
   ·rw[length_append,List.length_singleton];lia
   ·lia
  ·rw[List.filter_cons] at q;by_cases hp:p a=true
   ·rw[qr hp] at q ⊢;rw[append_assoc];exact q
   ·rw[qs hp] at q ⊢;exact q
theorem A65 {ok:Bool} {Q:QD} {L:List α} (F G:α->D) (p:α->Bool) (hs:∀ a∈L,∀ es (Q':R0->Prop),es.length < 1000000->Q' (if p a=true then es++[(G a,true)] else es)->f (F a) es Q') (hm:L.length<=1000000) (q:Q (.list ((L.filter p).map G)) (.own [])):LcD f (L.map F) ok Q:=by
 refine B0p F G p L [] hs (by simpa using hm) ?_;have e1:((((L.filter p).map λa=>(G a,true)):R0).map (·.1))=(L.filter p).map G:=by rw[map_map];rfl
 have e2:((((L.filter p).map λa=>(G a,true)):R0).all (·.2))=true:=by rw[List.all_map];exact all_eq_true.mpr λ_ _=>rfl
 rw[nil_append,e1,qr e2];exact q
theorem K4 {ok:Bool} {Q:QD} {L:List α} (F G:α->D) (hs:∀ a∈L,∀ es (Q':R0->Prop),es.length < 1000000->Q' (es++[(G a,true)])->f (F a) es Q') (hm:L.length<=1000000) (q:Q (.list (L.map G)) (.own [])):LcD f (L.map F) ok Q :=
 A65 F G (λ_=>true) hs hm (by rw[List.filter_eq_self.mpr λ_ _=>rfl];exact q)
def dJn (t:N5):N5:=t
theorem A3o {E:XK} {s:Stmt} {t:N5} (h:DS X K E s t):DS X K E s (dJn t):=h
theorem B43 {t:N5} {Dd:S6} {O:G2} {Xd:XD} (I:G2->Prop) (h1:∀ N:G2->Prop,(∀ O',I O'->N O')->t { Dd with nx:=N } O Xd) (h2:∀ O',I O'->Dd.nx O'):dJn t Dd O Xd:=h1 Dd.nx h2
theorem A27 (f:α->Bool):∀ (L:List α),A3q (L.map λa=>PyData.bool (f a))=some (L.map f)
 | []=>rfl
 | a::L=>by
  have:=A27 f L;simp[A3q,this]
theorem A8f {x y:List Int} {k l:Kd}:A7t (x.map PyData.int) k (y.map PyData.int) l=.own []:=by unfold A7t;rw[Y0,Y0];rfl
section
variable {K:W.Frag} {R:Addr} {tb:A8z} {ts:N5} {Dd:S6} {O:G2} {Xd:XD} {Xr:G2->Addr->Prop} {te:TD} {tl:TDA} {sp:SpD} {Q:QD}
theorem D2o {i:Nat} {ts:Addr->Addr->N5} (h:tb Dd O λO' C=>B5q K C R/\(∃ x,ExC K mg x C)/\ExK K C/\∀ ea,ts ea C (B5g Dd) (O'.set i (some (false,opq ea))) Xf):D04 K mg R i tb ts Dd O Xd:=h
theorem D69 (h:tl O (λds _=>sp ds (λd o=>Q d (B11 o)) Xd) Xf):xCl sp tl O Q Xd:=h
theorem D72 {i:Nat} (h:te O (λd k=>Dd.nx (setK O i d k)) (Xr O)):xSt i te Dd O Xr:=h
end
theorem D52 {i:Nat} {t1 t2:TD} {Dd:S6} {O:G2} {Xd:XD} (h:te O (λd k=>∃ ds,O[i]?=some (some (true,.list ds))/\t1 O (λy1 _=>∃ z1 j1 es,y1=.int z1/\ixN ds.length z1=some j1/\ds[j1]?=some (.list es)/\t2 O (λy2 _=>∃ z2 j2,y2=.int z2/\ixN es.length z2=some j2/\C7b i O Dd (.list (ds.set j1 (.list (es.set j2 d)))) (eff d k)) Xd) Xd) Xd):C9w i t1 t2 te Dd O Xd:=h
theorem B1w (g:List (List Int)):(gD g).canLay0=true:=C40 g
theorem B2m (g:List (List Int)):(gD g).depth<=32:=C2v g
theorem C3k (g:List (List Int)):PyData.eqv (gD g) (gD g)=true:=SeqAt.eqv_refl _ (C40 g)
theorem D1s {b:Bool} {d:D} {r:G2}:frz1 0 (some (b,d)::r)=some (false,d)::r:=rfl
theorem D0i {i:Nat} {x:Option (Bool × D)} {r:G2}:frz1 (i+1) (x::r)=x::frz1 i r:=by
 unfold frz1;rw[List.getElem?_cons_succ];cases h:r[i]? with
 | none=>rfl
 | some y=>cases y with
  | none=>rfl
  | some p=>rfl
theorem at0 {a:D} {l:List D}:atI (a::l) 0=some a:=B9 (j:=0) rfl
section
variable {k:Expr}
theorem T7 (r:List Int):(iD r).canLay0=true:=A40 r
theorem A1z (r:List Int):(iD r).depth<=32:=by
 show PyData.depthAll _+1<=32;have:PyData.depthAll (r.map PyData.int)=0:=A0y r;lia
theorem D2i (r:List Int):PyData.eqv (iD r) (iD r)=true:=SeqAt.eqv_refl _ (T7 r)
theorem B9i {x:Int} {k:Kd}:Y8 (.int x) k (.own [])=.own []:=X9 rfl
theorem B8z {x:Bool} {k:Kd}:Y8 (.bool x) k (.own [])=.own []:=X9 rfl
theorem C28 {x:Str} {k:Kd}:Y8 (.str x) k (.own [])=.own []:=X9 rfl
theorem C1m {k:Kd}:Y8 .none k (.own [])=.own []:=X9 rfl
theorem D2c {x:Int}:PyData.list [PyData.int x]=iD [x]:=rfl
theorem two_iD {x y:Int}:PyData.list [PyData.int x,PyData.int y]=iD [x,y]:=rfl
end
end DL
namespace L2
end L2
variable {Xd:XD} {Dd:S6} {bnd:TGD}
namespace DL
open L2
section
variable {K:W.Frag}
theorem D8n {C D':Addr} {te:TD} {O:G2} {Q:QD} (h:te O (λd _=>d=opq ea/\∃ b,W.kitOne K (.ref C) (.ref D')=some b/\Q (.bool b) .old) Xd):D93 K ea C D' te O Q Xd:=h
end
end DL
namespace L2
end L2
namespace DL
open L2
section
variable {κ:Type} [DecidableEq κ]
def look (es:List (κ × D)) (k:κ):Option D:=(es.find? λp=>decide (p.1=k)).map (·.2)
end
abbrev E0x:=Sum Key (List Key)
abbrev TKy:=G2->(E0x->Prop)->XD->Prop
end DL
namespace L2
end L2
namespace DL
open L2
end DL
namespace L2
open PySem.W
open PySem.Calls
def A36:V->V->Bool
 | .int _,.int _=>true
 | .str _,.str _=>true
 | _,_=>false
def W3:List V->List V->Bool
 | [],[]=>true
 | a::r,b::t=>A36 a b&&W3 r t
 | _,_=>false
theorem A36.symm {a b:V} (h:A36 a b=true):A36 b a=true:=by cases a<;>cases b<;>first|rfl|cases h
theorem A36.trans {a b c:V} (h:A36 a b=true) (g:A36 b c=true):A36 a c=true:=by cases a<;>cases b<;>first|(cases h;done)|(cases c<;>first|rfl|(cases g;done))
theorem W3.symm:∀ {a b:List V},W3 a b=true->W3 b a=true
 | [],[],_=>rfl
 | _::_,_::_,h=>by
  rw[W3,zb] at h ⊢;exact ⟨A36.symm h.1,W3.symm h.2⟩
 | [],_::_,h=>by cases h
 | _::_,[],h=>by cases h
theorem W3.trans:∀ {a b c:List V},W3 a b=true->W3 b c=true->W3 a c=true
 | [],[],[],_,_=>rfl
 | _::_,_::_,_::_,h,g=>by
  rw[W3,zb] at h g ⊢;exact ⟨A36.trans h.1 g.1,W3.trans h.2 g.2⟩
 | [],_::_,_,h,_=>by cases h
 | _::_,[],_,h,_=>by cases h
 | _,[],_::_,_,g=>by cases g
 | _,_::_,[],_,g=>by cases g
end L2
namespace DL
open L2
variable {α:Type}
end DL
namespace L2
end L2
namespace DL
open L2
end DL
namespace L2
open PySem.W PySem.Calls
end L2
namespace DL
open L2
end DL
namespace L2
open PySem.W PySem.Calls
end L2
namespace DL
open L2
end DL
namespace L2
end L2
namespace DL
open L2
section
variable {O:G2} {d:D} {q:Nat}
def lk (q:Nat) (d:D) (O:G2):G2:=(frz O).set q (some (false,d))
end
end DL
namespace L2
open HT
end L2
namespace DL
open L2
end DL
namespace L2
end L2
namespace DL
open L2
end DL
namespace L2
open HT
end L2
namespace DL
open L2
end DL
namespace L2
theorem C5p {v v':V} {u:Value} (h:G1 v u) (h':G1 v' u):v=v':=by
 cases v<;>cases v'<;>simp only[G1] at h h'<;>first
  | (subst h;cases h';rfl)
  | (subst h;cases h';done)
  | (obtain ⟨t,rfl⟩:=h;obtain ⟨t',e⟩:=h';cases e;rfl)
  | (obtain ⟨t,rfl⟩:=h;obtain ⟨t',e⟩:=h';cases e;done)
  | (obtain ⟨t,rfl⟩:=h;cases h';done)
  | (subst h;obtain ⟨t,e⟩:=h';cases e;done)
  | rfl
section
variable {X:Cx} {pins:List (Addr × Obj)} {U:St} {H:Hp} {s:Shared}
theorem B6f (I:C0 X pins U H s) {a:Addr} {us:List V} (h:E6 X.K H a us) (h':SqT X.K H a ws):False:=by
 obtain ⟨its,_,pl,_⟩:=I.list h;obtain ⟨its',_,t,_⟩:=I.tuple h';obtain ⟨o,e1,c1,_⟩:=pl.isList;obtain ⟨o',e2,c2,_⟩:=t;rw[e1] at e2;cases e2;rw[c1] at c2;exact absurd (Value.type.inj c2) (by decide)
mutual
theorem Den.one (I:C0 X pins U H s):∀ {v d d'},Den X.K H v d->Den X.K H v d'->d=d'
 | _,_,_,.non,q=>by cases q;rfl
 | _,_,_,.bl _,q=>by cases q;rfl
 | _,_,_,.int _,q=>by cases q;rfl
 | _,_,_,.str _,q=>by cases q;rfl
 | _,_,_,.lst h r,q=>by
  cases q with
  | lst h' r' =>
   have e:=I.list_inj h h';subst e;rw[Dens.one I r r']
  | tup h' _=>exact (B6f I h h').elim
 | _,_,_,.tup h r,q=>by
  cases q with
  | lst h' _=>exact (B6f I h' h).elim
  | tup h' r' =>
   have e:=I.tuple_inj h h';subst e;rw[Dens.one I r r']
theorem Dens.one (I:C0 X pins U H s):∀ {v d d'},Dens X.K H v d->Dens X.K H v d'->d=d'
 | _,_,_,.nil,q=>by cases q;rfl
 | _,_,_,.cons h r,q=>by
  cases q with
  | cons h' r'=>rw[Den.one I h h',Dens.one I r r']
end
open Classical in
noncomputable def eIn (K:W.Frag) (H:Hp) (dx:PyData) (y:Value):Bool:=decide (∃ v d,G1 v y/\Den K H v d/\PyData.eqv d dx=true)
open Classical in
theorem C2f (I:C0 X pins U H s) {dx d:PyData} {v:V} {y:Value} (r:G1 v y) (h:Den X.K H v d):eIn X.K H dx y=PyData.eqv d dx:=by
 unfold eIn;cases e:PyData.eqv d dx with
 | true=>exact decide_eq_true ⟨v,d,r,h,e⟩
 | false =>
  refine decide_eq_false λ⟨v',d',r',h',e'⟩=>?_;have:=C5p r r';subst this;rw[<-Den.one I h h',e] at e';cases e'
theorem B6p (I:C0 X pins U H s) {dx:PyData} {x:Value} {xs:List Addr} {A:Around} (hx:Reads s.heap x dx xs) (cx:dx.canLay0=true) (hd:dx.depth<=32) (hu:A.units+32 < cLine):∀ {vs:List V} {ds:List PyData} {its:List Value},D7 vs its->Dens X.K H vs ds->PyData.canLayAll0 ds=true->∀ y∈its,SeqAt.EqAt A s y x (eIn X.K H dx y)
 | _,_,_,.nil,.nil,_,y,hy=>by cases hy
 | _,_,_,.cons r t,.cons h u,c,y,hy=>by
  simp only[PyData.canLayAll0,zb] at c;rcases zn.mp hy with rfl|hy
  ·rw[C2f I r h];obtain ⟨as,ra⟩:=h.reads I r;exact SeqAt.eqAt_reads _ _ A s _ _ _ _ ra hx c.1 cx (by lia)
  ·exact B6p I hx cx hd hu t u c.2 y hy
end
end L2
namespace DL
open L2
variable {ta:TDA}
section
variable {X:Cx} {K:W.Frag} {E:XK} {pos:Pos} {x y:Str}
def D9g (i j:Nat) (ta:TDA):N5:=λDd O Xd=>ta O (λds k=>k=.own []/\ds.length=2/\Dd.nx (R4 true O [i,j] ds)) Xd
theorem A6m (i j:Nat) {a b:Expr} {pt:Pos} {kt k2 pt2} (hc:X.calm=true) (hN:X.N.Nodup) (hi:X.N[i]?=some x) (hj:X.N[j]?=some y) (hij:i≠j)
  (hx:X.env.scope.names.lookup x=some .local) (hy:X.env.scope.names.lookup y=some .local) (ha:DA X K E [a,b] ta)
  (hw:swappedStores [.Tuple [.Name x px,.Name y py] kt pt] (.Tuple [a,b] k2 pt2) X.env=pure (some [x,y]))
  (hs:swapsWithSole [.Tuple [.Name x px,.Name y py] kt pt] (.Tuple [a,b] k2 pt2) pos.line X.env=pure false:=by rfl) :
  DS X K E (.Assign [.Tuple [.Name x px,.Name y py] kt pt] (.Tuple [a,b] k2 pt2) pos) (D9g i j ta):=⟨N9 (A6c hc hN hi hj hij hx hy ha.q hw hs) λEn U H h=>by
 sleep 1;refine ⟨H0,ν,O,_,Xd,S,h1,λds k us H1 g1 e1 r1=>?_,x⟩;obtain ⟨rfl,hl,q⟩:=g1;obtain ⟨ms,m1,m2,m3⟩:=r1;have sm:A8 H (S4 (·∈ms) H1):=λb o hb=>L8 (e1 _ _ hb) λz=>by
  rcases m3 b z with y|⟨_,y,_⟩
  ·rw[hb] at y;cases y
  ·cases y
 obtain ⟨ν',S'⟩:=B69 [i,j] (S.same sm) m1 m2;have hl':us.length=2:=by rw[m1.den.length];exact hl
 match us,hl' with
 | [v,w],_=>exact ⟨v,w,rfl,ok.nx _ _ _ _ q S'⟩⟩
theorem B6r {i j:Nat} {O:G2} (h:ta O (λds k=>k=.own []/\ds.length=2/\Dd.nx (R4 true O [i,j] ds)) Xd):D9g i j ta Dd O Xd:=h
end
end DL
namespace L2
open PySem.W PySem.Calls
end L2
namespace DL
open L2
end DL
namespace L2
open PySem.W
section
variable {κ:Nat->Int} {p:Array Nat}
def kk (κ:Nat->Int) (p:Array Nat) (i:Nat):Int:=κ (p.getD i 0)
def Dn (κ:Nat->Int) (p:Array Nat) (n:Nat):Prop:=∀ i j,i<=j->j < n->kk κ p j<=kk κ p i
end
open PySem.Calls
end L2
namespace DL
open L2
end DL
namespace L2
open PySem.W PySem.Calls
end L2
namespace DL
open L2
end DL
namespace L2
section
variable {X:Cx}
def D74 (K:W.Frag):V->List V->Hp->VK->Prop:=λl xs H Q=>∃ a x dx vs ds,l=.ref a/\xs=[x]/\Den K H x dx/\E6 K H a vs/\Dens K H vs ds/\dx.canLay0=true/\dx.depth<=32/\PyData.canLayAll0 ds=true/\Q (.int (ds.countP λd=>PyData.eqv d dx:Nat)) H
theorem B99 {U:St} {H:Hp} {s:Shared} (I:C0 X pins U H s) {dx:PyData} {vs:List V} {ds:List PyData} {its:List Value} (r:D7 vs its) (h:Dens X.K H vs ds):its.countP (eIn X.K H dx)=ds.countP λd=>PyData.eqv d dx:=by
 induction r generalizing ds with
 | nil=>cases h;rfl
 | cons r _ ih =>
  cases h with
  | cons h u=>rw[List.countP_cons,List.countP_cons,C2f I r h,ih u]
theorem C02 (hu:X.A.units+64 < cLine):MtR X "list.count" (D74 X.K):=by
 intro pins s U H l xs v us Q I rl rv h;obtain ⟨a,x,dx,vs,ds,rfl,rfl,h1,h2,h3,h4,h5,h6,q⟩:=h;obtain ⟨u,rfl,ru⟩:=A5u rv;cases rl;obtain ⟨its,r,pl,hz⟩:=I.list h2;obtain ⟨as,hx⟩:=h1.reads I ru;have hf:=B99 I (dx:=dx) r h3;obtain ⟨o,n,e1,e2,e3,e4⟩:=id pl;refine call_meets PySem.F.slot_list_count ⟨_,e1,by rw[e2]⟩ PySem.F.entry_list_count (PySem.F.args_list_count_2 _ _) (SeqAt.list_countAt a its.toArray n o.dict o.slots u (eIn X.K H dx)) ⟨?_,λy hy=>?_,?_⟩
 ·rw[e1];obtain ⟨c,d,dt,sl⟩:=o;simp only at e2 e4;subst e2 e4;rfl
 ·exact B6p I hx h4 h5 (by show X.A.units+1+32 < _;lia) r h3 h6 y (by simpa using hy)
 ·refine ⟨.int (ds.countP λd=>PyData.eqv d dx:Nat),H,I.tok _,?_,q⟩;rw[<-hf];exact ⟨_,rfl⟩
end
end L2
namespace DL
open L2
section
variable {X:Cx} {K:W.Frag} {E:XK} {e o:Expr} {te to:TD} {apos cpos:Pos}
def D8t (to te:TD):TD:=λO Q Xd=>to O (λd _=>onL d λds=>te O (λx _=>(x.canLay0=true/\x.depth<=32/\PyData.canLayAll0 ds=true)/\Q (.int (ds.countP λy=>PyData.eqv y x:Nat)) .old) Xd) Xd
theorem B8e (hK:X.K=K) (hu:X.A.units+64 < cLine) (ho:DE X K E o to) (he:DE X K E e te)
  (hb:attributeBase o "count" X.env (eval o X.env)=eval o X.env:=by rfl) (hfew:((backTo cpos (starEach [e] X.env)).all (λx=>!x.1)&&(backToKw cpos (keywordEach [] X.env)).all (λx=>x.1.isSome)&&decide (([e]:List Expr).length+([]:List Keyword).length+(if ([]:List Keyword).isEmpty then 0 else 1) < 30))=true:=by rfl) (hline:(apos.endLine==cpos.line)=true:=by rfl) (hs:starEach [e] X.env=(false,eval e X.env)::starEach [] X.env:=by rfl) (hplain:(backTo cpos (starEach [] X.env)).any (·.1)=false:=by rfl) :
  DE X K E (.Call (.Attribute o "count" apos) [e] [] cpos) (D8t to te):=by
 subst hK;refine ⟨L6 (⟨B80 PySem.F.plainAttrs_list PySem.F.slot_list_count PySem.F.type_list_count (C02 hu) ho.q.h (A2 he.q B5 hs).h hb hfew hline hs hplain⟩:QE X _ _) λU H Q h=>?_⟩;sleep 0;refine ⟨H0,ν,O,_,Xd,S,h1,λd k u H1 g1 e1 r1=>?_,x⟩;cases d<;>first|exact g1.elim|skip
 rename_i ds;obtain ⟨a,us,rfl,l1,l2⟩:=D9 r1.den;refine ⟨tyl (E6.of l1),H0,ν,O,_,Xd,S.same e1,g1,λd2 k2 v H2 g2 e2 r2=>?_,x⟩;obtain ⟨⟨c1,c2,c3⟩,g2⟩:=g2;exact ⟨a,v,d2,us,ds,rfl,rfl,r2.den.deep c1,E6.of (e2 _ _ l1),(Dns.same e2 l2).deep c3,c1,c2,c3,q _ _ _ _ g2 (e1.trans e2) (.int _)⟩
theorem D68 {O:G2} {Q:QD} (h:to O (λd _=>onL d λds=>te O (λx _=>(x.canLay0=true/\x.depth<=32/\PyData.canLayAll0 ds=true)/\Q (.int (ds.countP λy=>PyData.eqv y x:Nat)) .old) Xd) Xd):D8t to te O Q Xd:=h
end
end DL
namespace L2
section
theorem A8v:bootBuiltins "reversed"=some (.type "reversed"):=by decide +kernel
end
end L2
namespace DL
open L2
end DL
namespace L2
structure C9t (X:Cx):Prop where
 p:∃ env l,X.stack=env::l/\env.scope.isGenerator=false/\env.scope.isCoroutine=false/\env.builtins=builtinsNs/\env.globals=mainGlobals
theorem V9 {X:Cx} (hX:C9t X) (hT:X.prog.given.tree=none) (hd:X.A.depth+Builtin.pylongFrames < recursionLimit):OpR X (binaryOp .FloorDiv) (rI (λ_ j=>j≠0) λi j=>.int (i.fdiv j)):=by
 sleep 2;obtain ⟨i,j,rfl,rfl,hc,q⟩:=h;sleep 7;sleep 27;obtain ⟨env,l,e1,e2,e3,e4,e5⟩:=hX.p;refine floordiv_int hc ⟨.int (i.fdiv j),H,I.tok _,⟨_,rfl⟩,q⟩ (.inr (PylongRoom.of I.nolimit hd (SeerAt.of (I.ok.mod.seer.keeps I.bk) hT (by rw[I.ok.frames,e1]) e2 e3 e4 e5)))
theorem S0.pyl {k:Nat} {A:Around} (r:S0 (k+40) A):A.depth+Builtin.pylongFrames < recursionLimit:=by
 have:=r.dp;show A.depth+100 < recursionLimit;lia
end L2
namespace DL
open L2
section
variable {X:Cx} {K:W.Frag}
theorem A97 (hX:C9t X) (hT:X.prog.given.tree=none) (hd:X.A.depth+Builtin.pylongFrames < recursionLimit):DOp X K (binaryOp .FloorDiv) (fI (λ_ j=>j≠0) λi j=>.int (i.fdiv j)):=⟨_,V9 hX hT hd,Y5⟩
end
variable {t:N5}
section
variable {X:Cx} {K:W.Frag} {E:XK} {x y:Str}
def D5x (i:Nat) (t:N5):N5:=λDd O Xd=>t { Dd with nx:=λO'=>Dd.nx (frz1 i O') } O Xd
theorem C78 (i:Nat) {s:Stmt} (h:DS X K E s t):DS X K E s (D5x i t):=⟨N9 h.q λEn U H h=>by
 sleep 1;exact ⟨H0,ν,O,_,Xd,S,h1,⟨λν O U H q S=>ok.nx _ _ _ _ q (S.frz1 i),ok.bk,ok.ct,ok.rt⟩,x⟩⟩
theorem D86 {i:Nat} {Dd:S6} {O:G2} (h:t { Dd with nx:=λO'=>Dd.nx (frz1 i O') } O Xd):D5x i t Dd O Xd:=h
def C8a:F2:=λd _ e _ Q=>match d,e with
 | .list ds,.int z=>flats ds=true/\(0<=z/\ds.length*z.toNat<=1000000/\z < 1000000)/\Q (.list (List.replicate z.toNat ds).flatten) (.own [])
 | _,_=>False
theorem B7t {H:Hp} {us:List V} {ds:List D} (h:Dns K H us ds):∀ k:Nat,Dns K H (List.replicate k us).flatten (List.replicate k ds).flatten
 | 0=>.nil
 | k+1=>by rw[replicate_succ,replicate_succ,List.flatten_cons,List.flatten_cons];exact h.append (B7t h k)
theorem A9t {ds:List D} (h:flats ds=true):∀ k:Nat,flats (List.replicate k ds).flatten=true
 | 0=>rfl
 | k+1=>by rw[replicate_succ,List.flatten_cons];exact A9h h (A9t h k)
theorem C4q:A33 K D94 C8a:=λZ ν Hs H x y d k e l Qf Q hl hn hs h3 h4 h5 h6=>by
 unfold C8a at h5;split at h5
 ·rename_i ds z;obtain ⟨a,us,rfl,a1,a2,a3⟩:=A1r hl hn h3;have:=N3 h4.den;subst this;obtain ⟨hf,⟨b1,b2,b3⟩,q⟩:=h5;refine ⟨a,z,us,rfl,rfl,a1,by lia,by lia,?_,λp hp=>?_⟩
  ·rw[a2.length];exact zq b2 A2a
  ·exact h6 _ _ _ _ q (A8.new hp) (A1q (k:=.own []) hl hs hp ⟨[],A1p (B7t a2 _) (A9t hf _),nodup_nil,λ_ z=>by cases z⟩)
 ·exact h5.elim
theorem B63:DOp X K (binaryOp .Mult) C8a:=⟨_,D27,C4q⟩
theorem C8z {k l:Kd} {ds:List D} {z:Int} {Q:QD} (h:flats ds=true/\(0<=z/\ds.length*z.toNat<=1000000/\z < 1000000)/\Q (.list (List.replicate z.toNat ds).flatten) (.own [])):C8a (.list ds) k (.int z) l Q:=h
end
end DL
namespace MDet
def alt:Nat->Int
 | 0=>1
 | n+1=>- alt n
theorem C2t:∀ n,alt n*alt n=1
 | 0=>rfl
 | n+1=>by show - alt n*- alt n=1;rw[Int.neg_mul_neg,C2t n]
def skip (f i:Nat):Nat:=if i < f then i else i+1
def S:Nat->(Nat->Int)->Int
 | 0,_=>0
 | n+1,f=>S n f+f n
theorem S_congr:∀ {n:Nat} {f g:Nat->Int},(∀ i,i < n->f i=g i)->S n f=S n g
 | 0,_,_,_=>rfl
 | n+1,f,g,h=>by
  show S n f+f n=S n g+g n;rw[S_congr λi hi=>h i (Nat.lt_succ_of_lt hi),h n (Nat.lt_succ_self n)]
theorem A5o (x:Int):∀ (n:Nat) (f g:Nat->Int),S n (λi=>x*f i+g i)=x*S n f+S n g
 | 0,_,_=>by simp[S]
 | n+1,f,g=>by
  show S n _+(x*f n+g n)=x*(S n f+f n)+(S n g+g n);rw[A5o x n f g,Int.mul_add];lia
theorem Y3:∀ {n:Nat} {f:Nat->Int},(∀ i,i < n->f i=0)->S n f=0
 | 0,_,_=>rfl
 | n+1,f,h=>by
  show S n f+f n=0;rw[Y3 λi hi=>h i (Nat.lt_succ_of_lt hi),h n (Nat.lt_succ_self n)];rfl
theorem A0o:∀ {n:Nat} {f:Nat->Int} (k:Nat),k < n->(∀ i,i < n->i≠k->f i=0)->S n f=f k
 | n+1,f,k,hk,h=>by
  show S n f+f n=f k;by_cases e:k=n
  ·subst e;rw[Y3 λi hi=>h i (Nat.lt_succ_of_lt hi) (ze hi)];lia
  ·rw[A0o k (by lia) λi hi hn=>h i (Nat.lt_succ_of_lt hi) hn,h n (Nat.lt_succ_self n) (λz=>e z.symm)];lia
theorem C1s:∀ {n:Nat} {f:Nat->Int} (k l:Nat),k < l->l < n->(∀ i,i < n->i≠k->i≠l->f i=0)->S n f=f k+f l
 | n+1,f,k,l,hkl,hl,h=>by
  show S n f+f n=f k+f l;by_cases e:l=n
  ·subst e;rw[A0o k hkl λi hi hn=>h i (Nat.lt_succ_of_lt hi) hn (ze hi)]
  ·rw[C1s k l hkl (by lia) λi hi h1 h2=>h i (Nat.lt_succ_of_lt hi) h1 h2,h n (Nat.lt_succ_self n) (by lia) (λz=>e z.symm)];lia
abbrev Mat:=Nat->Nat->Int
def sub (a:Mat) (i:Nat):Mat:=λr c=>a (skip i r) (c+1)
def det:Nat->Mat->Int
 | 0,_=>1
 | n+1,a=>S (n+1) λi=>alt i*a i 0*det n (sub a i)
theorem K8 (n:Nat) (a:Mat):det (n+1) a=S (n+1) λi=>alt i*a i 0*det n (sub a i):=rfl
variable {r k l j:Nat} {p:Int}
theorem skip_lt {n i:Nat} (hr:r < n):skip i r < n+1:=by unfold skip;split<;>lia
theorem det_congr:∀ {n:Nat} {a b:Mat},(∀ i j,i < n->j < n->a i j=b i j)->det n a=det n b
 | 0,_,_,_=>rfl
 | n+1,a,b,h=>by
  rw[K8,K8];refine S_congr λi hi=>?_;rw[h i 0 hi (Nat.succ_pos n)];have:det n (sub a i)=det n (sub b i):=det_congr λr c hr hc=>h _ _ (skip_lt hr) (Nat.succ_lt_succ hc);rw[this]
def rs (a:Mat) (k:Nat) (u:Nat->Int):Mat:=λi c=>if i=k then u c else a i c
theorem A0z (a:Mat) (k:Nat):rs a k (a k)=a:=by
 funext i c;unfold rs;split
 ·rename_i h;rw[h]
 ·rfl
def un (i k:Nat):Nat:=if k < i then k else k - 1
theorem A1y (a:Mat) (k:Nat) (u:Nat->Int):sub (rs a k u) k=sub a k:=by
 funext r c;show rs a k u (skip k r) (c+1)=a (skip k r) (c+1);have:skip k r≠k:=by unfold skip;split<;>lia
 unfold rs;rw[qs this]
theorem B4y {a:Mat} {i:Nat} (h:i≠k) (u:Nat->Int):sub (rs a k u) i=rs (sub a i) (un i k) λc=>u (c+1):=by
 funext r c;show (if skip i r=k then u (c+1) else a (skip i r) (c+1))=if r=un i k then u (c+1) else a (skip i r) (c+1)
 have:skip i r=k ↔ r=un i k:=by
  unfold skip un;constructor
  ·intro e;split at e<;>split<;>lia
  ·intro e;split at e<;>split<;>lia
 simp only[this]
theorem C98 {n i:Nat} (h:i≠k) (hi:i < n+1) (hk:k < n+1):un i k < n:=by unfold un;split<;>lia
theorem T3 (x:Int):∀ {n:Nat} (a:Mat) {k:Nat} (u v:Nat->Int),k < n->det n (rs a k λc=>x*u c+v c)=x*det n (rs a k u)+det n (rs a k v)
 | n+1,a,k,u,v,hk=>by
  rw[K8,K8,K8,<-A5o];refine S_congr λi hi=>?_;by_cases e:i=k
  ·subst e;rw[A1y,A1y,A1y];show alt i*(if i=i then x*u 0+v 0 else _)*_=x*(alt i*(if i=i then u 0 else _)*_)+alt i*(if i=i then v 0 else _)*_;rw[qr rfl,qr rfl,qr rfl];rw[Int.mul_add,Int.add_mul];congr 1;rw[<-Int.mul_assoc (alt i) x,Int.mul_comm (alt i) x,Int.mul_assoc x,Int.mul_assoc x]
  ·rw[B4y e,B4y e,B4y e,T3 x (sub a i) _ _ (C98 e hi hk)];have z:∀ w,rs a k w i 0=a i 0:=λw=>by unfold rs;rw[qs e]
   rw[z,z,z,Int.mul_add];congr 1;rw[<-Int.mul_assoc,Int.mul_comm _ x,Int.mul_assoc]
theorem A68:∀ {n:Nat} {a:Mat} {k:Nat},k+1 < n->(∀ c,a k c=a (k+1) c)->det n a=0
 | n+1,a,k,hk,h=>by
  rw[K8,C1s k (k+1) (by lia) hk]
  ·have:sub a (k+1)=sub a k:=by
    funext r c;show a (skip (k+1) r) (c+1)=a (skip k r) (c+1);unfold skip;by_cases h1:r < k
    ·rw[qr h1,qr (by lia)]
    ·by_cases h2:r=k
     ·subst h2;rw[qr (by lia),qs (by lia)];exact h _
     ·rw[qs h1,qs (by lia)]
   rw[this,<-h 0];show alt k*a k 0*_+(- alt k)*a k 0*_=0;rw[Int.neg_mul,Int.neg_mul];lia
  ·intro i hi h1 h2;have:det n (sub a i)=0:=by
    by_cases e:i < k
    ·refine A68 (k:=k - 1) (by lia) λc=>?_;show a (skip i (k - 1)) _=a (skip i (k - 1+1)) _;unfold skip;rw[qs (by lia),qs (by lia),show k - 1+1=k by lia];exact h _
    ·refine A68 (k:=k) (by lia) λc=>?_;show a (skip i k) _=a (skip i (k+1)) _;unfold skip;rw[qr (by lia),qr (by lia)];exact h _
   rw[this,Int.mul_zero]
def sw (k l i:Nat):Nat:=if i=k then l else if i=l then k else i
theorem B65 {n:Nat} (hk:k < n) (hl:l < n) (hkl:k≠l) (zero:∀ b:Mat,(∀ c,b k c=b l c)->det n b=0) (a:Mat):det n (λi=>a (sw k l i))=- det n a:=by
 have two:∀ (u v:Nat->Int),rs (rs a k u) l v=λi c=>if i=l then v c else if i=k then u c else a i c:=λu v=>rfl
 have s1:∀ (u u' v:Nat->Int),det n (rs (rs a k λc=>1*u c+u' c) l v)=det n (rs (rs a k u) l v)+det n (rs (rs a k u') l v):=λu u' v=>by
  have comm:∀ w,rs (rs a k w) l v=rs (rs a l v) k w:=λw=>by
   funext i c;unfold rs;by_cases e:i=l
   ·subst e;sleep 40
   ·rw[qs e];by_cases e2:i=k
    ·rw[qr e2,qr e2]
    ·rw[qs e2,qs e2,qs e]
  rw[comm,comm,comm,T3 1 _ _ _ hk,Int.one_mul]
 have s2:∀ (u v v':Nat->Int),det n (rs (rs a k u) l λc=>1*v c+v' c)=det n (rs (rs a k u) l v)+det n (rs (rs a k u) l v'):=λu v v'=>by
  rw[T3 1 _ _ _ hl,Int.one_mul]
 have z:∀ u,det n (rs (rs a k u) l u)=0:=λu=>zero _ λc=>by
  unfold rs;rw[qs hkl,qr rfl,qr rfl]
 have all:=z (λc=>1*a k c+a l c);rw[s1,s2,s2,z,z] at all;have e1:rs (rs a k (a k)) l (a l)=a:=by rw[A0z,A0z]
 have e2:rs (rs a k (a l)) l (a k)=λi=>a (sw k l i):=by
  funext i c;unfold rs sw;by_cases e:i=l
  ·subst e;sleep 40
  ·rw[qs e];by_cases e2:i=k
   ·rw[qr e2,qr e2]
   ·rw[qs e2,qs e2,qs e]
 rw[e1,e2] at all;lia
theorem C2j {n:Nat} (hk:k+1 < n) (a:Mat):det n (λi=>a (sw k (k+1) i))=- det n a:=B65 (by lia) hk (by lia) (λb h=>A68 hk h) a
theorem A7d {n:Nat}:∀ (m:Nat) {a:Mat} {k:Nat},k+1+m < n->(∀ c,a k c=a (k+1+m) c)->det n a=0
 | 0,a,k,hk,h=>A68 hk h
 | m+1,a,k,hk,h=>by
  have e:=C2j (n:=n) (k:=k+1+m) hk a;have z:det n (λi=>a (sw (k+1+m) (k+1+m+1) i))=0:=A7d m (k:=k) (by lia) λc=>by
   show a (sw _ _ k) c=a (sw _ _ (k+1+m)) c;unfold sw;rw[qs (by lia),qs (by lia),qr rfl];exact h c
  lia
theorem A2f {n:Nat} {a:Mat} (hk:k < n) (hl:l < n) (hkl:k≠l) (h:∀ c,a k c=a l c):det n a=0:=by
 by_cases e:k < l
 ·exact A7d (l - k - 1) (k:=k) (by omega) λc=>by rw[show k+1+(l - k - 1)=l by omega];exact h c
 ·exact A7d (k - l - 1) (k:=l) (by omega) λc=>by rw[show l+1+(k - l - 1)=k by omega];exact (h c).symm
theorem C4a {n:Nat} (hk:k < n) (hl:l < n) (hkl:k≠l) (a:Mat):det n (λi=>a (sw k l i))=- det n a:=B65 hk hl hkl (λb h=>A2f hk hl hkl h) a
def mv (f i:Nat):Nat:=if i=0 then f else skip f (i - 1)
def mvt (f t i:Nat):Nat:=if i < f - t then i else if i=f - t then f else if i<=f then i - 1 else i
theorem B3r {f t:Nat} (h:t < f) (i:Nat):mvt f (t+1) i=mvt f t (sw (f - t - 1) (f - t) i):=by
 unfold mvt sw;by_cases h1:i=f - t - 1
 ·rw[qr h1,qs (by lia),qr (by lia),qs (by lia),qr rfl]
 ·rw[qs h1];by_cases h2:i=f - t
  ·rw[qr h2,qs (by lia),qs (by lia),qr (by lia),qr (by lia)];lia
  ·rw[qs h2];by_cases h3:i < f - t
   ·rw[qr (by lia),qr h3]
   ·rw[qs (by lia),qs (by lia),qs h3,qs h2]
theorem B7g {n f:Nat} (hf:f < n) (a:Mat):∀ t,t<=f->det n (λi=>a (mvt f t i))=alt t*det n a
 | 0,_=>by
  have:(λi=>a (mvt f 0 i))=a:=by
   funext i;congr 1;unfold mvt;split
   ·rfl
   ·split
    ·lia
    ·split<;>lia
  rw[this];show _=1*_;rw[Int.one_mul]
 | t+1,ht=>by
  have e:(λi=>a (mvt f (t+1) i))=λi=>(λj=>a (mvt f t j)) (sw (f - t - 1) (f - t) i):=by
   funext i;rw[B3r (by lia)]
  have s:=C4a (n:=n) (k:=f - t - 1) (l:=f - t) (by lia) (by lia) (by lia) (λj=>a (mvt f t j));rw[B7g hf a t (by lia)] at s;rw[e];refine s.trans ?_;show _=- alt t*_;rw[Int.neg_mul]
theorem D34 {n f:Nat} (hf:f < n) (a:Mat):det n (λi=>a (mv f i))=alt f*det n a:=by
 rw[<-B7g hf a f (qt f)];congr 1;funext i;congr 1;unfold mv mvt skip;rw[Nat.sub_self];by_cases h:i=0
 ·simp[h]
 ·by_cases h2:i<=f
  ·have h3:i - 1 < f:=by lia
   simp[h,h2,h3]
  ·have h3:¬ i - 1 < f:=by lia
   simp[h,h2,h3];lia
theorem B0c {n:Nat} {a:Mat} (h:∀ i,1<=i->i < n+1->a i 0=0):det (n+1) a=a 0 0*det n (λr c=>a (r+1) (c+1)):=by
 rw[K8,A0o 0 (by lia)]
 ·show 1*a 0 0*det n (sub a 0)=_;rw[Int.one_mul];congr 1
 ·intro i hi hn;rw[h i (by lia) hi,Int.mul_zero,Int.zero_mul]
theorem det_col0 {n:Nat} {a:Mat} (h:∀ i,i < n+1->a i 0=0):det (n+1) a=0:=by
 rw[K8];exact Y3 λi hi=>by rw[h i hi,Int.mul_zero,Int.zero_mul]
def C2k (a:Mat):Mat:=λi j=>a 0 0*a (i+1) (j+1) - a (i+1) 0*a 0 (j+1)
def chi (a:Mat) (t:Nat):Mat:=λi c=>if 1<=i/\i<=t then a 0 0*a i c - a i 0*a 0 c else a i c
theorem B6j {n:Nat} (a:Mat):∀ t,t<=n->det (n+1) (chi a t)=a 0 0 ^ t*det (n+1) a
 | 0,_=>by
  have:chi a 0=a:=by
   funext i c;unfold chi;rw[qs (by lia)]
  rw[this,Int.pow_zero,Int.one_mul]
 | t+1,ht=>by
  have e:chi a (t+1)=rs (chi a t) (t+1) λc=>a 0 0*a (t+1) c+(- a (t+1) 0*a 0 c+0):=by
   funext i c;show (if 1<=i/\i<=t+1 then a 0 0*a i c - a i 0*a 0 c else a i c)=if i=t+1 then a 0 0*a (t+1) c+(- a (t+1) 0*a 0 c+0) else if 1<=i/\i<=t then a 0 0*a i c - a i 0*a 0 c else a i c
   by_cases h:i=t+1
   ·subst h;rw[qr (by lia),qr rfl,Int.neg_mul];lia
   ·rw[qs h];by_cases h2:1<=i/\i<=t
    ·rw[qr (by lia),qr h2]
    ·rw[qs (by lia),qs h2]
  have l1:=T3 (a 0 0) (n:=n+1) (k:=t+1) (chi a t) (a (t+1)) (λc=>- a (t+1) 0*a 0 c+0) (by lia);have l2:=T3 (- a (t+1) 0) (n:=n+1) (k:=t+1) (chi a t) (a 0) (λ_=>0) (by lia);have z1:det (n+1) (rs (chi a t) (t+1) (a 0))=0:=A2f (k:=0) (l:=t+1) (by lia) (by lia) (by lia) λc=>by
   unfold rs chi;rw[qs (by lia),qs (by lia),qr rfl]
  have z2:det (n+1) (rs (chi a t) (t+1) λ_=>0)=0:=by
   have:=T3 (-1) (n:=n+1) (k:=t+1) (chi a t) (λ_=>0) (λ_=>0) (by lia);simp only[Int.mul_zero,Int.add_zero] at this;lia
  have same:rs (chi a t) (t+1) (a (t+1))=chi a t:=by
   funext i c;unfold rs;by_cases h:i=t+1
   ·subst h;rw[qr rfl];unfold chi;rw[qs (by lia)]
   ·rw[qs h]
  rw[e,l1,l2,z1,z2,same,B6j a t (by lia),Int.mul_zero,Int.add_zero,Int.add_zero,Int.pow_succ,<-Int.mul_assoc,Int.mul_comm (a 0 0)]
theorem D0n {n:Nat} (a:Mat):a 0 0*det n (C2k a)=a 0 0 ^ n*det (n+1) a:=by
 rw[<-B6j a n (qt n),B0c (a:=chi a n)]
 ·congr 1;refine det_congr λi j hi hj=>?_;unfold C2k chi;rw[qr (by lia)]
 ·intro i h1 h2;unfold chi;rw[qr (by lia),Int.mul_comm];lia
def Pi (m:Nat) (M:Mat) (p:Int):Prop:=∀ (r:Nat) (O γ:Nat->Nat),(∀ i,i < r+1->O i < m)->(∀ i,i < r+1->γ i < m)->p ^ r ∣ det (r+1) (λi j=>M (O i) (γ j))
theorem Pi.one {M:Mat}:Pi m M 1:=λr _ _ _ _=>by rw[Int.one_pow];exact Int.one_dvd _
def nxt (M:Mat) (f:Nat) (p:Int):Mat:=λi j=>(M f 0*M (skip f i) (j+1) - M (skip f i) 0*M f (j+1)) / p
theorem det1 (a:Mat):det 1 a=a 0 0:=by
 show 0+1*a 0 0*1=_;rw[Int.one_mul,Int.mul_one];lia
theorem E2r (a:Mat):det 2 a=a 0 0*a 1 1 - a 1 0*a 0 1:=by
 show 0+1*a 0 0*det 1 (sub a 0)+(-1)*a 1 0*det 1 (sub a 1)=_;rw[det1,det1];show 0+1*a 0 0*a 1 1+(-1)*a 1 0*a 0 1=_;rw[Int.one_mul,Int.neg_mul,Int.neg_mul,Int.one_mul];lia
theorem nxt_exact {M:Mat} (h:Pi (m+1) M p) {f i:Nat} (hf:f < m+1) (hi:i < m) (hj:j < m):p*nxt M f p i j=M f 0*M (skip f i) (j+1) - M (skip f i) 0*M f (j+1):=by
 have:=h 1 (λk=>if k=0 then f else skip f i) (λk=>if k=0 then 0 else j+1) (λk hk=>by show (if k=0 then f else skip f i) < _;split;exact hf;exact skip_lt hi) (λk hk=>by show (if k=0 then 0 else j+1) < _;split<;>lia);rw[E2r,Int.pow_one] at this;have this:p ∣ M f 0*M (skip f i) (j+1) - M (skip f i) 0*M f (j+1):=this;unfold nxt;exact Int.mul_ediv_cancel' this
theorem A2b (p:Int):∀ (n:Nat) (a:Mat),det n (λi j=>p*a i j)=p ^ n*det n a
 | 0,_=>by rw[Int.pow_zero];rfl
 | n+1,a=>by
  rw[K8,K8];have e:∀ i,alt i*(p*a i 0)*det n (sub (λi j=>p*a i j) i)=p ^ (n+1)*(alt i*a i 0*det n (sub a i))+0:=λi=>by
   have:sub (λi j=>p*a i j) i=λr c=>p*sub a i r c:=rfl;rw[this,A2b p n,Int.pow_succ,Int.add_zero];generalize p ^ n=q;generalize det n (sub a i)=d;generalize alt i=s;generalize a i 0=x
   ac_rfl
  rw[S_congr λi _=>e i,A5o,Y3 λ_ _=>rfl,Int.add_zero]
theorem Pi.step {M:Mat} (h:Pi (m+1) M p) (hp:p≠0) {f:Nat} (hf:f < m+1) (hq:M f 0≠0):Pi m (nxt M f p) (M f 0):=by
 intro r O γ h1 h2;obtain ⟨N,hN⟩:∃ N:Mat,N=λi j=>M (if i=0 then f else skip f (O (i - 1))) (if j=0 then 0 else γ (j - 1)+1):=⟨_,rfl⟩;have d1:=h (r+1) (λi=>if i=0 then f else skip f (O (i - 1))) (λj=>if j=0 then 0 else γ (j - 1)+1)
  (λi hi=>by show (if i=0 then f else _) < _;split;exact hf;exact skip_lt (h1 _ (by lia))) (λj hj=>by show (if j=0 then 0 else _) < _;split;lia;have:=h2 (j - 1) (by lia);lia)
 rw[<-hN] at d1;obtain ⟨q,hq'⟩:=d1;have c:=D0n (n:=r+1) N;have e:det (r+1) (C2k N)=p ^ (r+1)*det (r+1) (λi j=>nxt M f p (O i) (γ j)):=by
  rw[<-A2b];refine det_congr λi j hi hj=>?_;rw[nxt_exact h hf (h1 i hi) (h2 j hj),hN];show M (if 0=0 then _ else _) _*M (if i+1=0 then _ else _) (if j+1=0 then _ else _) - M (if i+1=0 then _ else _) (if 0=0 then _ else _)*M (if 0=0 then _ else _) (if j+1=0 then _ else _)=_;simp
 have n00:N 0 0=M f 0:=by rw[hN];rfl
 rw[e,hq',n00] at c;have pp:p ^ (r+1)≠0:=Int.pow_ne_zero hp;have c2:det (r+1) (λi j=>nxt M f p (O i) (γ j))=M f 0 ^ r*q:=by
  have:p ^ (r+1)*(M f 0*det (r+1) (λi j=>nxt M f p (O i) (γ j)))=p ^ (r+1)*(M f 0*(M f 0 ^ r*q)):=by
   have l:M f 0*(p ^ (r+1)*det (r+1) (λi j=>nxt M f p (O i) (γ j)))=p ^ (r+1)*(M f 0*det (r+1) (λi j=>nxt M f p (O i) (γ j))):=by
    rw[<-Int.mul_assoc,<-Int.mul_assoc,Int.mul_comm (M f 0)]
   have r':M f 0 ^ (r+1)*(p ^ (r+1)*q)=p ^ (r+1)*(M f 0*(M f 0 ^ r*q)):=by
    rw[Int.pow_succ (M f 0) r];ac_rfl
   rw[<-l,<-r',c]
  exact Int.eq_of_mul_eq_mul_left hq (Int.eq_of_mul_eq_mul_left pp this)
 exact ⟨q,c2⟩
theorem C0g {M:Mat} (h:Pi (m+1) M p) {f:Nat} (hf:f < m+1) (hq:M f 0≠0):M f 0*(p ^ m*det m (nxt M f p))=M f 0 ^ m*(alt f*det (m+1) M):=by
 have c:=D0n (n:=m) (λi=>M (mv f i));rw[D34 hf] at c;have e:det m (C2k λi=>M (mv f i))=p ^ m*det m (nxt M f p):=by
  rw[<-A2b];refine det_congr λi j hi hj=>?_;rw[nxt_exact h hf hi hj];show M (mv f 0) 0*M (mv f (i+1)) (j+1) - M (mv f (i+1)) 0*M (mv f 0) (j+1)=_;rfl
 rw[e] at c;exact c
theorem bar_step {M:Mat} {b:Int} (h:Pi (m+2) M p) {f:Nat} (hf:f < m+2) (hq:M f 0≠0) (hb:b*M f 0 ^ m=det (m+1) (nxt M f p)):alt f*b*p ^ (m+1)=det (m+2) M:=by
 have c:=C0g h hf hq;rw[<-hb] at c;have q:M f 0 ^ (m+1)≠0:=Int.pow_ne_zero hq;have:M f 0 ^ (m+1)*(p ^ (m+1)*b)=M f 0 ^ (m+1)*(alt f*det (m+2) M):=by
  rw[<-c,Int.pow_succ (M f 0) m];generalize M f 0 ^ m=x;generalize M f 0=y;generalize p ^ (m+1)=z;rw[Int.mul_comm x y,Int.mul_assoc,Int.mul_comm x,Int.mul_assoc]
 have e:=Int.eq_of_mul_eq_mul_left q this;rw[Int.mul_assoc,Int.mul_comm b,e,<-Int.mul_assoc,C2t,Int.one_mul]
theorem A16 (n:Nat) (f:Nat->Int):S (n+1) f=S n f+f n:=rfl
theorem B1h:∀ (n:Nat) (f:Nat->Int),S (n+1) f=f 0+S n (λi=>f (i+1))
 | 0,f=>by rw[A16];show 0+f 0=f 0+0;lia
 | n+1,f=>by rw[A16,B1h n f,A16 n (λi=>f (i+1))];lia
theorem B01 (n:Nat) (f g:Nat->Int):S n (λi=>f i+g i)=S n f+S n g:=by
 have:=A5o 1 n f g;simpa using this
theorem A1h (x:Int) (n:Nat) (f:Nat->Int):S n (λi=>x*f i)=x*S n f:=by
 have:=A5o x n f (λ_=>0);rw[Y3 (f:=λ_=>0) λ_ _=>rfl] at this;simpa using this
theorem B4w (m:Nat) (f:Nat->Nat->Int):∀ n,S n (λi=>S m (λj=>f i j))=S m (λj=>S n (λi=>f i j))
 | 0=>(Y3 λ_ _=>rfl).symm
 | n+1=>by
  rw[A16,B4w m f n,<-B01];rfl
def A14 (a:Mat) (j:Nat):Mat:=λr c=>a (r+1) (skip j c)
theorem B77 (i r:Nat):skip (i+1) (r+1)=skip i r+1:=by unfold skip;split<;>split<;>lia
theorem C21 (a:Mat) (i j:Nat):A14 (sub a (i+1)) j=sub (A14 a (j+1)) i:=by
 funext r c;show a (skip (i+1) (r+1)) (skip j c+1)=a (skip i r+1) (skip (j+1) (c+1));rw[B77,B77]
theorem B0f:∀ (n:Nat) (a:Mat),det (n+1) a=S (n+1) λj=>alt j*a 0 j*det n (A14 a j)
 | 0,a=>by rw[K8,A16,A16];rfl
 | n+1,a=>by
  rw[K8,B1h,B1h (n+1) λj=>alt j*a 0 j*det (n+1) (A14 a j)];have e0:sub a 0=A14 a 0:=rfl;rw[e0];congr 1;have l:S (n+1) (λi=>alt (i+1)*a (i+1) 0*det (n+1) (sub a (i+1)))=S (n+1) (λi=>S (n+1) λj=>- (alt i*alt j*a (i+1) 0*a 0 (j+1)*det n (sub (A14 a (j+1)) i))):=by
   refine S_congr λi hi=>?_;rw[B0f n (sub a (i+1)),<-A1h];refine S_congr λj hj=>?_;rw[C21];show (- alt i)*a (i+1) 0*(alt j*a 0 (j+1)*det n (sub (A14 a (j+1)) i))=_;generalize det n (sub (A14 a (j+1)) i)=z
   grind
  have r:S (n+1) (λj=>alt (j+1)*a 0 (j+1)*det (n+1) (A14 a (j+1)))=S (n+1) (λj=>S (n+1) λi=>- (alt i*alt j*a (i+1) 0*a 0 (j+1)*det n (sub (A14 a (j+1)) i))):=by
   refine S_congr λj hj=>?_;rw[K8 n (A14 a (j+1)),<-A1h];refine S_congr λi hi=>?_;show (- alt j)*a 0 (j+1)*(alt i*a (i+1) 0*det n (sub (A14 a (j+1)) i))=_;generalize det n (sub (A14 a (j+1)) i)=z
   grind
  rw[l,r,B4w]
theorem D4d (B:Nat):∀ (n:Nat) (f:Nat->Int),(∀ i,i < n->(f i).natAbs<=B)->(S n f).natAbs<=n*B
 | 0,f,_=>by show (0:Int).natAbs<=_;simp
 | n+1,f,h=>by
  rw[A16,Nat.succ_mul];have h1:=D4d B n f λi hi=>h i (by omega);have h2:=h n (by omega)
  omega
theorem B84:∀ i,(alt i).natAbs=1
 | 0=>rfl
 | i+1=>by show (- alt i).natAbs=1;rw[Int.natAbs_neg];exact B84 i
theorem B7e (h:c≠j):skip j (un j c)=c:=by unfold skip un;split<;>(try split)<;>lia
theorem C6m (j c:Nat):un j (skip j c)=c:=by unfold skip un;split<;>(try split)<;>lia
theorem C84 (j c:Nat):skip j c≠j:=by unfold skip;split<;>lia
theorem A3c:∀ (n:Nat) (a:Mat),det n (λi j=>a j i)=det n a
 | 0,_=>rfl
 | n+1,a=>by
  rw[B0f n a,K8];refine S_congr λi hi=>?_;have e:sub (λi j=>a j i) i=λr c=>(A14 a i) c r:=rfl;rw[e,A3c n (A14 a i)]
structure Alt (n:Nat) (F:Mat->Int):Prop where
 cong:∀ a b:Mat,(∀ i j,i < n->j < n->a i j=b i j)->F a=F b
 lin:∀ (x:Int) (a:Mat) (k:Nat) (u v:Nat->Int),k < n->F (rs a k λc=>x*u c+v c)=x*F (rs a k u)+F (rs a k v)
 eq0:∀ (a:Mat) (k l:Nat),k < n->l < n->k≠l->(∀ c,a k c=a l c)->F a=0
theorem Alt.swap {n:Nat} {F:Mat->Int} (A:Alt n F) (hk:k < n) (hl:l < n) (hkl:k≠l) (a:Mat):F (λi=>a (sw k l i))=- F a:=by
 have s1:∀ (u u' v:Nat->Int),F (rs (rs a k λc=>1*u c+u' c) l v)=F (rs (rs a k u) l v)+F (rs (rs a k u') l v):=λu u' v=>by
  have comm:∀ w,rs (rs a k w) l v=rs (rs a l v) k w:=λw=>by
   funext i c;unfold rs;by_cases e:i=l
   ·subst e;sleep 40
   ·rw[qs e];by_cases e2:i=k
    ·rw[qr e2,qr e2]
    ·rw[qs e2,qs e2,qs e]
  rw[comm,comm,comm,A.lin 1 _ _ _ _ hk,Int.one_mul]
 have s2:∀ (u v v':Nat->Int),F (rs (rs a k u) l λc=>1*v c+v' c)=F (rs (rs a k u) l v)+F (rs (rs a k u) l v'):=λu v v'=>by
  rw[A.lin 1 _ _ _ _ hl,Int.one_mul]
 have z:∀ u,F (rs (rs a k u) l u)=0:=λu=>A.eq0 _ k l hk hl hkl λc=>by
  unfold rs;rw[qs hkl,qr rfl,qr rfl]
 have all:=z (λc=>1*a k c+a l c);rw[s1,s2,s2,z,z] at all;have e1:rs (rs a k (a k)) l (a l)=a:=by rw[A0z,A0z]
 have e2:rs (rs a k (a l)) l (a k)=λi=>a (sw k l i):=by
  funext i c;unfold rs sw;by_cases e:i=l
  ·subst e;sleep 40
  ·rw[qs e];by_cases e2:i=k
   ·rw[qr e2,qr e2]
   ·rw[qs e2,qs e2,qs e]
 rw[e1,e2] at all;lia
theorem Alt.mvt {n:Nat} {F:Mat->Int} (A:Alt n F) {f:Nat} (hf:f < n) (a:Mat):∀ t,t<=f->F (λi=>a (MDet.mvt f t i))=alt t*F a
 | 0,_=>by
  have:(λi=>a (MDet.mvt f 0 i))=a:=by
   funext i;congr 1;unfold MDet.mvt;split
   ·rfl
   ·split
    ·lia
    ·split<;>lia
  rw[this];show _=1*_;rw[Int.one_mul]
 | t+1,ht=>by
  have e:(λi=>a (MDet.mvt f (t+1) i))=λi=>(λj=>a (MDet.mvt f t j)) (sw (f - t - 1) (f - t) i):=by
   funext i;rw[B3r (by lia)]
  have s:=A.swap (k:=f - t - 1) (l:=f - t) (by lia) (by lia) (by lia) (λj=>a (MDet.mvt f t j));rw[A.mvt hf a t (by lia)] at s;rw[e];refine s.trans ?_;show _=- alt t*_;rw[Int.neg_mul]
theorem Alt.mv {n:Nat} {F:Mat->Int} (A:Alt n F) {f:Nat} (hf:f < n) (a:Mat):F (λi=>a (MDet.mv f i))=alt f*F a:=by
 rw[<-A.mvt hf a f (qt f)];congr 1;funext i;congr 1;unfold MDet.mv MDet.mvt skip;rw[Nat.sub_self];by_cases h:i=0
 ·simp[h]
 ·by_cases h2:i<=f
  ·have h3:i - 1 < f:=by lia
   simp[h,h2,h3]
  ·have h3:¬ i - 1 < f:=by lia
   simp[h,h2,h3];lia
def eu (j:Nat):Nat->Int:=λc=>if c=j then 1 else 0
def idm:Mat:=λi j=>if i=j then 1 else 0
theorem Alt.row0 {n:Nat} {F:Mat->Int} (A:Alt (n+1) F) (a:Mat):∀ m,F (rs a 0 λc=>if c < m then a 0 c else 0)=S m λj=>a 0 j*F (rs a 0 (eu j))
 | 0=>by
  have e:=A.lin 1 a 0 (λ_=>0) (λ_=>0) (by lia);have e2:(λc:Nat=>(1:Int)*(λ_=>0) c+(λ_=>0) c)=λ_=>0:=by funext c;rfl
  have e3:(λc:Nat=>if c < 0 then a 0 c else 0)=λ_=>0:=by funext c;rw[qs (by lia)]
  rw[e2] at e;rw[e3];show _=(0:Int);lia
 | m+1=>by
  rw[A16,<-A.row0 a m];have e:(λc:Nat=>if c < m+1 then a 0 c else 0)=λc=>a 0 m*eu m c+(λc=>if c < m then a 0 c else 0) c:=by
   funext c;unfold eu;by_cases h:c=m
   ·subst h;simp
   ·by_cases h2:c < m
    ·have:c < m+1:=by lia
     simp[h,h2,this]
    ·have:¬ c < m+1:=by lia
     simp[h,h2,this]
  rw[e,A.lin (a 0 m) a 0 (eu m) _ (by lia),Int.add_comm]
def A8y (j:Nat) (w:Nat->Int):Nat->Int:=λc=>if c=j then 0 else w (un j c)
def ins (j:Nat) (b:Mat):Mat:=λi c=>if i=0 then eu j c else A8y j (b (i - 1)) c
theorem Alt.clear {n:Nat} {F:Mat->Int} (A:Alt (n+1) F) (a:Mat) (j:Nat):∀ t,t<=n->F (λi c=>if i=0 then eu j c else if i<=t/\c=j then 0 else a i c)=F (rs a 0 (eu j))
 | 0,_=>by
  congr 1;funext i c;unfold rs;by_cases h:i=0
  ·rw[qr h,qr h]
  ·rw[qs h,qs h,qs (by lia)]
 | t+1,ht=>by
  rw[<-A.clear a j t (by lia)];generalize hM:(λ(i c:Nat)=>if i=0 then eu j c else if i<=t/\c=j then 0 else a i c)=M;have e:(λ(i c:Nat)=>if i=0 then eu j c else if i<=t+1/\c=j then 0 else a i c)=rs M (t+1) λc=>(- a (t+1) j)*eu j c+M (t+1) c:=by
   funext i c;subst hM;unfold rs eu;dsimp only;by_cases h:i=t+1
   ·subst h;by_cases h2:c=j
    ·subst h2;simp;lia
    ·simp[h2]
   ·rw[qs h];by_cases h2:i=0
    ·rw[qr h2,qr h2]
    ·rw[qs h2,qs h2];by_cases h3:i<=t/\c=j
     ·rw[qr h3,qr ⟨by lia,h3.2⟩]
     ·rw[qs h3,qs (λz=>h3 ⟨by lia,z.2⟩)]
  rw[e,A.lin _ M (t+1) _ _ (by lia),A0z];have z:F (rs M (t+1) (eu j))=0:=A.eq0 _ 0 (t+1) (by lia) (by lia) (by lia) λc=>by
   subst hM;unfold rs;dsimp only;rw[qs (by lia),qr rfl,qr rfl]
  rw[z];lia
theorem B4s (j:Nat) (b:Mat) (k:Nat) (w:Nat->Int):ins j (rs b k w)=rs (ins j b) (k+1) (A8y j w):=by
 funext i c;unfold ins rs;dsimp only;by_cases h:i=0
 ·rw[qr h,qs (by lia),qr h]
 ·rw[qs h];by_cases h2:i=k+1
  ·have h3:i - 1=k:=by lia
   rw[qr h2];unfold A8y;simp only[h3,if_true]
  ·have h3:¬ i - 1=k:=by lia
   rw[qs h2,qs h];unfold A8y;simp only[h3,if_false]
theorem Alt.sub {n:Nat} {F:Mat->Int} (A:Alt (n+1) F) (j:Nat) (hj:j < n+1):Alt n λb=>F (ins j b):=by
 refine ⟨λa b h=>A.cong _ _ λi c hi hc=>?_,λx a k u v hk=>?_,λa k l hk hl hkl h=>A.eq0 _ (k+1) (l+1) (by lia) (by lia) (by lia) λc=>?_⟩
 ·unfold ins A8y;by_cases h0:i=0
  ·rw[qr h0,qr h0]
  ·rw[qs h0,qs h0];by_cases h1:c=j
   ·rw[qr h1,qr h1]
   ·rw[qs h1,qs h1];exact h _ _ (by lia) (C98 (λz=>h1 z.symm) hj hc)
 ·show F (ins j (rs a k _))=x*F (ins j (rs a k u))+F (ins j (rs a k v));rw[B4s,B4s,B4s,<-A.lin x _ _ _ _ (by lia)];congr 2;funext c;unfold A8y;split<;>simp
 ·show ins j a (k+1) c=ins j a (l+1) c;have e1:∀ k,ins j a (k+1) c=A8y j (a k) c:=λk=>rfl;rw[e1,e1];unfold A8y;split
  ·rfl
  ·exact h _
theorem Alt.uniq:∀ {n:Nat} {F:Mat->Int},Alt n F->∀ a,F a=det n a*F idm
 | 0,F,A,a=>by
  rw[A.cong a idm λi j hi _=>by lia];show _=1*_;rw[Int.one_mul]
 | n+1,F,A,a=>by
  have h1:F a=S (n+1) λj=>a 0 j*F (rs a 0 (eu j)):=by
   rw[<-A.row0 a (n+1)];refine A.cong _ _ λi c hi hc=>?_;unfold rs;dsimp only;by_cases h:i=0
   ·subst h;rw[qr rfl,qr hc]
   ·rw[qs h]
  rw[h1,B0f,Int.mul_comm,<-A1h];refine S_congr λj hj=>?_;have h2:F (rs a 0 (eu j))=F (ins j (A14 a j)):=by
   rw[<-A.clear a j n (qt n)];refine A.cong _ _ λi c hi hc=>?_;unfold ins A8y;by_cases h:i=0
   ·rw[qr h,qr h]
   ·rw[qs h,qs h];by_cases h3:c=j
    ·rw[qr ⟨by lia,h3⟩,qr h3]
    ·rw[qs (λz=>h3 z.2),qs h3];show a i c=a (i - 1+1) (skip j (un j c));rw[B7e h3,show i - 1+1=i by lia]
  have h3:F (ins j (A14 a j))=det n (A14 a j)*F (ins j idm):=Alt.uniq (A.sub j hj) (A14 a j);have h4:ins j idm=λi=>idm (MDet.mv j i):=by
   funext i c;unfold ins A8y idm eu MDet.mv;by_cases h:i=0
   ·rw[qr h,qr h];by_cases h2:c=j
    ·rw[qr h2,qr h2.symm]
    ·rw[qs h2,qs (λz=>h2 z.symm)]
   ·rw[qs h,qs h];by_cases h2:c=j
    ·rw[qr h2,qs (λz=>C84 j _ (z.trans h2))]
    ·rw[qs h2];by_cases h5:i - 1=un j c
     ·rw[qr h5,qr (by rw[h5];exact B7e h2)]
     ·rw[qs h5,qs (λz=>h5 (by rw[<-z,C6m]))]
  rw[h2,h3,h4,A.mv hj idm]
  grind
def A4g (n:Nat) (a b:Mat):Mat:=λi j=>S n λk=>a i k*b k j
theorem B1c (n:Nat) (a b:Mat) (k:Nat) (w:Nat->Int):A4g n (rs a k w) b=rs (A4g n a b) k λj=>S n λt=>w t*b t j:=by
 funext i j;unfold A4g rs;by_cases h:i=k
 ·rw[qr h];refine S_congr λt _=>?_;rw[qr h]
 ·rw[qs h];refine S_congr λt _=>?_;rw[qs h]
theorem A6e (n:Nat) (a b:Mat):det n (A4g n a b)=det n a*det n b:=by
 have A:Alt n λa=>det n (A4g n a b):=by
  refine ⟨λa a' h=>det_congr λi j hi hj=>S_congr λk hk=>by rw[h i k hi hk],λx a k u v hk=>?_,λa k l hk hl hkl h=>A2f hk hl hkl λc=>S_congr λt _=>by rw[h t]⟩;show det n (A4g n (rs a k _) b)=x*det n (A4g n (rs a k u) b)+det n (A4g n (rs a k v) b);rw[B1c,B1c,B1c,<-T3 x _ _ _ hk];congr 2;funext j;rw[<-A5o];exact S_congr λt _=>by rw[Int.add_mul,Int.mul_assoc]
 have h:=A.uniq a;have e:det n (A4g n idm b)=det n b:=det_congr λi j hi hj=>by
  unfold A4g idm;rw[A0o i hi λk _ hk=>by rw[qs (λz=>hk z.symm),Int.zero_mul]];rw[qr rfl,Int.one_mul]
 rw[<-e];exact h
theorem D9q {M:Mat} (h:Pi (m+1) M p) (hp:p≠0) {f:Nat} (hf:f < m+1) (hq:M f 0≠0) {O:Nat->Nat} (h1:∀ i,i < r+1->O i < m) (h2:∀ i,i < r+1->γ i < m) {q:Int} (hq':det (r+1+1) (λi j=>M (if i=0 then f else skip f (O (i - 1))) (if j=0 then 0 else γ (j - 1)+1))=p ^ (r+1)*q):det (r+1) (λi j=>nxt M f p (O i) (γ j))=M f 0 ^ r*q:=by
 obtain ⟨N,hN⟩:∃ N:Mat,N=λi j=>M (if i=0 then f else skip f (O (i - 1))) (if j=0 then 0 else γ (j - 1)+1):=⟨_,rfl⟩;rw[<-hN] at hq';have c:=D0n (n:=r+1) N;have e:det (r+1) (C2k N)=p ^ (r+1)*det (r+1) (λi j=>nxt M f p (O i) (γ j)):=by
  rw[<-A2b];refine det_congr λi j hi hj=>?_;rw[nxt_exact h hf (h1 i hi) (h2 j hj),hN];show M (if 0=0 then _ else _) _*M (if i+1=0 then _ else _) (if j+1=0 then _ else _) - M (if i+1=0 then _ else _) (if 0=0 then _ else _)*M (if 0=0 then _ else _) (if j+1=0 then _ else _)=_;simp
 have n00:N 0 0=M f 0:=by rw[hN];rfl
 rw[e,hq',n00] at c;have pp:p ^ (r+1)≠0:=Int.pow_ne_zero hp;have:p ^ (r+1)*(M f 0*det (r+1) (λi j=>nxt M f p (O i) (γ j)))=p ^ (r+1)*(M f 0*(M f 0 ^ r*q)):=by
  have l:M f 0*(p ^ (r+1)*det (r+1) (λi j=>nxt M f p (O i) (γ j)))=p ^ (r+1)*(M f 0*det (r+1) (λi j=>nxt M f p (O i) (γ j))):=by
   rw[<-Int.mul_assoc,<-Int.mul_assoc,Int.mul_comm (M f 0)]
  have r':M f 0 ^ (r+1)*(p ^ (r+1)*q)=p ^ (r+1)*(M f 0*(M f 0 ^ r*q)):=by
   rw[Int.pow_succ (M f 0) r];ac_rfl
  rw[<-l,<-r',c]
 exact Int.eq_of_mul_eq_mul_left hq (Int.eq_of_mul_eq_mul_left pp this)
def Pb (V:Nat->Int->Prop) (m:Nat) (M:Mat) (p:Int):Prop:=∀ (r:Nat) (O γ:Nat->Nat),r < m->(∀ i,i < r+1->O i < m)->(∀ i,i < r+1->γ i < m)->∀ q,det (r+1) (λi j=>M (O i) (γ j))=p ^ r*q->V r q
theorem Pb.step {V:Nat->Int->Prop} {M:Mat} (b:Pb V (m+1) M p) (h:Pi (m+1) M p) (hp:p≠0) {f:Nat} (hf:f < m+1) (hq:M f 0≠0):Pb (λr=>V (r+1)) m (nxt M f p) (M f 0):=by
 intro r O γ hr h1 h2 q e;have g1:∀ i,i < r+1+1->(if i=0 then f else skip f (O (i - 1))) < m+1:=λi hi=>by split;exact hf;exact skip_lt (h1 _ (by lia))
 have g2:∀ j,j < r+1+1->(if j=0 then 0 else γ (j - 1)+1) < m+1:=λj hj=>by split;lia;have:=h2 (j - 1) (by lia);lia
 obtain ⟨q',hq'⟩:=h (r+1) (λi=>if i=0 then f else skip f (O (i - 1))) (λj=>if j=0 then 0 else γ (j - 1)+1) g1 g2;have e2:=D9q h hp hf hq h1 h2 hq';rw[e] at e2;have e3:q=q':=Int.eq_of_mul_eq_mul_left (Int.pow_ne_zero hq) e2;subst e3;exact b (r+1) _ _ (by lia) g1 g2 q hq'
theorem Pb.cell {V:Nat->Int->Prop} {M:Mat} (b:Pb V m M p) {i:Nat} (hi:i < m) (hj:j < m):V 0 (M i j) :=
 b 0 (λ_=>i) (λ_=>j) (by lia) (λ_ _=>hi) (λ_ _=>hj) _ (by rw[det1,Int.pow_zero,Int.one_mul])
theorem Pb.start {V:Nat->Int->Prop} {M:Mat} (h:∀ (r:Nat) (O γ:Nat->Nat),r < m->(∀ i,i < r+1->O i < m)->(∀ i,i < r+1->γ i < m)->V r (det (r+1) (λi j=>M (O i) (γ j)))):Pb V m M 1:=by
 intro r O γ hr h1 h2 q e;rw[Int.one_pow,Int.one_mul] at e;rw[<-e];exact h r O γ hr h1 h2
theorem det_bdc (c:Nat):∀ (n:Nat) (a:Mat),n<=8->(∀ i j,i < n->j < n->(a i j).natAbs<=2 ^ c)->(det n a).natAbs<=2 ^ ((c+3)*n)
 | 0,a,_,_=>by show (1:Int).natAbs<=_;simp
 | n+1,a,hn,h=>by
  rw[K8];refine zq (D4d (2 ^ (c+(c+3)*n)) (n+1) _ λi hi=>?_) ?_
  ·rw[Int.natAbs_mul,Int.natAbs_mul,B84,Nat.one_mul,Nat.pow_add];exact Nat.mul_le_mul (h i 0 hi (by lia)) (det_bdc c n (sub a i) (by lia) λr c hr hc=>h _ _ (skip_lt hr) (by lia))
  ·rw[show (c+3)*(n+1)=(c+(c+3)*n)+3 by rw[Nat.mul_succ];lia,Nat.pow_add 2 (c+(c+3)*n) 3,Nat.mul_comm];exact Nat.mul_le_mul_left _ (by lia)
end MDet
namespace M06
open MDet
structure Eu (a b B m s t n u:Int):Prop where
 e1:B=s*a+t*b
 e2:m=n*a+u*b
 B0:B≠0
 dv:∀ d:Int,d ∣ B->d ∣ m->d ∣ a/\d ∣ b
 s1:s.natAbs<=b.natAbs+1
 t1:t.natAbs<=a.natAbs+2*b.natAbs+1
 j1:B.natAbs*n.natAbs+m.natAbs*s.natAbs<=b.natAbs
 j2:B.natAbs*u.natAbs+m.natAbs*t.natAbs<=a.natAbs+2*b.natAbs
 sg:(0<=B/\0<=m)\/(B<=0/\m<=0)\/(0 < B/\m < 0/\B=a/\m=b/\s=1/\t=0/\n=0/\u=1)
variable {a s t n u y:Int} {j e k q:Nat} {r z:V}
theorem Eu.start {b:Int} (ha:0 < a):Eu a b a b 1 0 0 1 where
 e1:=by lia
 e2:=by lia
 B0:=by lia
 dv:=λd h1 h2=>⟨h1,h2⟩
 s1:=by simp
 t1:=by simp
 j1:=by simp
 j2:=by simp
 sg:=by
  by_cases h:0<=b
  ·exact .inl ⟨by lia,h⟩
  ·exact .inr (.inr ⟨ha,by lia,rfl,rfl,rfl,rfl,rfl,rfl⟩)
theorem A6o {x y z:Nat} (h:x*y<=z) (hx:0 < x):y<=z:=zq (Nat.le_mul_of_pos_left y hx) h
theorem B0w {B m:Int} (h:0 < m):0<=B.fmod m/\B.fmod m < m:=⟨Int.fmod_nonneg_of_pos B h,Int.fmod_lt_of_pos B h⟩
theorem D4r {B m:Int} (h:m < 0):B.fmod m<=0/\m < B.fmod m:=by
 have e:=Int.neg_fmod_neg (-B) (-m);have h1:=@B0w (-B) (-m) (by omega);rw[Int.neg_neg,Int.neg_neg] at e
 omega
theorem D3v {M Q R N S X A:Nat} (h3:X<=S+Q*N) (j:(M*Q+R)*N+M*S<=A):M*X+R*N<=A:=by
 have h4:=Nat.mul_le_mul_left M h3;rw[Nat.mul_add,<-Nat.mul_assoc] at h4;rw[Nat.add_mul] at j;lia
theorem D4e (a b s t n u q:Int):s*a+t*b - q*(n*a+u*b)=(s - q*n)*a+(t - q*u)*b:=by grind
theorem C3w {B m q r:Int} (B0:0<=B) (hm:0 < m) (e:m*q+r=B) (h0:0<=r) (h1:r < m):B.natAbs=m.natAbs*q.natAbs+r.natAbs:=by
 have hq:0<=q:=by
  rcases Int.lt_or_le q 0 with z|z
  ·have:=Int.mul_le_mul_of_nonneg_left (show q<=-1 by lia) (Int.le_of_lt hm);lia
  ·exact z
 have:=Int.natAbs_add_of_nonneg (Int.mul_nonneg (Int.le_of_lt hm) hq) h0;rw[e,Int.natAbs_mul] at this;exact this
theorem C8k {B m q r:Int} (hm:m≠0) (h:(0<=B/\0<=m)\/(B<=0/\m<=0)) (e:m*q+r=B) (hr:(0 < m->0<=r/\r < m)/\(m < 0->r<=0/\m < r)):B.natAbs=m.natAbs*q.natAbs+r.natAbs:=by
 rcases h with ⟨a,b⟩|⟨a,b⟩
 ·have b:0 < m:=by lia
  exact C3w a b e (hr.1 b).1 (hr.1 b).2
 ·have b:m < 0:=by lia
  have:=@C3w (-B) (-m) q (-r) (by lia) (by lia) (by rw[Int.neg_mul];lia) (by have:=(hr.2 b).1;lia) (by have:=(hr.2 b).2;lia);simpa only[Int.natAbs_neg] using this
theorem Eu.step {b B m:Int} (E:Eu a b B m s t n u) (hm:m≠0):Eu a b m (B - B.fdiv m*m) n u (s - B.fdiv m*n) (t - B.fdiv m*u)/\(B - B.fdiv m*m).natAbs < m.natAbs:=by
 have hr:(0 < m->0<=B.fmod m/\B.fmod m < m)/\(m < 0->B.fmod m<=0/\m < B.fmod m):=⟨B0w,D4r⟩;have hB:=Int.mul_fdiv_add_fmod B m;have er:B - B.fdiv m*m=B.fmod m:=by rw[Int.mul_comm];omega
 rw[er];generalize B.fdiv m=q at *;generalize B.fmod m=r at *;have b1:0 < B.natAbs:=by have:=E.B0;clear hB er hr;omega
 have key:∀ {S N:Int} {Z:Nat},B.natAbs*N.natAbs+m.natAbs*S.natAbs<=Z->(0<=B/\0<=m)\/(B<=0/\m<=0)->m.natAbs*(S - q*N).natAbs+r.natAbs*N.natAbs<=Z:=λ{S N Z} j h=>by
  rw[C8k hm h hB hr] at j;refine D3v ?_ j;rw[<-Int.natAbs_mul];exact Int.natAbs_sub_le _ _
 refine ⟨⟨E.e2,?_,hm,λd h1 h2=>E.dv d ?_ h1,?_,?_,?_,?_,?_⟩,?_⟩
 ·rw[<-er,E.e1,E.e2];exact D4e a b s t n u q
 ·rw[<-hB];exact Int.dvd_add (Int.dvd_mul_of_dvd_left h1) h2
 ·exact Nat.le_succ_of_le (A6o (zq (Nat.le_add_right _ _) E.j1) b1)
 ·exact Nat.le_succ_of_le (A6o (zq (Nat.le_add_right _ _) E.j2) b1)
 ·rcases E.sg with h|h|⟨_,_,_,rfl,rfl,rfl,rfl,rfl⟩
  ·exact key E.j1 (.inl h)
  ·exact key E.j1 (.inr h)
  ·simp
 ·rcases E.sg with h|h|⟨h1,h2,rfl,rfl,rfl,rfl,rfl,rfl⟩
  ·exact key E.j2 (.inl h)
  ·exact key E.j2 (.inr h)
  ·have:=(hr.2 h2);have e3:m.natAbs*q.natAbs=(m*q).natAbs:=(Int.natAbs_mul m q).symm;simp
   omega
 ·rcases Int.lt_or_gt_of_ne hm with h|h
  ·exact .inr (.inl ⟨Int.le_of_lt h,(hr.2 h).1⟩)
  ·exact .inl ⟨Int.le_of_lt h,(hr.1 h).1⟩
 ·rcases Int.lt_or_gt_of_ne hm with h|h
  ·have:=hr.2 h;clear hB er b1 key;omega
  ·have:=hr.1 h;clear hB er b1 key;omega
structure Shr (a b g s t:Int):Prop where
 g0:0 < g
 eq:g=s*a+t*b
 da:g ∣ a
 db:g ∣ b
 s1:s.natAbs<=b.natAbs+1
 t1:t.natAbs<=a.natAbs+2*b.natAbs+1
theorem Eu.fin {b B:Int} (E:Eu a b B 0 s t n u):if B < 0 then Shr a b (-B) (-s) (-t) else Shr a b B s t:=by
 obtain ⟨h1,h2⟩:=E.dv B (Int.dvd_refl B) (Int.dvd_zero B);have:=E.B0;have:=E.e1;split
 ·exact ⟨by lia,by rw[Int.neg_mul,Int.neg_mul];lia,Int.neg_dvd.mpr h1,Int.neg_dvd.mpr h2,by rw[Int.natAbs_neg];exact E.s1,by rw[Int.natAbs_neg];exact E.t1⟩
 ·exact ⟨by lia,this,h1,h2,E.s1,E.t1⟩
theorem Shr.one {b:Int} (h:0 < a) (d:a ∣ b):Shr a b a 1 0:=⟨h,by lia,Int.dvd_refl a,d,by simp,by simp⟩
abbrev V:=Nat->Int
inductive Sp (A:V->Prop):V->Prop
 | zero {w:V}:(∀ j,w j=0)->Sp A w
 | lin {u v w:V} (x:Int):A u->Sp A v->(∀ j,w j=x*u j+v j)->Sp A w
section
variable {A B:V->Prop} {u v w:V}
theorem Sp.mem (h:A u):Sp A u:=.lin 1 h (.zero (w:=λ_=>0) λ_=>rfl) λj=>by lia
theorem Sp.comb (x y:Int) (hu:Sp A u) (hv:Sp A v) (e:∀ j,w j=x*u j+y*v j):Sp A w:=by
 have sm:∀ {v w:V},Sp A v->(∀ j,w j=y*v j)->Sp A w:=λ{v w} h=>by
  intro e
  induction h generalizing w with
  | zero z=>exact .zero λj=>by rw[e,z];lia
  | @lin a b c x h1 _ h3 ih=>exact .lin (y*x) h1 (ih (w:=λj=>y*b j) λ_=>rfl) λj=>by rw[e,h3];grind
 induction hu generalizing w with
 | zero z=>exact sm hv λj=>by rw[e,z];lia
 | @lin a b c x' h1 _ h3 ih=>exact .lin (x*x') h1 (ih (w:=λj=>x*b j+y*v j) λ_=>rfl) λj=>by rw[e,h3];grind
theorem Sp.add (hu:Sp A u) (hv:Sp A v) (e:∀ j,w j=u j+v j):Sp A w:=hu.comb 1 1 hv λj=>by rw[e];lia
theorem Sp.mul (x:Int) (hu:Sp A u) (e:∀ j,w j=x*u j):Sp A w:=hu.comb x 0 hu λj=>by rw[e];lia
theorem Sp.trans (h:∀ u,A u->Sp B u) (hw:Sp A w):Sp B w:=by
 induction hw with
 | zero z=>exact .zero z
 | lin x a _ e ih=>exact (h _ a).comb x 1 ih λj=>by rw[e];lia
theorem Sp.mono (h:∀ u,A u->B u) (hw:Sp A w):Sp B w:=hw.trans λu a=>.mem (h u a)
theorem Sp.zeros (h:∀ u,A u->u j=0) (hw:Sp A w):w j=0:=by
 induction hw with
 | zero q=>exact q j
 | lin x a _ e ih=>rw[e,h _ a,ih];lia
end
abbrev Ls (R:List V):V->Prop:=λv=>v∈R
theorem Sp.cons {v w:V} {R:List V} (h:Sp (Ls (v::R)) w):∃ (x:Int) (w':V),Sp (Ls R) w'/\∀ j,w j=x*v j+w' j:=by
 induction h with
 | zero z=>exact ⟨0,λ_=>0,.zero λ_=>rfl,λj=>by rw[z];show 0=0*v j+0;lia⟩
 | @lin a b c x h1 _ h3 ih =>
  obtain ⟨y,w',s,e⟩:=ih;rcases zn.mp h1 with rfl|h1
  ·exact ⟨x+y,w',s,λj=>by rw[h3,e];grind⟩
  ·exact ⟨y,λj=>x*a j+w' j,.lin x h1 s λ_=>rfl,λj=>by rw[h3,e];show _=_+(x*a j+w' j);lia⟩
theorem Sp.nil {w:V} (h:Sp (Ls []) w):∀ j,w j=0:=by
 cases h with
 | zero z=>exact z
 | lin x a=>cases a
def ld (wd:Nat) (v:V):Nat:=((List.range wd).find? λj=>v j != 0).getD wd
section
variable {wd:Nat} {v:V}
theorem A78 (wd:Nat) (v:V):(ld wd v < wd/\v (ld wd v)≠0/\∀ j,j < ld wd v->v j=0)\/(ld wd v=wd/\∀ j,j < wd->v j=0):=by
 unfold ld;cases h:(List.range wd).find? λj=>v j != 0 with
 | none =>
  refine .inr ⟨rfl,λj hj=>?_⟩;have:=List.find?_eq_none.mp h j (mem_range.mpr hj);simpa using this
 | some c =>
  obtain ⟨h1,as,bs,h2,h3⟩:=List.find?_eq_some_iff_append.mp h;have hc:c < wd:=mem_range.mp (by rw[h2];simp);refine .inl ⟨hc,by simpa using h1,λj hj=>?_⟩;have hj:j < c:=hj;have hl:as.length=c:=by
   have e:(List.range wd)[as.length]?=some c:=by rw[h2];simp
   have hlt:=(ql.mp e).1;rw[List.getElem?_range (by simpa using hlt)] at e;simpa using e
  have:j∈as:=by
   have e:(List.range wd)[j]?=some j:=List.getElem?_range (by lia);rw[h2,List.getElem?_append_left (by lia)] at e;exact zx e
  simpa using h3 j this
theorem C9s (wd:Nat) (v:V):ld wd v<=wd:=by rcases A78 wd v with ⟨h,_⟩|⟨h,_⟩<;>lia
theorem N7 (h:j < ld wd v):v j=0:=by
 rcases A78 wd v with ⟨_,_,z⟩|⟨e,z⟩
 ·exact z j h
 ·exact z j (by lia)
theorem B82 (h:ld wd v < wd):v (ld wd v)≠0:=by
 rcases A78 wd v with ⟨_,z,_⟩|⟨e,z⟩
 ·exact z
 ·lia
theorem B7w (hc:c < wd) (h:v c≠0) (z:∀ j,j < c->v j=0):ld wd v=c:=by
 rcases Nat.lt_trichotomy (ld wd v) c with g|g|g
 ·exact absurd (z _ g) (B82 (by lia))
 ·exact g
 ·exact absurd (N7 g) h
theorem C96 (hc:c<=wd) (z:∀ j,j < c->v j=0):c<=ld wd v:=by
 rcases Nat.lt_or_ge (ld wd v) c with g|g
 ·exact absurd (z _ g) (B82 (by lia))
 ·exact g
end
structure Ec (wd:Nat) (H:List V):Prop where
 pos:∀ v∈H,ld wd v < wd/\0 < v (ld wd v)
 pw:H.Pairwise λu v=>ld wd u < ld wd v
def Td (wd:Nat) (H:List V):Prop:=H.Pairwise λu v=>0<=u (ld wd v)/\u (ld wd v) < v (ld wd v)
section
variable {wd:Nat} {H:List V} {u v w:V}
theorem Ec.tail (h:Ec wd (v::H)):Ec wd H:=⟨λu hu=>h.pos u (qy _ hu),(List.pairwise_cons.mp h.pw).2⟩
theorem Ec.head (h:Ec wd (v::H)) (hu:u∈H):u (ld wd v)=0:=N7 ((List.pairwise_cons.mp h.pw).1 u hu)
theorem Ec.drop (h:Ec wd H) (n:Nat):Ec wd (H.drop n):=⟨λu hu=>h.pos u (mem_of_mem_drop hu),h.pw.sublist (List.drop_sublist n H)⟩
theorem Ec.null (E:Ec wd H) (h:Sp (Ls H) w) (s:∀ v∈H,(w (ld wd v)).natAbs < (v (ld wd v)).natAbs):∀ j,w j=0:=by
 induction H generalizing w with
 | nil=>exact h.nil
 | cons v H ih =>
  obtain ⟨x,w',hw,e⟩:=h.cons;have z:w' (ld wd v)=0:=hw.zeros λu hu=>E.head hu;have h1:=s v qx;rw[e,z,Int.add_zero,Int.natAbs_mul] at h1;have hx:x=0:=by
   rcases Nat.eq_zero_or_pos x.natAbs with g|g
   ·lia
   ·have:=Nat.le_mul_of_pos_left (v (ld wd v)).natAbs g;lia
  subst hx;have e':∀ j,w j=w' j:=λj=>by rw[e];lia
  intro j;rw[e'];exact ih E.tail hw (λu hu=>by rw[<-e'];exact s u (qy _ hu)) j
def red (r v:V) (c:Nat):V:=λj=>r j - (r c).fdiv (v c)*v j
def mks (wd:Nat) (r:V):List V->V
 | []=>r
 | v::H=>mks wd (red r v (ld wd v)) H
theorem D55 {v:V} (h:0 < v c):0<=red r v c c/\red r v c c < v c:=by
 have e:=Int.mul_fdiv_add_fmod (r c) (v c);have:=@B0w (r c) (v c) h;unfold red;rw[Int.mul_comm ((r c).fdiv (v c))]
 omega
theorem B0e:∀ {H:List V} {r:V},(∀ v∈H,v j=0)->mks wd r H j=r j
 | [],_,_=>rfl
 | v::H,r,h=>by
  rw[mks,B0e λu hu=>h u (qy _ hu)];show r j - _*v j=r j;rw[h v qx];lia
theorem A66:∀ {H:List V} {r:V},Ec wd H->∀ v∈H,0<=mks wd r H (ld wd v)/\mks wd r H (ld wd v) < v (ld wd v)
 | u::H,r,E,v,hv=>by
  rw[mks];rcases zn.mp hv with rfl|hv
  ·rw[B0e λu hu=>E.head hu];exact D55 (E.pos _ qx).2
  ·exact A66 E.tail v hv
theorem B0l:∀ {H:List V} {r:V},∃ h:V,Sp (Ls H) h/\∀ j,mks wd r H j=r j+h j
 | [],r=>⟨λ_=>0,.zero λ_=>rfl,λj=>by rw[mks];show _=_+0;lia⟩
 | v::H,r=>by
  obtain ⟨h,s,e⟩:=@B0l H (red r v (ld wd v));refine ⟨λj=>-((r (ld wd v)).fdiv (v (ld wd v)))*v j+h j,.lin _ qx (s.mono λu hu=>qy _ hu) λ_=>rfl,λj=>?_⟩;rw[mks,e];show r j - _*v j+h j=r j+(-_*v j+h j);rw[Int.neg_mul];lia
def Bt (b:Nat) (x:Int):Prop:=x.natAbs < 2 ^ b
theorem Bt.up {b:Nat} {x:Int} (h:Bt b x) (l:b<=c):Bt c x:=qv h (Nat.pow_le_pow_right (by decide) l)
theorem Bt.mul {b:Nat} {x:Int} (h:Bt b x) (g:Bt c y):Bt (b+c) (x*y):=by
 unfold Bt at *;rw[Int.natAbs_mul,Nat.pow_add];exact Nat.mul_lt_mul'' h g
theorem Bt.add {b d:Nat} {x:Int} (h:Bt b x) (g:Bt c y) (l1:b < d) (l2:c < d):Bt d (x+y):=by
 have h1:=h.up (show b<=d - 1 by lia);have h2:=g.up (show c<=d - 1 by lia);unfold Bt at *;have:=Int.natAbs_add_le x y;have e:2 ^ d=2 ^ (d - 1)+2 ^ (d - 1):=by rw[<-Nat.two_mul,<-Nat.pow_succ'];congr 1;lia
 lia
theorem Bt.neg {b:Nat} {x:Int} (h:Bt b x):Bt b (-x):=by unfold Bt at *;rw[Int.natAbs_neg];exact h
theorem Bt.zero {b:Nat}:Bt b 0:=Nat.two_pow_pos b
theorem Bt.fdiv {b:Nat} {x:Int} (h:Bt b x) (hy:0 < y):Bt (b+1) (x.fdiv y):=by
 unfold Bt at *;have e:=Int.mul_fdiv_add_fmod x y;have:=@B0w x y hy;have:(x.fdiv y).natAbs<=x.natAbs+1:=by
  generalize x.fdiv y=q at *;generalize x.fmod y=r at *;rcases Int.lt_or_le q 0 with g|g
  ·have:=Int.mul_le_mul_of_nonneg_right (show (1:Int)<=y by omega) (show 0<=-q - 1 by omega);have e2:y*(-q - 1)=-(y*q) - y:=by grind
   rw[e2] at this
   omega
  ·have:=Int.mul_le_mul_of_nonneg_right (show (1:Int)<=y by omega) g
   omega
 have:2 ^ (b+1)=2*2 ^ b:=Nat.pow_succ';have:=Nat.two_pow_pos b
 omega
theorem D3b {a x:Nat} (hr:∀ j,j < wd->Bt a (r j)) (hv:∀ j,j < wd->Bt x (v j)) (hc:c < wd) (h0:0 < v c):Bt (a+1) ((r c).fdiv (v c))/\∀ j,j < wd->Bt (a+x+2) (red r v c j):=by
 have t:=(hr c hc).fdiv h0;refine ⟨t,λj hj=>?_⟩;unfold red;rw[Int.sub_eq_add_neg];exact (hr j hj).add (t.mul (hv j hj)).neg (by lia) (by lia)
theorem D0q {w t f:Nat} (ht:Bt t ((r c).fdiv (v c))) (hr:∀ j,j < w->Bt f (r j)) (hv:∀ j,j < w->Bt e (v j)) (hl:t+e<=f):∀ j,j < w->Bt (f+1) (red r v c j):=λj hj=>by
 unfold red;rw[Int.sub_eq_add_neg];exact (hr j hj).add (ht.mul (hv j hj)).neg (by lia) (by lia)
structure Mi (wd w k a x e:Nat) (r:V) (H:List V) (i:Nat) (r':V):Prop where
 eq:∀ j,mks wd r' (H.drop i) j=mks wd r H j
 ra:∀ j,j < wd->Bt (a+i*(x+2)) (r' j)
 re:∀ j,j < w->Bt (e+(a+k*(x+2))+1+i) (r' j)
theorem A57:∀ {H:List V} {r s:V},(∀ j,r j=s j)->∀ j,mks wd r H j=mks wd s H j
 | [],_,_,h=>h
 | v::H,r,s,h=>by
  rw[mks,mks];exact A57 λj=>by unfold red;rw[h,h]
theorem Mi.start {w a x:Nat} (hr:∀ j,j < wd->Bt a (r j)) (he:∀ j,j < w->Bt e (r j)):Mi wd w k a x e r H 0 r:=⟨λ_=>rfl,λj hj=>(hr j hj).up (by lia),λj hj=>(he j hj).up (by lia)⟩
theorem Mi.step {w a x i:Nat} {r':V} (M:Mi wd w k a x e r H i r') (hk:H.length<=k) (E:Ec wd H) (hx:∀ v∈H,∀ j,j < wd->Bt x (v j)) (he:∀ v∈H,∀ j,j < w->Bt e (v j)) (hv:H[i]?=some v) :
  Mi wd w k a x e r H (i+1) (red r' v (ld wd v))/\Bt (a+k*(x+2)) ((r' (ld wd v)).fdiv (v (ld wd v))):=by
 have hm:=zx hv;have hi:=(ql.mp hv).1;obtain ⟨p1,p2⟩:=E.pos v hm;obtain ⟨h1,h2⟩:=D3b M.ra (hx v hm) p1 p2;have hle:(i+1)*(x+2)<=k*(x+2):=Nat.mul_le_mul_right _ (by lia);rw[Nat.add_mul,Nat.one_mul] at hle;have h1':Bt (a+k*(x+2)) ((r' (ld wd v)).fdiv (v (ld wd v))):=h1.up (by lia);refine ⟨⟨λj=>?_,λj hj=>(h2 j hj).up (by rw[Nat.add_mul];lia),λj hj=>(D0q h1' M.re (he v hm) (by lia) j hj).up (by lia)⟩,h1'⟩;have e:=M.eq j;rw[List.drop_eq_getElem_cons hi] at e;obtain ⟨_,e3⟩:=ql.mp hv;rw[e3] at e;exact e
end
theorem Bt.quo {b:Nat} {g0:Int} (h:Bt b a) (hg:0 < g0) (hd:g0 ∣ a):Bt b (a / g0):=by
 obtain ⟨k,rfl⟩:=hd;rw[Int.mul_ediv_cancel_left _ (by lia)];unfold Bt at *;rw[Int.natAbs_mul] at h;have:=Nat.le_mul_of_pos_left k.natAbs (show 0 < g0.natAbs by lia);lia
theorem D7q {D:Nat} {a b:Int} (hb:Bt D b) (h:s.natAbs<=b.natAbs+1):Bt (D+1) s:=by
 unfold Bt at *;have:2 ^ (D+1)=2*2 ^ D:=Nat.pow_succ';lia
theorem D3q {D:Nat} {b:Int} (ha:Bt D a) (hb:Bt D b) (h:t.natAbs<=a.natAbs+2*b.natAbs+1):Bt (D+2) t:=by
 unfold Bt at *;have:2 ^ (D+2)=4*2 ^ D:=by rw[Nat.pow_add,Nat.mul_comm]
 lia
theorem pr7 {g b:Int} (g0:0 < g) (h:g=s*(g*a)+t*(g*b)):s*a+t*b=1:=by
 have:g*(s*a+t*b)=g*1:=by rw[Int.mul_add,Int.mul_one];rw[Int.mul_left_comm s,Int.mul_left_comm t] at h;exact h.symm
 exact Int.eq_of_mul_eq_mul_left (Int.ne_of_gt g0) this
theorem pr9 {g:Int} (g0:0 < g) (h:0 < g*a):0 < a:=by
 rcases Int.lt_or_le 0 a with z|z
 ·exact z
 ·have:=Int.mul_le_mul_of_nonneg_left z (Int.le_of_lt g0);lia
def pv (wd:Nat):List V->Int
 | []=>1
 | v::H=>v (ld wd v)*pv wd H
section
variable {wd w:Nat} {H T:List V} {g u v:V}
theorem B74 {b:Int} (h:0<=a) (hb:0 < b):a<=a*b:=by
 have:=Int.mul_le_mul_of_nonneg_left (Int.add_one_le_of_lt hb) h
 rwa [Int.zero_add,Int.mul_one] at this
theorem A1v:∀ {H:List V},Ec wd H->0 < pv wd H
 | [],_=>show (0:Int) < 1 by decide
 | v::H,E=>Int.mul_pos (E.pos v qx).2 (A1v E.tail)
theorem C32:∀ {H:List V} {v:V},v∈H->v (ld wd v) ∣ pv wd H
 | u::H,v,h=>by
  rcases zn.mp h with rfl|h
  ·exact Int.dvd_mul_right _ _
  ·exact Int.dvd_mul_of_dvd_right (C32 h)
theorem B4a {b:Int} (h:a ∣ b) (hb:0 < b):a<=b:=Int.le_of_dvd hb h
theorem Bt.le {b:Nat} {x:Int} (h:Bt b y) (h0:0<=x) (h1:x<=y):Bt b x:=by unfold Bt at *;omega
theorem A3g {D:Nat} (E:Ec wd H) (h:Bt D (pv wd H)) (hv:v∈H):Bt D (v (ld wd v)):=h.le (Int.le_of_lt (E.pos v hv).2) (B4a (C32 hv) (A1v E))
theorem C3l:∀ {T:List V} {q:Nat} {u u2:V},T[q]?=some u->pv wd (T.set q u2)*u (ld wd u)=pv wd T*u2 (ld wd u2)
 | v::T,0,u,u2,h=>by
  simp at h;subst h;show u2 _*pv wd T*v _=v _*pv wd T*u2 _
  grind
 | v::T,q+1,u,u2,h=>by
  have:=@C3l T q u u2 (by simpa using h);show v _*pv wd (T.set q u2)*u _=v _*pv wd T*u2 _
  grind
theorem A11 (h:T.map (ld wd)=H.map (ld wd)) {u v:V} (hu:T[q]?=some u) (hv:H[q]?=some v):ld wd u=ld wd v:=by
 have:=congrArg (λl=>l[q]?) h;simp only[qp,hu,hv] at this;simpa using this
theorem A4b (E:Ec wd H) {i:Nat} {u v:V} (hu:H[i]?=some u) (hv:H[j]?=some v) (h:i < j):ld wd u < ld wd v:=by
 obtain ⟨h1,e1⟩:=ql.mp hu;obtain ⟨h2,e2⟩:=ql.mp hv;have:=List.pairwise_iff_getElem.mp E.pw i j h1 h2 h;rw[e1,e2] at this;exact this
theorem C9r (hp:∀ v∈H,ld wd v < wd/\0 < v (ld wd v)) (h:∀ (i j:Nat) (u v:V),H[i]?=some u->H[j]?=some v->i < j->ld wd u < ld wd v):Ec wd H :=
 ⟨hp,List.pairwise_iff_getElem.mpr λi j hi hj hij=>h i j _ _ (zd hi) (zd hj) hij⟩
structure Hy (wd:Nat) (H:List V) (g:V) (Y X C D:Nat):Prop where
 ec:Ec wd H
 td:Td wd H
 len:H.length<=8
 prod:Bt D (pv wd H)
 gY:∀ j,j < wd->Bt Y (g j)
 DY:D<=Y
 CC:D+Y+2<=C
 bd:∀ (y:Int) (h u:V),Sp (Ls H) h->(∀ j,j < wd->u j=y*g j+h j)->Bt C y->(∀ v∈H,Bt Y (u (ld wd v)))->∀ j,j < wd->Bt X (u j)
structure PI (wd w:Nat) (H:List V) (g:V) (Y X C D E K p:Nat) (T:List V) (v:V) (x:Int):Prop where
 len:T.length=H.length
 ec:Ec wd T
 lds:T.map (ld wd)=H.map (ld wd)
 ple:p<=H.length
 unt:T.drop p=H.drop p
 low:∀ (i:Nat) (u:V),i < p->H[i]?=some u->ld wd u < ld wd v
 fw:∀ u,u∈H\/u=g->Sp (Ls (v::T)) u
 bw:∀ u∈v::T,Sp (Ls (g::H)) u
 vx:∃ h,Sp (Ls H) h/\∀ j,v j=x*g j+h j
 x1:1<=x
 xp:x*pv wd T=pv wd H
 ys:∀ u∈T,∃ (y:Int) (h:V),Sp (Ls H) h/\Bt C y/\∀ j,u j=y*g j+h j
 rd:∀ (i:Nat) (u:V),p<=i->H[i]?=some u->Bt Y (v (ld wd u))
 bX:∀ u∈v::T,∀ j,j < wd->Bt X (u j)
 bE:∀ u∈v::T,∀ j,j < w->Bt (E+p*K) (u j)
variable {Y X C D E K p:Nat} {x:Int}
theorem C9l {D:Nat} (hE:Ec wd H) (hT:Td wd H) (hp:Bt D (pv wd H)) {u v:V} (hu:u∈H) (hv:v∈H):Bt D (u (ld wd v)):=by
 obtain ⟨i,hi,rfl⟩:=mem_iff_getElem.mp hu;obtain ⟨j,hj,rfl⟩:=mem_iff_getElem.mp hv;have pb:=A3g hE hp hv;rcases Nat.lt_trichotomy i j with g|g|g
 ·have:=List.pairwise_iff_getElem.mp hT i j hi hj g;exact pb.le this.1 (Int.le_of_lt this.2)
 ·subst g;exact pb
 ·have:=List.pairwise_iff_getElem.mp hE.pw j i hj hi g;rw[N7 this];exact .zero
theorem Hy.hX (h:Hy wd H g Y X C D) (hv:v∈H):∀ j,j < wd->Bt X (v j):=h.bd 0 v v (.mem hv) (λj _=>by lia) .zero λu hu=>(C9l h.ec h.td h.prod hv hu).up h.DY
theorem Hy.gX (h:Hy wd H g Y X C D):∀ j,j < wd->Bt X (g j):=h.bd 1 (λ_=>0) g (.zero λ_=>rfl) (λj _=>by show g j=1*g j+0;lia) (by
 have:=h.CC;exact Bt.up (b:=1) (show (1:Int).natAbs < 2 ^ 1 by decide) (by lia)) λu hu=>h.gY _ (h.ec.pos u hu).1
theorem PI.start (h:Hy wd H g Y X C D) (hE:∀ u∈g::H,∀ j,j < w->Bt E (u j)):PI wd w H g Y X C D E K 0 H g 1 where
 len:=rfl
 ec:=h.ec
 lds:=rfl
 ple:=jb _
 unt:=rfl
 low:=λi u hi=>by lia
 fw:=λu hu=>by
  rcases hu with hu|rfl
  ·exact .mem (qy _ hu)
  ·exact .mem qx
 bw:=λu hu=>.mem hu
 vx:=⟨λ_=>0,.zero λ_=>rfl,λj=>by show g j=1*g j+0;lia⟩
 x1:=by decide
 xp:=by lia
 ys:=λu hu=>⟨0,u,.mem hu,.zero,λj=>by lia⟩
 rd:=λi u _ hu=>h.gY _ (h.ec.pos u (zx hu)).1
 bX:=λu hu=>by
  rcases zn.mp hu with rfl|hu
  ·exact h.gX
  ·exact h.hX hu
 bE:=λu hu j hj=>(hE u hu j hj).up (by lia)
theorem PI.skip (I:PI wd w H g Y X C D E K p T v x) (hq:q<=H.length) (hpq:p<=q) (hl:∀ (i:Nat) (u:V),i < q->T[i]?=some u->ld wd u < ld wd v):PI wd w H g Y X C D E K q T v x :=
 { I with
  ple:=hq
  unt:=by
   have:=congrArg (List.drop (q - p)) I.unt;rw[List.drop_drop,List.drop_drop,show p+(q - p)=q by lia] at this;exact this
  low:=λi u hi hu=>by
   obtain ⟨t,ht⟩:∃ t,T[i]?=some t:=⟨_,zd (by rw[I.len];lia)⟩;rw[<-A11 I.lds ht hu];exact hl i t hi ht
  rd:=λi u hi hu=>I.rd i u (by lia) hu
  bE:=λu hu j hj=>(I.bE u hu j hj).up (zh (Nat.mul_le_mul_right _ hpq) _) }
theorem PI.xD (I:PI wd w H g Y X C D E K p T v x) (hD:Bt D (pv wd H)):Bt D x:=by
 have h1:0<=x:=Int.le_of_lt I.x1;exact hD.le h1 (I.xp ▸ B74 h1 (A1v I.ec))
theorem B20 (I:PI wd w H g Y X C D E K p T v x) {i:Nat} (hi:p<=i):T[i]?=H[i]?:=by
 have:=congrArg (λl=>l[i - p]?) I.unt;simp only[List.getElem?_drop] at this
 rwa [show p+(i - p)=i by lia] at this
theorem E1t (g a b:Int):a*(g*b)+-b*(g*a)=0:=by grind
theorem E26 (s t x u g h k:Int):s*u+t*(x*g+h)+k=(t*x)*g+(s*u+t*h+k):=by grind
theorem E20 (a b x u g h k:Int):a*(x*g+h)+-b*u+k=(x*a)*g+(a*h+-b*u+k):=by grind
theorem E0v {P Q g:Int} (x:Int) (g0:0 < g) (h:Q*(g*a)=P*g):x*a*Q=x*P:=by
 have:g*(a*Q)=g*P:=by rw[Int.mul_comm g P,<-h];grind
 rw[Int.mul_assoc,Int.eq_of_mul_eq_mul_left (Int.ne_of_gt g0) this]
theorem D3w {b h:Int} (e:a=b+h):b=1*a+-1*h:=by lia
theorem E0t {b:Int} (u v:Int) (d:s*a+t*b=1):v=b*(s*u+t*v)+s*(a*v+-b*u):=by
 have:v=(s*a+t*b)*v:=by rw[d,Int.one_mul]
 grind
theorem E2y {b:Int} (u v:Int) (d:s*a+t*b=1):u=a*(s*u+t*v)+-t*(a*v+-b*u):=by
 have:u=(s*a+t*b)*u:=by rw[d,Int.one_mul]
 grind
theorem B27 {T:List V} {p:Nat} {u:V} (hu:T[p]?=some u) (hz:z∈T):z=u\/z∈T.set p u2:=by
 sleep 22;by_cases e:i=p
 ·subst e;rw[hu] at hi;exact .inl (zu hi).symm
 ·exact .inr (zx (i:=i) (by rw[List.getElem?_set_ne (Ne.symm e)];exact hi))
theorem B3b {H:List V} {i p:Nat} (k:p<=i) (hi:H[i]?=some z):z∈H.drop p:=zx (i:=i - p) (by rw[List.getElem?_drop,Nat.add_sub_cancel' k];exact hi)
theorem A0u {T:List V} {p:Nat} (hz:z∈T.drop (p+1)):z∈T.set p u2:=by
 sleep 22;rw[List.getElem?_drop] at hi;exact zx (i:=p+1+i) (by rw[List.getElem?_set_ne (by lia)];exact hi)
theorem B6a {T:List V} {p:Nat} (h:p < T.length):u2∈T.set p u2:=zx (i:=p) (by rw[List.getElem?_set_self h])
theorem D71 (E:Ec wd T) (hu:T[p]?=some u):∀ z∈T.drop (p+1),ld wd u < ld wd z:=λz hz=>by
 sleep 22;rw[List.getElem?_drop] at hi;exact A4b E hu hi (by lia)
theorem B14 (E:Ec wd T) (hu:T[p]?=some u) (r:V) {j:Nat} (hj:j<=ld wd u):mks wd r (T.drop (p+1)) j=r j:=B0e λz hz=>N7 (qu hj (D71 E hu z hz))
theorem B1t {T:List V} {p:Nat} {u:V} (hu:T[p]?=some u) (hl:ld wd u2=ld wd u):(T.set p u2).map (ld wd)=T.map (ld wd):=by
 refine List.ext_getElem? λi=>?_;rw[qp,qp,List.getElem?_set];split
 ·rename_i e;subst e;rw[qr (ql.mp hu).1,hu,Option.map_some,Option.map_some,hl]
 ·rfl
theorem C1v {T:List V} {p:Nat} {u:V} (E:Ec wd T) (hu:T[p]?=some u) (hl:ld wd u2=ld wd u) (h0:0 < u2 (ld wd u2)):Ec wd (T.set p u2):=by
 have hs:=B1t (wd:=wd) hu hl;refine C9r (λz hz=>?_) λi j a b ha hb hij=>?_
 ·sleep 36
  ·exact E.pos z hz
  ·exact ⟨by rw[hl];exact (E.pos u (zx hu)).1,h0⟩
 ·obtain ⟨a0,ea⟩:∃ a0,T[i]?=some a0:=⟨_,zd (by have:=(ql.mp ha).1;rw[length_set] at this;exact this)⟩;obtain ⟨b0,eb⟩:∃ b0,T[j]?=some b0:=⟨_,zd (by have:=(ql.mp hb).1;rw[length_set] at this;exact this)⟩;rw[A11 hs ha ea,A11 hs hb eb];exact A4b E ea eb hij
theorem Hy.DC (h:Hy wd H g Y X C D):D<=C/\Y+2+D<=C:=by have:=h.CC;lia
theorem PI.pass (h:Hy wd H g Y X C D) (I:PI wd w H g Y X C D E K p T v x) (hK:2*Y+9*X+40<=K) (hu:T[p]?=some u) (hc:ld wd u=ld wd v) {g0:Int} (S:Shr (u (ld wd v)) (v (ld wd v)) g0 s t) 
  (e1:∀ j,u2 j=mks wd (λj=>s*u j+t*v j) (T.drop (p+1)) j) (e2:∀ j,v2 j=mks wd (λj=>u (ld wd v) / g0*v j+-(v (ld wd v) / g0)*u j) (T.drop (p+1)) j)
  (b1:∀ j,j < w->Bt (E+p*K+K) (u2 j)) (b2:∀ j,j < w->Bt (E+p*K+K) (v2 j)) :
  PI wd w H g Y X C D E K (p+1) (T.set p u2) v2 (x*(u (ld wd v) / g0)):=by
 have hm:=zx hu;have hp:=(ql.mp hu).1;have hpH:p+1<=H.length:=I.len ▸ hp;have huH:H[p]?=some u:=by rw[<-B20 I (qt p)];exact hu
 have humH:=zx huH;have pos:=I.ec.pos u hm;have eB:T.drop (p+1)=H.drop (p+1):=by
  have:=congrArg (List.drop 1) I.unt
  rwa [List.drop_drop,List.drop_drop] at this
 have EB:Ec wd (T.drop (p+1)):=I.ec.drop _;have BH:∀ z∈T.drop (p+1),z∈H:=λz hz=>by rw[eB] at hz;exact mem_of_mem_drop hz
 have Bout:=λ(r:V) (j:Nat)=>@B14 wd T u p I.ec hu r j;rw[hc] at pos Bout;obtain ⟨h1,sp1,es1⟩:=@B0l wd (T.drop (p+1)) (λj=>s*u j+t*v j);obtain ⟨h2,sp2,es2⟩:=@B0l wd (T.drop (p+1)) (λj=>u (ld wd v) / g0*v j+-(v (ld wd v) / g0)*u j);have geq:=S.eq;obtain ⟨a',ea⟩:=S.da;obtain ⟨b',eb⟩:=S.db;have qa:u (ld wd v) / g0=a':=by rw[ea];exact Int.mul_ediv_cancel_left _ (Int.ne_of_gt S.g0)
 have qb:v (ld wd v) / g0=b':=by rw[eb];exact Int.mul_ediv_cancel_left _ (Int.ne_of_gt S.g0)
 rw[qa,qb] at es2 e2;rw[qa];rw[ea,eb] at geq;have d1:=pr7 S.g0 geq;have a1:0 < a':=pr9 S.g0 (ea ▸ pos.2);have z1:∀ j,j < ld wd v->u2 j=0:=λj hj=>by
  rw[e1,Bout _ j (zk hj)];show s*u j+t*v j=0;rw[N7 hj,N7 (hc.symm ▸ hj:j < ld wd u),Int.mul_zero,Int.mul_zero];rfl
 have c1:u2 (ld wd v)=g0:=by
  rw[e1,Bout _ _ (qt _)];exact S.eq.symm
 have z2:∀ j,j<=ld wd v->v2 j=0:=λj hj=>by
  rw[e2,Bout _ j hj];show a'*v j+-b'*u j=0;rcases Nat.lt_or_eq_of_le hj with hj|hj
  ·rw[N7 hj,N7 (hc.symm ▸ hj:j < ld wd u),Int.mul_zero,Int.mul_zero];rfl
  ·rw[hj,ea,eb];exact E1t _ _ _
 have l1:ld wd u2=ld wd v:=B7w pos.1 (by rw[c1];exact Int.ne_of_gt S.g0) z1;have l2:ld wd v+1<=ld wd v2:=C96 pos.1 λj hj=>z2 j (Nat.le_of_lt_succ hj);have l3:=l1.trans hc.symm;have ecT':Ec wd (T.set p u2):=C1v I.ec hu l3 (by rw[l1,c1];exact S.g0);have u2m:u2∈T.set p u2:=B6a hp;have mset:∀ z∈T.set p u2,z=u2\/z∈T:=λz hz=>(mem_or_eq_of_mem_set hz).symm;obtain ⟨hh,shh,ehh⟩:=I.vx;have bb:Bt Y (v (ld wd v)):=by have:=I.rd p u (qt p) huH;rwa [hc] at this
 have aD:Bt D (u (ld wd v)):=by have:=A3g h.ec h.prod humH;rwa [hc] at this
 have tb:Bt (Y+2) t:=D3q (aD.up h.DY) bb S.t1;have yu:∀ j,u2 j=(t*x)*g j+(s*u j+t*hh j+h1 j):=λj=>by rw[e1,es1,ehh];exact E26 _ _ _ _ _ _ _
 have su2:Sp (Ls H) (λj=>s*u j+t*hh j+h1 j):=((Sp.mem humH).comb s t shh (w:=λj=>s*u j+t*hh j) λj=>rfl).add (sp1.mono BH) λj=>rfl;have yv:∀ j,v2 j=(x*a')*g j+(a'*hh j+-b'*u j+h2 j):=λj=>by rw[e2,es2,ehh];exact E20 _ _ _ _ _ _ _
 have sv2:Sp (Ls H) (λj=>a'*hh j+-b'*u j+h2 j):=(shh.comb a' (-b') (Sp.mem humH) (w:=λj=>a'*hh j+-b'*u j) λj=>rfl).add (sp2.mono BH) λj=>rfl;have yub:Bt C (t*x):=(tb.mul (I.xD h.prod)).up h.DC.2;have xp':x*a'*pv wd (T.set p u2)=pv wd H:=by
  have e:=C3l (wd:=wd) (u2:=u2) hu;rw[hc,l1,c1,ea] at e;rw[E0v x S.g0 e];exact I.xp
 have x0:0 < x*a':=Int.mul_pos I.x1 a1;have yvb:Bt C (x*a'):=(h.prod.le (Int.le_of_lt x0) (xp' ▸ B74 (Int.le_of_lt x0) (A1v ecT'))).up h.DC.1;have cod:∀ (r:V) (i:Nat) (z:V),p+1<=i->H[i]?=some z->Bt Y (mks wd r (T.drop (p+1)) (ld wd z)):=λr i z k hi=>by
  have this:=@A66 wd _ r EB z (eB.symm ▸ B3b k hi);exact ((A3g h.ec h.prod (zx hi)).le this.1 (Int.le_of_lt this.2)).up h.DY
 have cou:∀ z∈H,Bt Y (u2 (ld wd z)):=λz hz=>by
  sleep 22;rcases Nat.lt_trichotomy i p with k|k|k
  ·rw[z1 _ (I.low i z k hi)];exact .zero
  ·subst k;rw[huH] at hi;cases hi;rw[hc,c1];exact (aD.le (Int.le_of_lt S.g0) (B4a S.da pos.2)).up h.DY
  ·rw[e1];exact cod _ i z k hi
 have cov:∀ (i:Nat) (z:V),p+1<=i->H[i]?=some z->Bt Y (v2 (ld wd z)):=λi z k hi=>by rw[e2];exact cod _ i z k hi
 have low':∀ (i:Nat) (z:V),i < p+1->H[i]?=some z->ld wd z < ld wd v2:=λi z k hi=>by
  rcases Nat.lt_or_eq_of_le (Nat.le_of_lt_succ k) with k|e
  ·exact Nat.lt_trans (I.low i z k hi) l2
  ·subst e;rw[huH] at hi;cases hi;exact hc.symm ▸ l2
 have covA:∀ z∈H,Bt Y (v2 (ld wd z)):=λz hz=>by
  sleep 22;rcases Nat.lt_or_ge i (p+1) with k|k
  ·rw[N7 (low' i z k hi)];exact .zero
  ·exact cov i z k hi
 have toU:Sp (Ls (v2::T.set p u2)) (λj=>s*u j+t*v j):=(Sp.mem (qy _ u2m)).comb 1 (-1) (sp1.mono λz hz=>qy _ (A0u hz)) λj=>D3w (by rw[e1,es1]);have toV:Sp (Ls (v2::T.set p u2)) (λj=>a'*v j+-b'*u j):=(Sp.mem qx).comb 1 (-1) (sp2.mono λz hz=>qy _ (A0u hz)) λj=>D3w (by rw[e2,es2]);refine ⟨length_set.trans I.len,ecT',(B1t hu l3).trans I.lds,hpH,(List.drop_set_of_lt (Nat.lt_succ_self p)).trans eB,low',λz hz=>(I.fw z hz).trans λz hz=>?_,λz hz=>?_,⟨_,sv2,yv⟩,x0,xp',λz hz=>?_,cov,λz hz=>?_,λz hz j hj=>?_⟩
 ·sleep 17
  ·exact toU.comb b' s toV λj=>E0t _ _ d1
  ·rcases B27 hu hz with rfl|hz
   ·exact toU.comb a' (-t) toV λj=>E2y _ _ d1
   ·exact .mem (qy _ hz)
 ·have gs:∀ {y:Int} {a:V},Sp (Ls H) a->∀ {b:V},(∀ j,b j=y*g j+a j)->Sp (Ls (g::H)) b:=λ{y a} ha {b} hb=>.lin y qx (ha.mono λz hz=>qy _ hz) hb;rcases zn.mp hz with rfl|hz
  ·exact gs sv2 yv
  ·rcases mset z hz with rfl|hz
   ·exact gs su2 yu
   ·exact I.bw z (qy _ hz)
 ·rcases mset z hz with rfl|hz
  ·exact ⟨_,_,su2,yub,yu⟩
  ·exact I.ys z hz
 ·sleep 17
  ·exact h.bd _ _ _ sv2 (λj _=>yv j) yvb covA
  ·rcases mset z hz with rfl|hz
   ·exact h.bd _ _ _ su2 (λj _=>yu j) yub cou
   ·exact I.bX z (qy _ hz)
 ·rw[Nat.add_mul,Nat.one_mul,<-Nat.add_assoc];sleep 17
  ·exact b2 j hj
  ·rcases mset z hz with rfl|hz
   ·exact b1 j hj
   ·exact (I.bE z (qy _ hz) j hj).up (Nat.le_add_right _ _)
end
section
variable {wd w:Nat} {H T:List V} {g u v:V} {Y X C D E K p:Nat} {x:Int}
structure Pb (wd w:Nat) (T:List V) (u v:V) (Y X E' p:Nat) (g0 s t:Int):Prop where
 s1:Bt (Y+1) s
 t1:Bt (Y+2) t
 a1:Bt Y (u (ld wd v) / g0)
 b1:Bt Y (v (ld wd v) / g0)
 bB:∀ z∈u::v::T.drop (p+1),(∀ j,j < wd->Bt X (z j))/\∀ j,j < w->Bt E' (z j)
 u1:∀ j,j < wd->Bt (X+Y+3) (s*u j+t*v j)
 v1:∀ j,j < wd->Bt (X+Y+3) (u (ld wd v) / g0*v j+-(v (ld wd v) / g0)*u j)
 ue:∀ j,j < w->Bt (E'+Y+3) (s*u j+t*v j)
 ve:∀ j,j < w->Bt (E'+Y+3) (u (ld wd v) / g0*v j+-(v (ld wd v) / g0)*u j)
theorem D8s {Y X:Nat} {b:Int} (s1:Bt (Y+1) s) (t1:Bt (Y+2) t) (ha:Bt X a) (hb:Bt X b):Bt (X+Y+3) (s*a+t*b):=(s1.mul ha).add (t1.mul hb) (by lia) (by lia)
theorem D6c {Y X:Nat} {b:Int} (s1:Bt Y s) (t1:Bt Y t) (ha:Bt X a) (hb:Bt X b):Bt (X+Y+3) (s*a+-t*b):=(s1.mul ha).add (t1.neg.mul hb) (by lia) (by lia)
theorem PI.pb (h:Hy wd H g Y X C D) (I:PI wd w H g Y X C D E K p T v x) (hu:T[p]?=some u) (hc:ld wd u=ld wd v) {g0:Int} (S:Shr (u (ld wd v)) (v (ld wd v)) g0 s t):Pb wd w T u v Y X (E+p*K) p g0 s t:=by
 have hm:=zx hu;have huH:H[p]?=some u:=by rw[<-B20 I (qt p)];exact hu
 have bb:Bt Y (v (ld wd v)):=by have:=I.rd p u (qt p) huH;rwa [hc] at this
 have aD:Bt D (u (ld wd v)):=by have:=A3g h.ec h.prod (zx huH);rwa [hc] at this
 have aY:=aD.up h.DY;have s1:Bt (Y+1) s:=D7q (a:=0) bb S.s1;have t1:Bt (Y+2) t:=D3q aY bb S.t1;have a1:=aY.quo S.g0 S.da;have b1:=bb.quo S.g0 S.db;have uX:=I.bX u (qy _ hm);have vX:=I.bX v qx;have uE:=I.bE u (qy _ hm);have vE:=I.bE v qx;exact ⟨s1,t1,a1,b1,λz hz=>by
  sleep 17
  ·exact ⟨uX,uE⟩
  sleep 17
  ·exact ⟨vX,vE⟩
  ·have:=mem_of_mem_drop hz;exact ⟨I.bX z (qy _ this),I.bE z (qy _ this)⟩,
  λj hj=>D8s s1 t1 (uX j hj) (vX j hj),λj hj=>D6c a1 b1 (vX j hj) (uX j hj),
  λj hj=>D8s s1 t1 (uE j hj) (vE j hj),λj hj=>D6c a1 b1 (vE j hj) (uE j hj)⟩
structure PO (wd w:Nat) (H:List V) (g:V) (X E:Nat) (T:List V) (lo:Option V):Prop where
 ec:Ec wd T
 len:T.length+lo.toList.length=H.length+1
 zr:∀ z∈lo,∀ j,j < wd->z j=0
 fw:∀ u,u∈H\/u=g->Sp (Ls (lo.toList++T)) u
 bw:∀ u∈lo.toList++T,Sp (Ls (g::H)) u
 bX:∀ u∈T,∀ j,j < wd->Bt X (u j)
 bE:∀ u∈lo.toList++T,∀ j,j < w->Bt E (u j)
theorem PI.left (I:PI wd w H g Y X C D E K p T v x) (hl:H.length<=8) (h:¬ ld wd v < wd):PO wd w H g X (E+8*K) T (some v) where
 ec:=I.ec
 len:=by show T.length+1=_;rw[I.len]
 zr:=λz hz j hj=>by cases hz;exact N7 (wd:=wd) (by lia)
 fw:=λu hu=>I.fw u hu
 bw:=λu hu=>I.bw u hu
 bX:=λu hu=>I.bX u (qy _ hu)
 bE:=λu hu j hj=>(I.bE u hu j hj).up (zh (Nat.mul_le_mul_right _ (zq I.ple hl)) _)
theorem D2t {x:Int} (h:x≠0):0 < (if 0 < x then x else -x):=by split<;>lia
theorem D9b {g x:Int} (h:g=1\/g=-1):x=g*(g*x):=by rcases h with rfl|rfl<;>lia
theorem D3z {T:List V} (E:Ec wd T) (hpl:p<=T.length) (l2:ld wd v2=c) (hc:c < wd) (p2:0 < v2 (ld wd v2)) (lowT:∀ (i:Nat) (u:V),i < p->T[i]?=some u->ld wd u < c) (hiT:∀ (i:Nat) (u:V),p<=i->T[i]?=some u->c < ld wd u):Ec wd (T.insertIdx p v2):=by
 refine C9r (λz hz=>?_) λi j a b ha hb hij=>?_
 ·rcases (List.mem_insertIdx hpl).mp hz with rfl|hz
  ·exact ⟨l2 ▸ hc,p2⟩
  ·exact E.pos z hz
 ·rw[List.getElem?_insertIdx] at ha hb;clear hc p2;split at ha
  ·rename_i h1;split at hb
   ·exact A4b E ha hb hij
   ·split at hb
    ·rw[qr (by lia)] at hb;cases hb;rw[l2];exact lowT i a h1 ha
    ·exact A4b E ha hb (by lia)
  ·split at ha
   ·rw[qr (by lia)] at ha;cases ha;rw[qs (by lia),qs (by lia)] at hb;rw[l2];exact hiT _ b (by lia) hb
   ·rw[qs (by lia),qs (by lia)] at hb;exact A4b E ha hb (by lia)
theorem PI.insert (I:PI wd w H g Y X C D E K p T v x) (hl:H.length<=8) (h:ld wd v < wd) (hp:∀ u,T[p]?=some u->ld wd v < ld wd u) (hv:∀ j,v2 j=if 0 < v (ld wd v) then v j else -(v j)):PO wd w H g X (E+8*K) (T.insertIdx p v2) none:=by
 have hpl:p<=T.length:=by rw[I.len];exact I.ple
 obtain ⟨sg,hs1,hs2⟩:∃ sg:Int,(sg=1\/sg=-1)/\∀ j,v2 j=sg*v j:=by
  by_cases z:0 < v (ld wd v)
  ·exact ⟨1,.inl rfl,λj=>by rw[hv,qr z,Int.one_mul]⟩
  ·exact ⟨-1,.inr rfl,λj=>by rw[hv,qs z,Int.neg_mul,Int.one_mul]⟩
 have p0:0 < v2 (ld wd v):=by rw[hv];exact D2t (B82 h)
 have l2:ld wd v2=ld wd v:=B7w h (Int.ne_of_gt p0) λj hj=>by rw[hs2,N7 hj,Int.mul_zero]
 have mi:∀ z,z∈T.insertIdx p v2 ↔ z=v2\/z∈T:=λz=>List.mem_insertIdx hpl;have vb:∀ {b:Nat} {n:Nat},(∀ j,j < n->Bt b (v j))->∀ j,j < n->Bt b (v2 j):=λhb j hj=>by rw[hv];split;exact hb j hj;exact (hb j hj).neg
 have vT:Sp (Ls (T.insertIdx p v2)) v:=(Sp.mem ((mi v2).mpr (.inl rfl))).mul sg λj=>by rw[hs2];exact D9b hs1
 refine ⟨D3z I.ec hpl l2 h (l2.symm ▸ p0) (λi u hi hu=>?_) λi u hi hu=>?_,?_,λz hz=>(by cases hz),λz hz=>(I.fw z hz).trans λz hz=>?_,λz hz=>?_,λz hz=>?_,λz hz j hj=>?_⟩
 ·obtain ⟨t,ht⟩:∃ t,H[i]?=some t:=⟨_,zd (qv hi I.ple)⟩;rw[A11 I.lds hu ht];exact I.low i t hi ht
 ·rcases Nat.lt_or_eq_of_le hi with e|e
  ·obtain ⟨t,ht⟩:∃ t,T[p]?=some t:=⟨_,zd (Nat.lt_trans e (ql.mp hu).1)⟩;exact Nat.lt_trans (hp t ht) (A4b I.ec ht hu e)
  ·subst e;exact hp u hu
 ·rw[List.length_insertIdx_of_le_length hpl,I.len];rfl
 ·sleep 17
  ·exact vT
  ·exact .mem ((mi z).mpr (.inr hz))
 ·rcases (mi z).mp hz with rfl|hz
  ·exact (I.bw v qx).mul sg hs2
  ·exact I.bw z (qy _ hz)
 ·rcases (mi z).mp hz with rfl|hz
  ·exact vb (I.bX v qx)
  ·exact I.bX z (qy _ hz)
 ·refine Bt.up (b:=E+p*K) ?_ (zh (Nat.mul_le_mul_right _ (zq I.ple hl)) _);rcases (mi z).mp hz with rfl|hz
  ·exact vb (I.bE v qx) j hj
  ·exact I.bE z (qy _ hz) j hj
structure Ti (wd w:Nat) (T:List V) (X E K i:Nat) (Ui:List V):Prop where
 len:Ui.length=T.length
 ec:Ec wd Ui
 lds:Ui.map (ld wd)=T.map (ld wd)
 pvs:∀ (j:Nat) (a b:V),Ui[j]?=some a->T[j]?=some b->a (ld wd a)=b (ld wd b)
 td:Td wd (Ui.drop i)
 unt:Ui.take i=T.take i
 fw:∀ u∈T,Sp (Ls Ui) u
 bw:∀ u∈Ui,Sp (Ls T) u
 bX:∀ u∈Ui,∀ j,j < wd->Bt X (u j)
 bE:∀ u∈Ui,∀ j,j < w->Bt (E+(T.length - i)*K) (u j)
theorem Ti.start (h:Ec wd T) (hX:∀ u∈T,∀ j,j < wd->Bt X (u j)) (hE:∀ u∈T,∀ j,j < w->Bt E (u j)):Ti wd w T X E K T.length T where
 len:=rfl
 ec:=h
 lds:=rfl
 pvs:=λj a b h1 h2=>by rw[h1] at h2;cases h2;rfl
 td:=by rw[List.drop_length];exact .nil
 unt:=rfl
 fw:=λu hu=>.mem hu
 bw:=λu hu=>.mem hu
 bX:=hX
 bE:=λu hu j hj=>(hE u hu j hj).up (by lia)
theorem B7o {n i:Nat} (h:i < n):n - i=n - (i+1)+1:=(Nat.succ_pred_eq_of_pos (Nat.sub_pos_of_lt h)).symm
theorem Ti.step {i:Nat} {Ui:List V} (I:Ti wd w T X E K (i+1) Ui) (hT:Ec wd T) (hp:Bt D (pv wd T)) (hY:D<=Y) (hb:∀ u,Sp (Ls T) u->(∀ v∈T,Bt Y (u (ld wd v)))->∀ j,j < wd->Bt X (u j)) (hi:i < T.length)
  (hu:Ui[i]?=some u) (e2:∀ j,u2 j=mks wd u (Ui.drop (i+1)) j) (b2:∀ j,j < w->Bt (E+(T.length - (i+1))*K+K) (u2 j)):Ti wd w T X E K i (Ui.set i u2):=by
 have hiU:i < Ui.length:=by rw[I.len];exact hi
 have EB:Ec wd (Ui.drop (i+1)):=I.ec.drop _;have hm:=zx hu;obtain ⟨p1,p2⟩:=I.ec.pos u hm;have out:∀ j,j<=ld wd u->u2 j=u j:=λj hj=>(e2 j).trans (B14 I.ec hu u hj);have l2:ld wd u2=ld wd u:=B7w p1 (by rw[out _ (qt _)];exact Int.ne_of_gt p2) λj hj=>by rw[out j (zk hj),N7 hj]
 have c2:u2 (ld wd u2)=u (ld wd u):=by rw[l2,out _ (qt _)]
 obtain ⟨h1,sp1,es1⟩:=@B0l wd (Ui.drop (i+1)) u;have u2m:u2∈Ui.set i u2:=B6a hiU;have bw2:Sp (Ls T) u2:=(I.bw u hm).add (sp1.trans λz hz=>I.bw z (mem_of_mem_drop hz)) λj=>by rw[e2,es1]
 have pvU:∀ z∈Ui,Bt Y (z (ld wd z)):=λz hz=>by
  obtain ⟨k,hk⟩:=List.getElem?_of_mem hz;obtain ⟨t,ht⟩:∃ t,T[k]?=some t:=⟨_,zd (by rw[<-I.len];exact (ql.mp hk).1)⟩;rw[I.pvs k z t hk ht];exact (A3g hT hp (zx ht)).up hY
 have co:∀ v∈T,Bt Y (u2 (ld wd v)):=λv hv=>by
  obtain ⟨k,hk⟩:=List.getElem?_of_mem hv;obtain ⟨z,hz⟩:∃ z,Ui[k]?=some z:=⟨_,zd (by rw[I.len];exact (ql.mp hk).1)⟩;rw[<-A11 I.lds hz hk];rcases Nat.lt_trichotomy k i with g|g|g
  ·have:=A4b I.ec hz hu g;rw[out _ (zk this),N7 this];exact .zero
  ·subst g;rw[hu] at hz;cases hz;rw[out _ (qt _)];exact pvU u hm
  ·have hz':z∈Ui.drop (i+1):=B3b g hz;rw[e2];have:=@A66 wd _ u EB z hz';exact (pvU z (zx hz)).le this.1 (Int.le_of_lt this.2)
 refine ⟨by rw[length_set];exact I.len,C1v I.ec hu l2 (by rw[c2];exact p2),by rw[B1t hu l2];exact I.lds,λj a b ha hb'=>?_,?_,?_,λz hz=>(I.fw z hz).trans λz hz=>?_,λz hz=>?_,λz hz=>?_,λz hz j hj=>?_⟩
 ·rw[List.getElem?_set] at ha;split at ha
  ·rename_i e;subst e;cases ha;rw[c2];exact I.pvs i u b hu hb'
  ·exact I.pvs j a b ha hb'
 ·rw[List.drop_set,qs (Nat.lt_irrefl i),Nat.sub_self,List.drop_eq_getElem_cons hiU];show Td wd (u2::Ui.drop (i+1));refine List.pairwise_cons.mpr ⟨λz hz=>?_,I.td⟩;rw[e2];exact A66 EB z hz
 ·rw[List.take_set_of_le (qt i)];have:=congrArg (List.take i) I.unt
  rwa [List.take_take,List.take_take,Nat.min_eq_left (Nat.le_succ i)] at this
 ·rcases B27 hu hz with rfl|hz
  ·exact (Sp.mem u2m).comb 1 (-1) (sp1.mono λz hz=>A0u hz) λj=>D3w (by rw[e2,es1])
  ·exact .mem hz
 ·sleep 36
  ·exact I.bw z hz
  ·exact bw2
 ·sleep 36
  ·exact I.bX z hz
  ·exact hb _ bw2 co
 ·rw[B7o hi,Nat.add_mul,Nat.one_mul,<-Nat.add_assoc];sleep 36
  ·exact (I.bE z hz j hj).up (Nat.le_add_right _ _)
  ·exact b2 j hj
end
end M06
namespace MNew
open MDet
variable {n:Nat}
theorem C3m (M:Mat) {i:Nat} (hi:i < n):det n (rs M i λ_=>0)=0:=by
 have:=T3 1 M (λ_=>0) (λ_=>0) hi;simp only[Int.mul_zero,Int.add_zero,Int.one_mul] at this;lia
def cof (n:Nat) (M:Mat) (i j:Nat):Int:=det n (rs M i (eu j))
theorem B3s (M:Mat) {i:Nat} (hi:i < n) (v:Nat->Int):∀ m,det n (rs M i λc=>if c < m then v c else 0)=S m λj=>v j*cof n M i j
 | 0=>by
  have:(λc=>if c < 0 then v c else 0)=λ_=>(0:Int):=by funext c;rw[qs (by lia)]
  rw[this,C3m M hi];rfl
 | m+1=>by
  have e:(λc=>if c < m+1 then v c else 0)=λc=>v m*eu m c+(if c < m then v c else 0):=by
   funext c;unfold eu;by_cases h1:c=m
   ·subst h1;rw[qr (by lia),qr rfl,qs (by lia)];lia
   ·by_cases h2:c < m
    ·rw[qr (by lia),qs h1,qr h2];lia
    ·rw[qs (by lia),qs h1,qs h2];lia
  rw[e,T3 _ M _ _ hi,B3s M hi v m,A16,Int.add_comm];rfl
theorem C5t (M:Mat) {i:Nat} (hi:i < n) (v:Nat->Int):det n (rs M i v)=S n λj=>v j*cof n M i j:=by
 rw[<-B3s M hi v n];refine det_congr λr c _ hc=>?_;unfold rs;split
 ·show v c=if c < n then v c else 0
  rw[qr hc]
 ·rfl
theorem cof_mul (M:Mat) {i k:Nat} (hi:i < n) (hk:k < n):(S n λj=>M k j*cof n M i j)=if k=i then det n M else 0:=by
 rw[<-C5t M hi (M k)];split
 ·rename_i h;subst h;rw[A0z]
 ·rename_i h;refine A2f hi hk (λz=>h z.symm) λc=>?_;unfold rs;rw[qr rfl,qs h]
def ev (N:Nat) (c:Nat->Int) (x:Int):Int:=S N λi=>c i*x ^ i
def mx (A:Mat) (x:Int):Mat:=λi j=>idm i j - x*A i j
def ps (n:Nat) (A:Mat) (k:Nat):Int:=S n λi=>M36.D96 n A k i i
end MNew
variable {M L M' L':Mat}
namespace M06
open MDet
theorem E1i {a:Int} (h:a=a+a):a=0:=by lia
variable {k j p e w Q X r q N:Nat} {A:V->Prop} {H T:List V} {v u:V} {lo:Option V} {y s t:Int} {d:Nat->Int}
theorem C3e (J0:J 0) (Jl:∀ x a b:Int,J a->J b->J (x*a+b)) (γ:Nat->Nat) (h:∀ a:Nat->V,(∀ i,i < k->A (a i))->J (det k λi j=>a i (γ j))) (a:Nat->V) (ha:∀ i,i < k->Sp A (a i)):J (det k λi j=>a i (γ j)):=by
 have P:∀ t,t<=k->∀ a:Nat->V,(∀ i,i < t->Sp A (a i))->(∀ i,t<=i->i < k->A (a i))->J (det k λi j=>a i (γ j)):=by
  intro t
  induction t with
  | zero=>exact λ_ a _ h2=>h a λi hi=>h2 i (jb _) hi
  | succ t ih =>
   intro ht a h1 h2;have key:∀ u:V,Sp A u->J (det k (rs (λi j=>a i (γ j)) t λj=>u (γ j))):=by
    intro u hu
    induction hu with
    | zero z =>
     rename_i w;have hl:=T3 1 (λi j=>a i (γ j)) (k:=t) (λj=>w (γ j)) (λj=>w (γ j)) ht;have e:(λc=>1*w (γ c)+w (γ c))=λj=>w (γ j):=by funext c;rw[z];lia
     rw[e] at hl;have:det k (rs (λi j=>a i (γ j)) t λj=>w (γ j))=0:=by rw[Int.one_mul] at hl;exact E1i hl
     rw[this];exact J0
    | @lin u v w x hu _ e ihv =>
     have hl:=T3 x (λi j=>a i (γ j)) (k:=t) (λj=>u (γ j)) (λj=>v (γ j)) ht;have e':(λc=>x*u (γ c)+v (γ c))=λj=>w (γ j):=by funext c;rw[e]
     rw[e'] at hl;rw[hl];refine Jl _ _ _ ?_ ihv;have:=ih (Nat.le_of_succ_le ht) (λi=>if i=t then u else a i) (λi hi=>by rw[qs (ze hi)];exact h1 i (Nat.lt_succ_of_lt hi)) (λi hi hk=>by
      by_cases z:i=t
      ·rw[qr z];exact hu
      ·rw[qs z];exact h2 i (Nat.lt_of_le_of_ne hi (Ne.symm z)) hk)
     have em:(λi j=>(if i=t then u else a i) (γ j))=rs (λi j=>a i (γ j)) t λj=>u (γ j):=by
      funext i j;unfold rs;split<;>rfl
     rw[em] at this;exact this
   have:=key (a t) (h1 t (Nat.lt_succ_self t));have em:rs (λi j=>a i (γ j)) t (λj=>a t (γ j))=λi j=>a i (γ j):=A0z (λi j=>a i (γ j)) t;rw[em] at this;exact this
 exact P k (qt k) a ha λi h1 h2=>absurd h2 (Nat.not_lt_of_le h1)
abbrev C1:V:=λ_=>0
theorem Sp.coef:∀ {H:List V} {w:V},Sp (Ls H) w->∃ c:Nat->Int,∀ n,H.length<=n->∀ j,w j=S n λl=>c l*(H.getD l C1) j
 | [],w,h=>⟨λ_=>0,λn _ j=>by rw[h.nil,Y3 λi _=>Int.zero_mul _]⟩
 | v::H,w,h=>by
  obtain ⟨x,w',s,e⟩:=h.cons;obtain ⟨c,hc⟩:=Sp.coef s;refine ⟨λl=>if l=0 then x else c (l - 1),λn hn j=>?_⟩;obtain ⟨m,rfl⟩:∃ m,n=m+1:=⟨n - 1,by rw[length_cons] at hn;lia⟩;rw[B1h,e,hc m (by rw[length_cons] at hn;lia)];rfl
theorem A2t:∀ {H:List V},Ec wd H->det H.length (λi j=>(H.getD i C1) (ld wd (H.getD j C1)))=pv wd H
 | [],_=>rfl
 | v::H,E=>by
  rw[length_cons,B0c λi h1 h2=>?_]
  ·show v (ld wd v)*_=v (ld wd v)*pv wd H;rw[<-A2t E.tail];rfl
  ·obtain ⟨m,rfl⟩:∃ m,i=m+1:=⟨i - 1,by lia⟩;show (H.getD m C1) (ld wd v)=0;have hm:m < H.length:=by lia
   rw[getD_eq_getElem?_getD,zd hm];exact E.head (List.getElem_mem hm)
theorem A71 (E:Ec wd H) {a:Nat->V} (h:∀ i,i < k->∃ u,Sp (Ls H) u/\∀ j,j < k->a i (γ j)=u (γ j)) (hk:H.length<=k) :
  ∃ c:Int,det k (λi j=>a i (γ j))=c*det k λi j=>(H.getD i C1) (γ j):=by
 have:∀ i,∃ c:Nat->Int,i < k->∀ j,j < k->a i (γ j)=S k λl=>c l*(H.getD l C1) (γ j):=λi=>by
  by_cases hi:i < k
  ·obtain ⟨u,s,e⟩:=h i hi;obtain ⟨c,hc⟩:=s.coef;exact ⟨c,λ_ j hj=>by rw[e j hj];exact hc k hk (γ j)⟩
  ·exact ⟨λ_=>0,λz=>absurd z hi⟩
 obtain ⟨c,hc⟩:=Classical.axiomOfChoice this;refine ⟨det k c,?_⟩;rw[<-A6e];exact det_congr λi j hi hj=>hc i hi j hj
theorem C2n (E:Ec wd H) {a:Nat->V} (h:∀ i,i < k->∃ u,Sp (Ls H) u/\∀ j,j < k->a i (γ j)=u (γ j)) (hk:H.length < k):det k (λi j=>a i (γ j))=0:=by
 obtain ⟨c,hc⟩:=A71 E h (zk hk);obtain ⟨m,rfl⟩:∃ m,k=m+1:=⟨k - 1,by lia⟩;rw[hc];have:det (m+1) (λi j=>(H.getD i C1) (γ j))=0:=by
  rw[<-A3c,];have hl:=T3 1 (λi j=>(H.getD i C1) (γ j)) (k:=m) (λ_=>0) (λ_=>0) (by lia:m < m+1);have e:rs (λi j=>(H.getD i C1) (γ j)) m (λ_=>0)=λi j=>(H.getD i C1) (γ j):=by
   funext i j;unfold rs;split
   ·rename_i z;subst z;rw[getD_eq_getElem?_getD,List.getElem?_eq_none (by lia)];rfl
   ·rfl
  have e2:(λc:Nat=>1*(λ_=>(0:Int)) c+(λ_=>(0:Int)) c)=λ_=>0:=by funext c;rfl
  rw[e2,e] at hl;rw[A3c];lia
 rw[this,Int.mul_zero]
theorem Sp.sum {n:Nat} {c:Nat->Int} {f:Nat->V} (h:∀ i,i < n->Sp A (f i)):Sp A (λj=>S n λi=>c i*f i j):=by
 induction n with
 | zero=>exact .zero λ_=>rfl
 | succ n ih=>exact (ih λi hi=>h i (by lia)).comb 1 (c n) (h n (by lia)) λj=>by show S n (λi=>c i*f i j)+c n*f n j=1*S n (λi=>c i*f i j)+c n*f n j;lia
theorem Bt.sum {b n:Nat} {f:Nat->Int} (hn:n<=8) (h:∀ i,i < n->Bt b (f i)):Bt (b+3) (S n f):=by
 have:=D4d (2 ^ b - 1) n f λi hi=>by have:=h i hi;unfold Bt at this;lia
 have h2:=Nat.two_pow_pos b;have h3:=Nat.mul_le_mul_right (2 ^ b - 1) hn;unfold Bt;rw[Nat.pow_add];lia
theorem Bt.det {b n:Nat} {a:Mat} (hn:n<=8) (h:∀ i j,i < n->j < n->Bt b (a i j)):Bt ((b+3)*n+1) (MDet.det n a):=by
 have:=det_bdc b n a hn λi j hi hj=>zk (h i j hi hj);unfold Bt;exact qu this (Nat.pow_lt_pow_right (by decide) (by lia))
theorem B15 (E:Ec wd H):H.length<=wd:=by
 have:∀ (H:List V) (c:Nat),Ec wd H->(∀ v∈H,c<=ld wd v)->H.length+c<=wd\/H=[]:=by
  intro H
  induction H with
  | nil=>intro c _ _;exact .inr rfl
  | cons v H ih =>
   intro c E h;have h1:=h v qx;have h2:=(E.pos v qx).1;rcases ih (ld wd v+1) E.tail λu hu=>(List.pairwise_cons.mp E.pw).1 u hu with h3|rfl
   ·left;rw[length_cons];lia
   ·left;simp;lia
 rcases this H 0 E (λ_ _=>jb _) with h|rfl
 ·lia
 ·simp
structure Eqv (wd:Nat) (H G:List V):Prop where
 fw:∀ r∈G,∃ h,Sp (Ls H) h/\∀ j,j < wd->r j=h j
 bw:∀ u∈H,∃ r,Sp (Ls G) r/\∀ j,j < wd->u j=r j
theorem getD_mem {i:Nat} (h:i < H.length):H.getD i C1∈H:=by rw[getD_eq_getElem?_getD,zd h];exact List.getElem_mem h
theorem Eqv.sel {G:List V} (e:Eqv wd H G) (E:Ec wd H):∃ a:Nat->V,(∀ i,i < H.length->a i∈G)/\det H.length (λi j=>a i (ld wd (H.getD j C1)))≠0:=by
 refine Classical.byContradiction λhn=>?_;have h0:∀ a:Nat->V,(∀ i,i < H.length->a i∈G)->det H.length (λi j=>a i (ld wd (H.getD j C1)))=0:=λa ha=>Classical.byContradiction λz=>hn ⟨a,ha,z⟩;have:∀ i,∃ r:V,i < H.length->Sp (Ls G) r/\∀ j,j < wd->(H.getD i C1) j=r j:=λi=>by
  by_cases hi:i < H.length
  ·obtain ⟨r,h1,h2⟩:=e.bw _ (getD_mem hi);exact ⟨r,λ_=>⟨h1,h2⟩⟩
  ·exact ⟨C1,λz=>absurd z hi⟩
 obtain ⟨b,hb⟩:=Classical.axiomOfChoice this;have:=C3e (J:=λx=>x=0) rfl (λx a b h1 h2=>by rw[h1,h2];lia) (λj=>ld wd (H.getD j C1)) h0 b λi hi=>(hb i hi).1;have h2:=A2t E;rw[det_congr (b:=λi j=>b i (ld wd (H.getD j C1))) λi j hi hj=>(hb i hi).2 _ (E.pos _ (getD_mem hj)).1] at h2;exact absurd (h2.symm.trans this) (Int.ne_of_gt (A1v E))
theorem B58 {a b:Int} (h:a ∣ b) (hb:b≠0) (ha:0 < a):a.natAbs<=b.natAbs:=Nat.le_of_dvd (by lia) (Int.natAbs_dvd_natAbs.mpr h)
theorem E0l (d u:Int):d*u+-1*(u*d)=0:=by rw[Int.mul_comm u d];lia
theorem E1m {x:Int} (h:0 < x):(0:Int).natAbs < x.natAbs:=by lia
theorem E12 {a b:Int} (h:a+-1*b=0):a=b:=by lia
theorem E33 {d x:Int} (hd:d≠0) (h:Bt k (d*x)):Bt k x:=by
 unfold Bt at *;rw[Int.natAbs_mul] at h;exact qu (Nat.le_mul_of_pos_left _ (Int.natAbs_pos.mpr hd)) h
theorem E24 (b y n:Nat):y+((b+3)*n+1+b+3)+3<=y+(b+3)*(n+1)+4:=by rw[Nat.mul_add,Nat.mul_one];lia
theorem Eqv.size {b:Nat} {G:List V} (e:Eqv wd H G) (E:Ec wd H) (h8:wd<=8) (b1:1<=b) (hb:∀ r∈G,∀ j,j < wd->Bt b (r j)) :
  Bt ((b+3)*H.length+1) (pv wd H)/\∀ (u:V) (y:Nat),Sp (Ls H) u->(∀ v∈H,Bt y (u (ld wd v)))->∀ j,j < wd->Bt (y+(b+3)*(H.length+1)+4) (u j):=by
 obtain ⟨a,ha,hd⟩:=e.sel E;have hl8:=zq (B15 E) h8;have hp:pv wd H ∣ det H.length (λi j=>a i (ld wd (H.getD j C1))):=by
  obtain ⟨c,hc⟩:=A71 (k:=H.length) (γ:=λj=>ld wd (H.getD j C1)) (a:=a) E (λi hi=>by
   obtain ⟨h,h1,h2⟩:=e.fw _ (ha i hi);exact ⟨h,h1,λj hj=>h2 _ (E.pos _ (getD_mem hj)).1⟩) (qt _)
  rw[A2t E] at hc;exact ⟨c,by rw[hc,Int.mul_comm]⟩
 have hba:∀ i j,i < H.length->j < H.length->Bt b (a i (ld wd (H.getD j C1))):=λi j hi hj=>hb _ (ha i hi) _ (E.pos _ (getD_mem hj)).1;have hD:=Bt.det hl8 hba;refine ⟨qu (B58 hp hd (A1v E)) hD,λu y su hu j hj=>?_⟩;generalize hδ:det H.length (λi j=>a i (ld wd (H.getD j C1)))=δ at *;obtain ⟨Mt,hMt⟩:∃ Mt:Mat,Mt=λr c=>a c (ld wd (H.getD r C1)):=⟨_,rfl⟩;have hdt:det H.length Mt=δ:=by rw[hMt,<-hδ];exact A3c _ (λi j=>a i (ld wd (H.getD j C1)))
 obtain ⟨Ep,hEp⟩:∃ Ep:Nat->V,Ep=λp j=>S H.length λi=>MNew.cof H.length Mt p i*a i j:=⟨_,rfl⟩;have E1:∀ p q,p < H.length->q < H.length->Ep p (ld wd (H.getD q C1))=if q=p then δ else 0:=λp q hp hq=>by
  have:=MNew.cof_mul Mt hp hq;rw[hdt] at this;rw[<-this,hEp];exact S_congr λi hi=>by rw[hMt];exact Int.mul_comm _ _
 have cb:∀ p i,p < H.length->i < H.length->Bt ((b+3)*H.length+1) (MNew.cof H.length Mt p i):=λp i hp hi=>Bt.det hl8 λr c hr hc=>by
  unfold rs eu;split
  ·split
   ·exact Bt.up (b:=1) (show (1:Int).natAbs < 2 ^ 1 by decide) b1
   ·exact .zero
  ·rw[hMt];exact hba _ _ hc hr
 have:∀ i,∃ h:V,i < H.length->Sp (Ls H) h/\∀ j,j < wd->a i j=h j:=λi=>by
  by_cases hi:i < H.length
  ·obtain ⟨r,h1,h2⟩:=e.fw _ (ha i hi);exact ⟨r,λ_=>⟨h1,h2⟩⟩
  ·exact ⟨C1,λz=>absurd z hi⟩
 obtain ⟨hs,hhs⟩:=Classical.axiomOfChoice this;have sE:∀ p,p < H.length->Sp (Ls H) (λj=>S H.length λi=>MNew.cof H.length Mt p i*hs i j):=λp _=>Sp.sum λi hi=>(hhs i hi).1;have eE:∀ p j,p < H.length->j < wd->(S H.length λi=>MNew.cof H.length Mt p i*hs i j)=Ep p j:=λp j _ hj=>by
  rw[hEp];exact S_congr λi hi=>by rw[(hhs i hi).2 j hj]
 have sw:Sp (Ls H) (λj=>δ*u j+-1*S H.length λp=>u (ld wd (H.getD p C1))*S H.length λi=>MNew.cof H.length Mt p i*hs i j):=su.comb δ (-1) (Sp.sum sE) λj=>rfl;have z:=E.null sw λv hv=>by
  obtain ⟨q,hq,rfl⟩:=mem_iff_getElem.mp hv;have ev:H[q]=H.getD q C1:=by rw[getD_eq_getElem?_getD,zd hq];rfl
  rw[ev];have hg:=(E.pos _ (getD_mem hq));have:(S H.length λp=>u (ld wd (H.getD p C1))*S H.length λi=>MNew.cof H.length Mt p i*hs i (ld wd (H.getD q C1)))=u (ld wd (H.getD q C1))*δ:=by
   rw[A0o q hq λp hp hpq=>by rw[eE p _ hp hg.1,E1 p q hp hq,qs (λz=>hpq z.symm),Int.mul_zero]];rw[eE q _ hq hg.1,E1 q q hq hq,qr rfl]
  show (δ*u (ld wd (H.getD q C1))+-1*_).natAbs < _;rw[this];rw[E0l];exact E1m hg.2
 have z1:=z j;have hval:δ*u j=S H.length λp=>u (ld wd (H.getD p C1))*Ep p j:=by
  have:(S H.length λp=>u (ld wd (H.getD p C1))*S H.length λi=>MNew.cof H.length Mt p i*hs i j)=S H.length λp=>u (ld wd (H.getD p C1))*Ep p j:=S_congr λp hp=>by rw[eE p j hp hj]
  rw[this] at z1;exact E12 z1
 have bE:∀ p,p < H.length->Bt ((b+3)*H.length+1+b+3) (Ep p j):=λp hp=>by
  rw[hEp];exact Bt.sum hl8 λi hi=>(cb p i hp hi).mul (hb _ (ha i hi) j hj)
 have bS:Bt (y+((b+3)*H.length+1+b+3)+3) (δ*u j):=by
  rw[hval];exact Bt.sum hl8 λp hp=>(hu _ (getD_mem hp)).mul (bE p hp)
 exact (E33 hd bS).up (E24 b y H.length)
structure E23 (wd:Nat) (R:List V) (Y X C D i:Nat) (H:List V):Prop where
 len:H.length<=8
 prod:Bt D (pv wd H)
 b0:∀ u,Sp (Ls H) u->(∀ v∈H,Bt Y (u (ld wd v)))->∀ j,j < wd->Bt X (u j)
 bd:∀ g,R[i]?=some g->(∀ j,j < wd->Bt Y (g j))/\∀ (y:Int) (h u:V),Sp (Ls H) h->(∀ j,j < wd->u j=y*g j+h j)->Bt C y->(∀ v∈H,Bt Y (u (ld wd v)))->∀ j,j < wd->Bt X (u j)
structure Reg (wd:Nat) (R:List V) (Y X C D:Nat):Prop where
 DY:D<=Y
 CC:D+Y+2<=C
 reg:∀ i H,i<=R.length->Ec wd H->Eqv wd H (R.take i)->E23 wd R Y X C D i H
structure SI (wd w:Nat) (R:List V) (X E KK i:Nat) (H Z:List V):Prop where
 ec:Ec wd H
 td:Td wd H
 len:H.length+Z.length=i
 ile:i<=R.length
 zr:∀ z∈Z,∀ j,j < wd->z j=0
 fw:∀ r∈R.take i,Sp (Ls (Z++H)) r
 bw:∀ u∈Z++H,Sp (Ls (R.take i)) u
 bH:∀ u∈H,Sp (λr=>r∈R.take i/\∃ j,j < wd/\r j≠0) u
 bX:∀ u∈H,∀ j,j < wd->Bt X (u j)
 bE:∀ u∈Z++H,∀ j,j < w->Bt (E+i*KK) (u j)
 zs:((R.take i).filter λr=>decide (ld wd r=wd)).length<=Z.length/\(Z.length=((R.take i).filter λr=>decide (ld wd r=wd)).length->∀ z∈Z,z∈R)
section
variable {wd w:Nat} {R H Z T Ui:List V} {g:V} {Y X C D E KK K i:Nat}
theorem SI.eqv (S:SI wd w R X E KK i H Z):Eqv wd H (R.take i) where
 fw:=λr hr=>by
  have:∀ {r:V},Sp (Ls (Z++H)) r->∃ h,Sp (Ls H) h/\∀ j,j < wd->r j=h j:=λ{r} h=>by
   induction h with
   | zero z=>exact ⟨C1,.zero λ_=>rfl,λj _=>z j⟩
   | @lin u v w x hu _ e ih =>
    obtain ⟨h,h1,h2⟩:=ih;sleep 28
    ·exact ⟨h,h1,λj hj=>by rw[e,S.zr u hu j hj,h2 j hj];lia⟩
    ·exact ⟨λj=>x*u j+h j,.lin x hu h1 λ_=>rfl,λj hj=>by rw[e,h2 j hj]⟩
  exact this (S.fw r hr)
 bw:=λu hu=>⟨u,S.bw u (qz _ hu),λ_ _=>rfl⟩
theorem SI.start:SI wd w R X E KK 0 [] [] where
 ec:=⟨λ_ z=>(by cases z),.nil⟩
 td:=.nil
 len:=rfl
 ile:=jb _
 zr:=λ_ z=>(by cases z)
 fw:=λ_ z=>(by cases z)
 bw:=λ_ z=>(by cases z)
 bH:=λ_ z=>(by cases z)
 bX:=λ_ z=>(by cases z)
 bE:=λ_ z=>(by cases z)
 zs:=⟨jb _,λ_ _ z=>(by cases z)⟩
theorem SI.hy (S:SI wd w R X E KK i H Z) (G:Reg wd R Y X C D) (hg:R[i]?=some g):Hy wd H g Y X C D:=by
 have r:=G.reg i H S.ile S.ec S.eqv;exact ⟨S.ec,S.td,r.len,r.prod,(r.bd g hg).1,G.DY,G.CC,(r.bd g hg).2⟩
theorem SI.gE (S:SI wd w R X E KK i H Z) (hg:R[i]?=some g) (hE:∀ r∈R,∀ j,j < w->Bt E (r j)):∀ u∈g::H,∀ j,j < w->Bt (E+i*KK) (u j):=λu hu j hj=>by
 rcases zn.mp hu with rfl|hu
 ·exact (hE u (zx hg) j hj).up (by lia)
 ·exact S.bE u (qz _ hu) j hj
theorem A9m (hg:R[i]?=some g):R.take (i+1)=R.take i++[g]:=by
 obtain ⟨h,e⟩:=ql.mp hg;rw[List.take_succ_eq_append_getElem h,e]
theorem PO.eqv (S:SI wd w R X E KK i H Z) (P:PO wd w H g X (E+i*KK+8*K) T lo) (hg:R[i]?=some g):Eqv wd T (R.take (i+1)):=by
 rw[A9m hg];have toT:∀ {r:V},Sp (Ls (lo.toList++T)) r->∃ h,Sp (Ls T) h/\∀ j,j < wd->r j=h j:=λ{r} h=>by
  induction h with
  | zero z=>exact ⟨C1,.zero λ_=>rfl,λj _=>z j⟩
  | @lin u v w x hu _ e ih =>
   obtain ⟨h,h1,h2⟩:=ih;sleep 28
   ·exact ⟨h,h1,λj hj=>by rw[e,P.zr u (by cases lo<;>simp at hu ⊢;exact hu.symm) j hj,h2 j hj];lia⟩
   ·exact ⟨λj=>x*u j+h j,.lin x hu h1 λ_=>rfl,λj hj=>by rw[e,h2 j hj]⟩
 refine ⟨λr hr=>?_,λu hu=>?_⟩
 ·rcases zm.mp hr with hr|hr
  ·obtain ⟨h,h1,h2⟩:=S.eqv.fw r hr;obtain ⟨h',h3,h4⟩:=toT (h1.trans λz hz=>P.fw z (.inl hz));exact ⟨h',h3,λj hj=>by rw[h2 j hj,h4 j hj]⟩
  ·rw[zc.mp hr];exact toT (P.fw g (.inr rfl))
 ·refine ⟨u,(P.bw u (qz _ hu)).trans λz hz=>?_,λ_ _=>rfl⟩;sleep 17
  ·exact .mem (qz _ (by simp))
  ·exact (S.bw z (qz _ hz)).mono λq hq=>za _ hq
theorem C19 (h:∀ j,j < wd->v j=0):ld wd v=wd:=by
 have:=C96 (wd:=wd) (qt wd) h;have:=C9s wd v;lia
theorem D7f {u t h l z i:Nat} (a:u=t) (b:t+l=h+1) (c:h+z=i):u+(z+l)=i+1:=by lia
theorem D6z {E i KK:Nat}:E+i*KK<=E+(i*KK+KK):=by lia
variable {a:Nat}
theorem D7p {E KK K:Nat} (h:16*K<=KK):E+a+8*K<=E+(a+KK):=by lia
theorem D9z {b f:Nat} (z:f<=a) (e:a+b=f):b=0:=by lia
theorem D8d {E KK K b:Nat} (t:b<=8*K) (h:16*K<=KK):E+a+8*K+b<=E+(a+KK):=by lia
theorem SI.step (S:SI wd w R X E KK i H Z) (G:Reg wd R Y X C D) (hg:R[i]?=some g) (P:PO wd w H g X (E+i*KK+8*K) T lo) (h0:ld wd g=wd->T=H/\lo=some g) (I:Ti wd w T X (E+i*KK+8*K) K 0 Ui) (hT:T.length<=8) (hK:16*K<=KK) :
  SI wd w R X E KK (i+1) Ui (Z++lo.toList):=by
 have hil:=(ql.mp hg).1;have ts:=A9m hg;have kk:(i+1)*KK=i*KK+KK:=by rw[Nat.add_mul,Nat.one_mul]
 have tk:T.length*K<=8*K:=Nat.mul_le_mul_right _ hT;refine ⟨I.ec,by have:=I.td;rwa [List.drop_zero] at this,?_,hil,λz hz=>?_,λr hr=>?_,λu hu=>?_,λu hu=>?_,I.bX,λu hu j hj=>?_,?_⟩
 ·rw[length_append];exact D7f I.len P.len S.len
 ·rcases zm.mp hz with hz|hz
  ·exact S.zr z hz
  ·exact P.zr z (by cases lo<;>simp at hz ⊢;exact hz.symm)
 ·have toN:∀ {r:V},Sp (Ls (lo.toList++T)) r->Sp (Ls (Z++lo.toList++Ui)) r:=λ{r} h=>h.trans λz hz=>by
   rcases zm.mp hz with hz|hz
   ·exact .mem (za _ (qz _ hz))
   ·exact (I.fw z hz).mono λq hq=>qz _ hq
  rw[ts] at hr;rcases zm.mp hr with hr|hr
  ·exact (S.fw r hr).trans λz hz=>by
    rcases zm.mp hz with hz|hz
    ·exact .mem (za _ (za _ hz))
    ·exact toN (P.fw z (.inl hz))
  ·rw[zc.mp hr];exact toN (P.fw g (.inr rfl))
 ·rw[ts];have gH:∀ {r:V},Sp (Ls (g::H)) r->Sp (Ls (R.take i++[g])) r:=λ{r} h=>h.trans λz hz=>by
   sleep 17
   ·exact .mem (qz _ (by simp))
   ·exact (S.bw z (qz _ hz)).mono λq hq=>za _ hq
  sleep 28
  ·sleep 28
   ·exact (S.bw u (za _ hu)).mono λq hq=>za _ hq
   ·exact gH (P.bw u (za _ hu))
  ·exact (I.bw u hu).trans λz hz=>gH (P.bw z (qz _ hz))
 ·rw[ts];have up:∀ {u:V},u∈H->Sp (λr=>r∈R.take i++[g]/\∃ j,j < wd/\r j≠0) u:=λ{u} hu=>(S.bH u hu).mono λq hq=>⟨za _ hq.1,hq.2⟩;by_cases z:ld wd g=wd
  ·rw[(h0 z).1] at I;exact (I.bw u hu).trans λz hz=>up hz
  ·refine (I.bw u hu).trans λz hz=>(P.bw z (qz _ hz)).trans λq hq=>?_;rcases zn.mp hq with rfl|hq
   ·have hl:ld wd q < wd:=Nat.lt_of_le_of_ne (C9s wd q) z;exact .mem ⟨qz _ (by simp),_,hl,B82 hl⟩
   ·exact up hq
 ·rw[kk];sleep 28
  ·sleep 28
   ·exact (S.bE u (za _ hu) j hj).up D6z
   ·exact (P.bE u (za _ hu) j hj).up (D7p hK)
  ·exact (I.bE u hu j hj).up (by rw[Nat.sub_zero];exact D8d tk hK)
 ·rw[ts,List.filter_append,length_append,length_append];obtain ⟨z1,z2⟩:=S.zs;by_cases z:ld wd g=wd
  ·rw[(h0 z).2,List.filter_cons_of_pos (by simpa using z)];show _+1<=_+1/\(_+1=_+1->_);refine ⟨Nat.succ_le_succ z1,λe q hq=>?_⟩;rcases zm.mp hq with hq|hq
   ·exact z2 (Nat.succ.inj e) q hq
   ·simp at hq;rw[hq];exact zx hg
  ·rw[List.filter_cons_of_neg (by simpa using z)];show _+0<=_/\(_=_+0->_);refine ⟨zq z1 (Nat.le_add_right _ _),λe q hq=>?_⟩;have hlo:lo.toList=[]:=List.length_eq_zero_iff.mp (D9z z1 e);rw[hlo,append_nil] at hq;exact z2 (by rw[hlo] at e;simpa using e) q hq
end
theorem C45 {α:Type} {n:Nat} {l:List α} {a:Nat->α} (h:∀ i,i < n->a i∈l) (hn:l.length < n):∃ p q,p < n/\q < n/\p≠q/\a p=a q:=by
 refine Classical.byContradiction λhno=>?_;have nd:((List.range n).map a).Nodup:=by
  rw[List.Nodup,List.pairwise_map];refine List.Pairwise.imp_of_mem (R:=λa b=>a < b) (λ{x y} hx hy hlt e=>hno ⟨x,y,mem_range.mp hx,mem_range.mp hy,ze hlt,e⟩) List.pairwise_lt_range
 have:=List.Nodup.length_le_of_subset nd (λx hx=>by obtain ⟨i,hi,rfl⟩:=zg.mp hx;exact h i (mem_range.mp hi):(List.range n).map a ⊆ l);rw[qk,length_range] at this;lia
theorem E1v {b D:Nat} {a:Nat} (h:(b+3)*k+1<=D) (m:a<=(b+3)*k):a+1<=D:=by lia
theorem E0s {a b D:Nat} (h:(b+3)*k+1<=D) (m:a<=(b+3)*k):D+(a+(b+3))+4<=3*D+2*b+20:=by lia
theorem E13 {b D:Nat} (h:(b+3)*k+1<=D) (m:(b+3)*1<=(b+3)*k):b<=D:=by lia
theorem D6l {b D:Nat}:D < 2*D+2+b+1/\2*D+2+b < 2*D+2+b+1:=by lia
theorem D9y {a b D:Nat} (h:(b+3)*k+1<=D) (m:a<=(b+3)*k):2*D+2+b < 3*D+2*b+20/\2*D+2+b+1+(a+(b+3))+4 < 3*D+2*b+20:=by lia
theorem E2p {g h u:Int} (e:u=y*g+h):h=u+-(y*g):=by lia
theorem E0n {D:Nat}:D+D+2<=2*D+2:=by lia
theorem C6q {b D:Nat} {R:List V} (h8:wd<=8) (b1:1<=b) (hb:∀ r∈R,∀ j,j < wd->Bt b (r j)) (hk:wd<=k\/R.length<=k) (hk1:1<=k) (hk8:k<=8) (hD:(b+3)*k+1<=D) :
  Reg wd R D (3*D+2*b+20) (2*D+2) D:=by
 refine ⟨qt _,E0n,λi H hi E e=>?_⟩;have hbt:∀ r∈R.take i,∀ j,j < wd->Bt b (r j):=λr hr=>hb r (List.mem_of_mem_take hr);obtain ⟨s1,s2⟩:=e.size E h8 b1 hbt;have hl:=B15 E;have hlk:H.length<=k:=by
  rcases hk with hk|hk
  ·exact zq hl hk
  ·obtain ⟨a,ha,hd⟩:=e.sel E;refine zq ?_ hk;refine Classical.byContradiction λz=>hd ?_;obtain ⟨p,q,hp,hq,hpq,e2⟩:=C45 (l:=R.take i) ha (qu (by rw[jc];exact Nat.min_le_right _ _) (Nat.lt_of_not_le z));exact A2f hp hq hpq λc=>by show a p _=a q _;rw[e2]
 have hm:(b+3)*H.length<=(b+3)*k:=Nat.mul_le_mul_left _ hlk;have hk3:=Nat.mul_le_mul_left (b+3) hk1;rw[Nat.mul_add,Nat.mul_one] at s2;refine ⟨zq hlk hk8,s1.up (E1v hD hm),λu hu hc j hj=>(s2 u _ hu hc j hj).up (E0s hD hm),λg hg=>⟨λj hj=>(hb g (zx hg) j hj).up (E13 hD hk3),λy h u hh hu hy hc j hj=>?_⟩⟩;have gb:=hb g (zx hg);have hh':∀ v∈H,Bt (2*D+2+b+1) (h (ld wd v)):=λv hv=>by
  have hp:=(E.pos v hv).1;have:h (ld wd v)=u (ld wd v)+-(y*g (ld wd v)):=E2p (hu _ hp);rw[this];exact (hc v hv).add (hy.mul (gb _ hp)).neg D6l.1 D6l.2
 rw[hu j hj];exact (hy.mul (gb j hj)).add (s2 h _ hh hh' j hj) (D9y hD hm).1 (D9y hD hm).2
def D3:Nat->(Nat->Int)->Int
 | 0,_=>1
 | n+1,f=>f 0*D3 n λi=>f (i+1)
theorem A5e:∀ {n:Nat} {f:Nat->Int},(∀ i,i < n->0 < f i)->0 < D3 n f
 | 0,_,_=>show (0:Int) < 1 by decide
 | n+1,f,h=>Int.mul_pos (h 0 (by lia)) (A5e λi hi=>h (i+1) (by lia))
theorem A7x:∀ {n m:Nat} {f:Nat->Int},(∀ i,i < m->0 < f i)->n<=m->D3 n f<=D3 m f
 | 0,0,_,_,_=>Int.le_refl _
 | 0,m+1,f,h,_=>by
  have h1:=@A7x 0 m (λi=>f (i+1)) (λi hi=>h (i+1) (by lia)) (by lia);have h2:=h 0 (by lia);have:=Int.mul_le_mul_of_nonneg_right (show (1:Int)<=f 0 by lia) (show 0<=D3 m λi=>f (i+1) from Int.le_trans (show (0:Int)<=1 by decide) h1);show 1<=f 0*D3 m λi=>f (i+1);have h1:1<=D3 m λi=>f (i+1):=h1;lia
 | n+1,m+1,f,h,hl=>Int.mul_le_mul_of_nonneg_left (A7x (λi hi=>h (i+1) (by lia)) (by lia)) (Int.le_of_lt (h 0 (by lia)))
theorem G8:∀ {n:Nat} {f g:Nat->Int},(∀ i,i < n->f i=g i)->D3 n f=D3 n g
 | 0,_,_,_=>rfl
 | n+1,f,g,h=>by rw[D3,D3,h 0 (by lia),G8 λi hi=>h (i+1) (by lia)]
theorem B1v:∀ {n:Nat} {M:Mat},(∀ i j,j < i->i < n->M i j=0)->det n M=D3 n λi=>M i i
 | 0,_,_=>rfl
 | n+1,M,h=>by
  rw[B0c λi h1 h2=>h i 0 (by lia) h2,B1v λi j h1 h2=>h (i+1) (j+1) (by lia) (by lia)];rfl
theorem A6a {n:Nat} (h:∀ i j,i < j->j < n->M i j=0):det n M=D3 n λi=>M i i:=by
 rw[<-A3c,B1v λi j h1 h2=>h j i h1 h2]
theorem C6e {f:Nat->Nat} (h1:∀ i,i < k->f i < k) (h2:∀ i j,i < j->j < k->f i < f j) {i:Nat} (hi:i < k):f i=i:=by
 have lo:∀ i,i < k->i<=f i:=λi=>by
  induction i with
  | zero=>exact λ_=>jb _
  | succ i ih=>exact λh=>qu (ih (Nat.lt_of_succ_lt h)) (h2 i (i+1) (Nat.lt_succ_self i) h)
 have hi':∀ d i,i+d+1=k->f i<=i:=λd=>by
  induction d with
  | zero=>exact λi h=>Nat.le_of_lt_succ (Nat.lt_of_lt_of_eq (h1 i (by lia)) h.symm)
  | succ d ih=>exact λi h=>Nat.le_of_lt_succ (qv (h2 i (i+1) (Nat.lt_succ_self i) (by lia)) (ih (i+1) (by lia)))
 exact Nat.le_antisymm (hi' (k - 1 - i) i (by lia)) (lo i hi)
structure B9g (wd:Nat) (N:List V) (r:Nat) (c:Nat->Nat) (b D:Nat):Prop where
 r8:r<=8
 rw:r<=wd
 mono:∀ i j,i < j->j < r->c i < c j
 cl:∀ j,j < r->c j < N.length
 nz:∀ (i:Nat) (v:V),N[i]?=some v->∀ j,j < wd->v j≠0->j < r/\c j<=i
 pos:∀ j,j < r->0 < (N.getD (c j) C1) j
 bt:∀ v∈N,∀ j,j < wd->Bt b (v j)
 prod:Bt D (D3 r λj=>(N.getD (c j) C1) j)
section
variable {wd r b D:Nat} {N H:List V} {c:Nat->Nat}
theorem A9s:∀ (r:Nat) {c:Nat->Nat},(∀ i j,i < j->j < r->c i < c j)->∀ i,∃ k,k<=r/\∀ j,j < r->(c j < i ↔ j < k)
 | 0,_,_,_=>⟨0,qt _,λj hj=>by lia⟩
 | r+1,c,h,i=>by
  obtain ⟨k,hk,e⟩:=A9s r (λi j h1 h2=>h i j h1 (by lia)) i;by_cases z:c r < i
  ·refine ⟨r+1,qt _,λj hj=>⟨λ_=>hj,λ_=>?_⟩⟩;by_cases e:j=r
   ·subst e;exact z
   ·have:=h j r (by lia) (by lia);lia
  ·refine ⟨k,by lia,λj hj=>?_⟩;by_cases q:j=r
   ·subst q;exact ⟨λy=>absurd y z,λy=>by lia⟩
   ·exact e j (by lia)
theorem C8p (E:Ec wd H) (h:∀ v∈H,ld wd v < k):H.length<=k:=by
 have:∀ (H:List V) (c:Nat),Ec wd H->(∀ v∈H,c<=ld wd v/\ld wd v < k)->H.length+c<=k\/H=[]:=by
  intro H
  induction H with
  | nil=>intro c _ _;exact .inr rfl
  | cons v H ih =>
   intro c E h;have h1:=h v qx;rcases ih (ld wd v+1) E.tail λu hu=>⟨(List.pairwise_cons.mp E.pw).1 u hu,(h u (qy _ hu)).2⟩ with h3|rfl
   ·left;rw[length_cons];lia
   ·left;simp;lia
 rcases this H 0 E (λv hv=>⟨jb _,h v hv⟩) with h|rfl
 ·lia
 ·simp
theorem getD_some {N:List V} {i:Nat} (h:i < N.length):N[i]?=some (N.getD i C1):=by rw[getD_eq_getElem?_getD,zd h];rfl
theorem B9g.end (t:B9g wd N r c b D) {i:Nat} (E:Ec wd H) (e:Eqv wd H (N.take i)) (hk:k<=r) (hc:∀ j,j < r->(c j < i ↔ j < k)) :
  H.length=k/\(∀ j,j < k->ld wd (H.getD j C1)=j)/\(∀ u∈H,∀ j,k<=j->j < wd->u j=0)/\pv wd H<=D3 k λj=>(N.getD (c j) C1) j:=by
 have zr:∀ u∈H,∀ j,k<=j->j < wd->u j=0:=λu hu j h1 h2=>by
  obtain ⟨r',s,e'⟩:=e.bw u hu;rw[e' j h2];refine s.zeros λv hv=>Classical.byContradiction λz=>?_;obtain ⟨i',hi'⟩:=List.getElem?_of_mem hv;have hlt:i' < i:=by have:=(ql.mp hi').1;rw[jc] at this;exact qv this (Nat.min_le_left _ _)
  rw[List.getElem?_take_of_lt hlt] at hi';obtain ⟨q1,q2⟩:=t.nz i' v hi' j h2 z;exact Nat.not_lt_of_le h1 ((hc j q1).mp (qu q2 hlt))
 have lk:∀ u∈H,ld wd u < k:=λu hu=>Classical.byContradiction λz=>by
  have h1:=E.pos u hu;exact Int.ne_of_gt h1.2 (zr u hu _ (Nat.le_of_not_lt z) h1.1)
 have mem:∀ l,l < k->N.getD (c l) C1∈N.take i:=λl hl=>by
  have hr:=qv hl hk;exact zx (i:=c l) (by rw[List.getElem?_take_of_lt ((hc l hr).mpr hl)];exact getD_some (t.cl l hr))
 have dt:det k (λi j=>(N.getD (c i) C1) j)=D3 k λj=>(N.getD (c j) C1) j:=A6a λi j h1 h2=>Classical.byContradiction λz=>by
  have hj:=qv h2 hk;exact Nat.not_lt_of_le (t.nz (c i) _ (getD_some (t.cl i (Nat.lt_trans h1 hj))) j (qv hj t.rw) z).2 (t.mono i j h1 hj)
 have hp:0 < D3 k λj=>(N.getD (c j) C1) j:=A5e λj hj=>t.pos j (qv hj hk);have mk:∀ l,l < k->∃ u,Sp (Ls H) u/\∀ j,j < k->(N.getD (c l) C1) j=u j:=λl hl=>by
  obtain ⟨h,h1,h2⟩:=e.fw _ (mem l hl);exact ⟨h,h1,λj hj=>h2 j (qv hj (zq hk t.rw))⟩
 have len:H.length=k:=by
  rcases Nat.lt_or_ge H.length k with z|z
  ·exact absurd ((dt.symm.trans (C2n (γ:=λj=>j) E mk z))) (Int.ne_of_gt hp)
  ·exact Nat.le_antisymm (C8p E lk) z
 have lds:∀ j,j < k->ld wd (H.getD j C1)=j:=λj hj=>C6e (f:=λj=>ld wd (H.getD j C1)) (λi hi=>lk _ (getD_mem (len.symm ▸ hi))) (λi j h1 h2=>A4b E (i:=i) (j:=j) (getD_some (len.symm ▸ Nat.lt_trans h1 h2)) (getD_some (len.symm ▸ h2)) h1) hj;refine ⟨len,lds,zr,?_⟩;obtain ⟨q,hq⟩:=A71 (γ:=λj=>j) E mk (Nat.le_of_eq len);have hu:=A2t E;rw[len,det_congr (b:=λi j=>(H.getD i C1) j) λi j _ hj=>by rw[lds j hj]] at hu;rw[hu,dt] at hq;exact B4a ⟨q,by rw[hq,Int.mul_comm]⟩ hp
theorem B39 {Y:Nat} (t:B9g wd N r c b D) (h1:D<=Y) (h2:b<=Y):Reg wd N Y (D+Y+2+Y) (D+Y+2) D:=by
 refine ⟨h1,qt _,λi H hi E e=>?_⟩;obtain ⟨k,hk,hc⟩:=A9s r t.mono i;obtain ⟨len,lds,zr,pr⟩:=t.end E e hk hc;have pD:Bt D (pv wd H):=t.prod.le (Int.le_of_lt (A1v E)) (Int.le_trans pr (A7x t.pos hk));have co:∀ {u:V},(∀ v∈H,Bt Y (u (ld wd v)))->∀ j,j < k->Bt Y (u j):=λ{u} h j hj=>by
  have:=h _ (getD_mem (H:=H) (i:=j) (len.symm ▸ hj))
  rwa [lds j hj] at this
 refine ⟨len.symm ▸ zq hk t.r8,pD,λu hu hc j hj=>?_,λg hg=>⟨λj hj=>(t.bt g (zx hg) j hj).up h2,λy h u hh hu hy hc j hj=>?_⟩⟩
 ·by_cases z:j < k
  ·exact (co hc j z).up (Nat.le_add_left _ _)
  ·rw[hu.zeros λv hv=>zr v hv j (Nat.le_of_not_lt z) hj];exact .zero
 ·by_cases z:j < k
  ·exact (co hc j z).up (Nat.le_add_left _ _)
  ·have:h j=0:=hh.zeros λv hv=>zr v hv j (Nat.le_of_not_lt z) hj;rw[hu j hj,this,Int.add_zero];exact (hy.mul ((t.bt g (zx hg) j hj).up h2)).up (by lia)
end
def ext (wd:Nat) (a b:V):V:=λj=>if j < wd then a j else b (j - wd)
theorem U6 {a b:V} (h:j < wd):ext wd a b j=a j:=qr h
theorem A7m {a b:V}:ext wd a b (wd+j)=b j:=by unfold ext;rw[qs (by lia)];congr 1;lia
def turn (q wd:Nat) (T:List V) (B:Nat->V):List V:=(List.range q).map λi=>ext wd (λj=>(T.getD j C1) i) (B i)
section
variable {q wd r b D:Nat} {T H:List V} {B:Nat->V}
theorem A4e {i:Nat} (h:i < q):(turn q wd T B)[i]?=some (ext wd (λj=>(T.getD j C1) i) (B i)):=by unfold turn;rw[qp,List.getElem?_range h];rfl
theorem A0h:(turn q wd T B).length=q:=by unfold turn;simp
theorem A0l {i:Nat} (h:(turn q wd T B)[i]?=some v):i < q/\v=ext wd (λj=>(T.getD j C1) i) (B i):=by
 have hi:=(ql.mp h).1;rw[A0h] at hi;rw[A4e hi] at h;exact ⟨hi,(zu h).symm⟩
theorem C0x {i:Nat} (h:i < q) (hj:j < wd):((turn q wd T B).getD i C1) j=(T.getD j C1) i:=by
 rw[getD_eq_getElem?_getD,A4e h,Option.getD_some];exact U6 hj
theorem U3 {T:List V} (h:T.length<=j):T.getD j C1=C1:=by rw[getD_eq_getElem?_getD,List.getElem?_eq_none h];rfl
theorem B1d {q:Nat}:∀ {T:List V},pv q T=D3 T.length λj=>(T.getD j C1) (ld q (T.getD j C1))
 | []=>rfl
 | v::T=>by
  show v _*pv q T=v _*D3 T.length _;rw[B1d];rfl
theorem B12 (E:Ec q T) (h8:T.length<=8) (hw:T.length<=wd) (hp:Bt D (pv q T)) (hb:∀ u∈T,∀ j,j < q->Bt b (u j)):B9g wd (turn q wd T B) T.length (λj=>ld q (T.getD j C1)) b D where
 r8:=h8
 rw:=hw
 mono:=λi j h1 h2=>by
  exact A4b E (i:=i) (j:=j) (getD_some (Nat.lt_trans h1 h2)) (getD_some h2) h1
 cl:=λj hj=>by rw[A0h];exact (E.pos _ (getD_mem hj)).1
 nz:=λi v hv j hj z=>by
  obtain ⟨hi,rfl⟩:=A0l hv;rw[U6 hj] at z;by_cases hl:j < T.length
  ·exact ⟨hl,Classical.byContradiction λy=>z (N7 (wd:=q) (Nat.lt_of_not_le y))⟩
  ·rw[U3 (Nat.le_of_not_lt hl)] at z;exact absurd rfl z
 pos:=λj hj=>by
  have:=E.pos _ (getD_mem hj);rw[C0x this.1 (qv hj hw)];exact this.2
 bt:=λv hv j hj=>by
  obtain ⟨i,hi⟩:=List.getElem?_of_mem hv;obtain ⟨h1,rfl⟩:=A0l hi;rw[U6 hj];by_cases hl:j < T.length
  ·exact hb _ (getD_mem hl) _ h1
  ·rw[U3 (Nat.le_of_not_lt hl)];exact .zero
 prod:=by
  rw[B1d] at hp;rw[G8 λj hj=>C0x (E.pos _ (getD_mem hj)).1 (qv hj hw)];exact hp
structure Sq (q r D:Nat) (T:List V):Prop where
 ec:Ec q T
 td:Td q T
 len:T.length=r
 r8:r<=8
 lds:∀ j,j < r->ld q (T.getD j C1)=j
 zr:∀ u∈T,∀ j,r<=j->j < q->u j=0
 pD:Bt D (pv q T)
theorem Sq.rq (S:Sq q r D T):r<=q:=by rw[<-S.len];exact B15 S.ec
theorem Sq.pos (S:Sq q r D T) (h:j < r):0 < (T.getD j C1) j:=by
 have:=(S.ec.pos _ (getD_mem (by rw[S.len];exact h))).2
 rwa [S.lds j h] at this
theorem Sq.piv (S:Sq q r D T) (h:j < r):Bt D ((T.getD j C1) j):=by
 have:=A3g S.ec S.pD (getD_mem (show j < T.length by rw[S.len];exact h))
 rwa [S.lds j h] at this
theorem Sq.low (S:Sq q r D T) {i:Nat} (hj:j < r) (h:i < j):(T.getD j C1) i=0:=N7 (wd:=q) (by rw[S.lds j hj];exact h)
theorem Sq.up (S:Sq q r D T) {i:Nat} (hi:i < r) (h:j < i):0<=(T.getD j C1) i/\(T.getD j C1) i < (T.getD i C1) i:=by
 have hl:=S.len;have:=List.pairwise_iff_getElem.mp S.td j i (hl.symm ▸ Nat.lt_trans h hi) (hl.symm ▸ hi) h;have e:∀ k (hk:k < T.length),T[k]=T.getD k C1:=λk hk=>by rw[getD_eq_getElem?_getD,zd hk];rfl
 rw[e,e,S.lds i hi] at this;exact this
theorem Sq.far (S:Sq q r D T) {i:Nat} (hj:j < r) (h:r<=i) (hq:i < q):(T.getD j C1) i=0:=S.zr _ (getD_mem (by rw[S.len];exact hj)) i h hq
theorem Sq.bt (S:Sq q r D T) (hu:u∈T):∀ j,j < q->Bt D (u j):=λj hj=>by
 by_cases h:j < r
 ·have:=C9l S.ec S.td S.pD hu (getD_mem (i:=j) (by rw[S.len];exact h))
  rwa [S.lds j h] at this
 ·rw[S.zr u hu j (Nat.le_of_not_lt h) hj];exact .zero
theorem Sq.trap (S:Sq q r D T) (hw:r<=wd):B9g wd (turn q wd T B) r (λj=>ld q (T.getD j C1)) D D:=by
 have:=B12 (B:=B) S.ec (by rw[S.len];exact S.r8) (by rw[S.len];exact hw) S.pD λu hu=>S.bt hu
 rwa [S.len] at this
theorem B09 {c:Nat->Nat} {N:List V} (t:B9g wd N r c b D) {E:Nat} {Z:List V} (S:SI wd w N X E KK N.length H Z):Sq wd r D H:=by
 have e:=S.eqv;obtain ⟨h1,h2,h3,h4⟩:=t.end S.ec e (qt r) λj hj=>⟨λ_=>hj,λ_=>t.cl j hj⟩;exact ⟨S.ec,S.td,h1,t.r8,h2,h3,t.prod.le (Int.le_of_lt (A1v S.ec)) h4⟩
structure Ms (r:Nat) (T:List V) (s l:Nat):Prop where
 sr:s<=r
 al:∀ i,i < s->∀ j,j < r->j≠i->(T.getD i C1) j=0
 nx:s < r->Bt l ((T.getD s C1) s)
theorem C91 {d:Int} (h:Sp A u) (hd:∀ a,A a->d ∣ a j):d ∣ u j:=by
 induction h with
 | zero z=>rw[z];exact Int.dvd_zero _
 | lin x a _ e ih=>rw[e];exact Int.dvd_add (Int.dvd_mul_of_dvd_right (hd _ a)) ih
theorem is0 {p:Int} (hp:0 < p):(1*0+-1*0:Int).natAbs < p.natAbs:=by lia
theorem is1 {p:Int} (hp:0 < p) (x:Int):(1*x+-1*x:Int).natAbs < p.natAbs:=by lia
theorem is2 {p x:Int} (h:0<=x/\x < p):(1*0+-1*x:Int).natAbs < p.natAbs:=by lia
variable {a:Int} {l n:Nat} {f:Nat->Int}
theorem is3 {b:Int} (h:1*a+-1*b=0):b=a:=by lia
theorem Sq.is (S:Sq q r D H) {i:Nat} (hi:i < r) (hv:∃ u,Sp (Ls H) u/\∀ j,j < q->v j=u j) (h1:v i=(H.getD i C1) i) (h0:∀ j,j < r->j≠i->v j=0):∀ j,j < r->(H.getD i C1) j=v j:=by
 obtain ⟨u,su,eu⟩:=hv;have hrq:=S.rq;have z:=S.ec.null (su.comb 1 (-1) (Sp.mem (getD_mem (H:=H) (i:=i) (by rw[S.len];exact hi))) (w:=λj=>1*u j+-1*(H.getD i C1) j) λ_=>rfl) λw hw=>by
  obtain ⟨k,hk,rfl⟩:=mem_iff_getElem.mp hw;have hkr:k < r:=by rw[<-S.len];exact hk
  have ek:H[k]=H.getD k C1:=by rw[getD_eq_getElem?_getD,zd hk];rfl
  rw[ek,S.lds k hkr];have hp:=S.pos hkr;show (1*u k+-1*(H.getD i C1) k).natAbs < _;rw[<-eu k (qv hkr hrq)];rcases Nat.lt_trichotomy k i with g|g|g
  ·rw[h0 k hkr (ze g),S.low hi g];exact is0 hp
  ·subst g;rw[h1];exact is1 hp _
  ·rw[h0 k hkr (Nat.ne_of_gt g)];exact is2 (S.up hkr g)
 intro j hj;rw[eu j (qv hj hrq)];exact is3 (z j)
theorem E31 {k:Int} (a:0 < k) (b:k≠1):2<=k:=by lia
theorem E2n {x:Int} (hx:0 < x) (h:x*2<=y) (b:y.natAbs < 1):False:=by lia
theorem E0m {x:Int} {B:Nat} (hx:0 < x) (h:x*2<=y) (b:y.natAbs < 2*B):x.natAbs < B:=by lia
theorem C6z {x:Int} (hx:0 < x) (hy:0 < y) (d:x ∣ y) (ne:x≠y) (b:Bt l y):1<=l/\Bt (l - 1) x:=by
 have h2:x*2<=y:=by
  obtain ⟨k,rfl⟩:=d;exact Int.mul_le_mul_of_nonneg_left (E31 (Int.pos_of_mul_pos_right hy hx) λz=>ne (by rw[z,Int.mul_one])) (Int.le_of_lt hx)
 unfold Bt at *;cases l with
 | zero=>exact (E2n hx h2 b).elim
 | succ l=>exact ⟨Nat.le_add_left 1 l,E0m hx h2 (Nat.lt_of_lt_of_eq b Nat.pow_succ')⟩
theorem B2n {i:Nat} (hi:i < q):ext wd (λj=>(T.getD j C1) i) (B i)∈turn q wd T B:=zx (A4e hi)
theorem D1o (S:Sq q r D T) (hrw:r<=wd) {i:Nat} (hi:i < r) (hal:∀ k,k < i->∀ j,j < r->j≠k->(T.getD k C1) j=0):∀ j,j < r->j≠i->ext wd (λj=>(T.getD j C1) i) (B i) j=0:=λj hj hji=>by
 rw[U6 (qv hj hrw)];rcases Nat.lt_trichotomy j i with g|g|g
 ·exact hal j g i hi (Nat.ne_of_gt g)
 ·exact absurd g hji
 ·exact S.low hj g
theorem C97 (S':Sq wd r D H) (hrq:r<=q) (e:Eqv wd H (turn q wd T B)) {i:Nat} (hi:i < r) (hH:∀ k,k < i->∀ j,j < r->j≠k->(H.getD k C1) j=0):(H.getD i C1) i ∣ (T.getD i C1) i:=by
 have hiw:=qv hi S'.rq;obtain ⟨u,su,eu⟩:=e.fw _ (B2n (qv hi hrq));have h1:(T.getD i C1) i=u i:=by rw[<-eu i hiw,U6 hiw]
 rw[h1];refine C91 su λa ha=>?_;obtain ⟨k,hk,rfl⟩:=mem_iff_getElem.mp ha;have hkr:k < r:=by rw[<-S'.len];exact hk
 have ek:H[k]=H.getD k C1:=by rw[getD_eq_getElem?_getD,zd hk];rfl
 rw[ek];rcases Nat.lt_trichotomy k i with g|g|g
 ·rw[hH k g i hi (Nat.ne_of_gt g)];exact Int.dvd_zero _
 ·subst g;exact Int.dvd_refl _
 ·rw[S'.low hkr g];exact Int.dvd_zero _
theorem D30 (S:Sq q r D T) (S':Sq wd r D H) (e:Eqv wd H (turn q wd T B)) (hk:k < r) (hal:∀ j,j < r->j≠k->(T.getD k C1) j=0):(T.getD k C1) k ∣ (H.getD k C1) k:=by
 have hkw:=qv hk S'.rq;obtain ⟨u,su,eu⟩:=e.bw _ (getD_mem (H:=H) (i:=k) (by rw[S'.len];exact hk));rw[eu k hkw];refine C91 su λa ha=>?_;obtain ⟨z,hz⟩:=List.getElem?_of_mem ha;obtain ⟨hz1,rfl⟩:=A0l hz;rw[U6 hkw];by_cases hzk:z=k
 ·subst hzk;exact Int.dvd_refl _
 ·rcases Nat.lt_or_ge z r with hzr|hzr
  ·rw[hal z hzr hzk];exact Int.dvd_zero _
  ·rw[S.far hk hzr hz1];exact Int.dvd_zero _
theorem C9c (S:Sq q r D T) (S':Sq wd r D H) (e:Eqv wd H (turn q wd T B)) (hk:k < r) (hal:∀ z,z < k->∀ j,j < r->j≠z->(T.getD z C1) j=0) (eq:(T.getD k C1) k=(H.getD k C1) k):∀ j,j < r->j≠k->(H.getD k C1) j=0:=by
 have hr:=D1o (B:=B) S S'.rq hk hal;have:=S'.is hk (e.fw _ (B2n (qv hk S.rq))) (by rw[U6 (qv hk S'.rq)];exact eq) hr;intro j hj hjk;rw[this j hj];exact hr j hj hjk
theorem C6v (S:Sq q r D T) (S':Sq wd r D H) (e:Eqv wd H (turn q wd T B)) {s:Nat} (hs:s<=r) (al:∀ i,i < s->∀ j,j < r->j≠i->(T.getD i C1) j=0):∀ i,i<=s->∀ k,k < i->∀ j,j < r->j≠k->(H.getD k C1) j=0:=λi=>by
 induction i with
 | zero=>intro _ k hk;exact absurd hk (Nat.not_lt_zero k)
 | succ i ih =>
  intro hi k hk;have ih:=ih (Nat.le_of_succ_le hi);rcases Nat.lt_or_eq_of_le (Nat.le_of_lt_succ hk) with hki|hk
  ·exact ih k hki
  ·subst hk;have hkr:=qv hi hs;have d1:=C97 S' S.rq e hkr ih;have d2:=D30 S S' e hkr (al k hi);exact C9c S S' e hkr (λz hz=>al z (Nat.lt_trans hz hi)) (Int.le_antisymm (Int.le_of_dvd (S'.pos hkr) d2) (Int.le_of_dvd (S.pos hkr) d1))
theorem Ms.next {s:Nat} (M:Ms r T s l) (S:Sq q r D T) (S':Sq wd r D H) (e:Eqv wd H (turn q wd T B)):(s=r/\Ms r H r l)\/(s < r/\1<=l/\Ms r H s (l - 1))\/(s < r/\Ms r H (s+1) D):=by
 have k1:=C6v S S' e M.sr M.al s (qt s);rcases Nat.lt_or_eq_of_le M.sr with hsr|hs
 ·have d:=C97 S' S.rq e hsr k1;by_cases eq:(H.getD s C1) s=(T.getD s C1) s
  ·refine .inr (.inr ⟨hsr,hsr,λi hi=>?_,λz=>S'.piv z⟩);rcases Nat.lt_or_eq_of_le (Nat.le_of_lt_succ hi) with his|his
   ·exact k1 i his
   ·subst his;exact C9c S S' e hsr M.al eq.symm
  ·have b:=C6z (S'.pos hsr) (S.pos hsr) d eq (M.nx hsr);exact .inr (.inl ⟨hsr,b.1,M.sr,k1,λ_=>b.2⟩)
 ·subst hs;exact .inl ⟨rfl,qt _,k1,λz=>absurd z (Nat.lt_irrefl _)⟩
theorem Sp.coefN {f:Nat->V} (h:∀ a,A a->∃ i,i < n/\∀ j,a j=f i j) (hu:Sp A u):∃ c:Nat->Int,∀ j,u j=S n λi=>c i*f i j:=by
 induction hu with
 | zero z=>exact ⟨λ_=>0,λj=>by rw[z,Y3 λi _=>Int.zero_mul _]⟩
 | @lin u v w x hu _ e ih =>
  obtain ⟨c,hc⟩:=ih;obtain ⟨i,hi,ei⟩:=h u hu;refine ⟨λk=>(if k=i then x else 0)+c k,λj=>?_⟩;have e1:(S n λk=>((if k=i then x else 0)+c k)*f k j)=(S n λk=>(if k=i then x else 0)*f k j)+S n λk=>c k*f k j:=by
   rw[<-B01];exact S_congr λk _=>Int.add_mul _ _ _
  have e2:(S n λk=>(if k=i then x else 0)*f k j)=x*f i j:=by
   rw[A0o i hi λk _ hk=>by rw[qs hk,Int.zero_mul],qr rfl]
  rw[e1,e2,e,hc,ei]
theorem D02:∀ (n:Nat) (f g:Nat->Int),(∀ i,i < n->((f i).natAbs:Int)<=g i)->((S n f).natAbs:Int)<=S n g
 | 0,_,_,_=>Int.le_refl 0
 | n+1,f,g,h=>by
  exact Int.le_trans (Int.ofNat_le.mpr (Int.natAbs_add_le (S n f) (f n))) (Int.add_le_add (D02 n f g λi hi=>h i (Nat.lt_succ_of_lt hi)) (h n (Nat.lt_succ_self n)))
theorem C2l (hp:p < n):S n f=f p+S n λi=>if i=p then 0 else f i:=by
 have e1:S n f=S n λi=>(if i=p then f p else 0)+(if i=p then 0 else f i):=S_congr λi _=>by
  by_cases h:i=p
  ·subst h;rw[qr rfl,qr rfl];lia
  ·rw[qs h,qs h];lia
 rw[e1,B01,A0o p hp λk _ hk=>qs hk,qr rfl]
theorem D84:∀ (n:Nat) (f:Nat->Int),(∀ i,0<=f i)->0<=S n f
 | 0,_,_=>Int.le_refl 0
 | n+1,f,h=>Int.add_nonneg (D84 n f h) (h n)
theorem E22 (hp:p < n) (h:∀ i,0<=f i):f p<=S n f:=by
 rw[C2l hp];exact Int.le_add_of_nonneg_right (D84 n _ λi=>by split;exact Int.le_refl 0;exact h i)
theorem B3x {r:Nat} {F:Nat->Int} (hp:p < r):(S r λi=>if p<=i then F i else 0)=F p+S r λi=>if p+1<=i then F i else 0:=by
 rw[C2l hp,qr (qt p)];congr 1;exact S_congr λi _=>by
  by_cases h:i=p
  ·rw[qr h,qs (h ▸ Nat.not_succ_le_self _)]
  ·rw[qs h];by_cases g:p+1<=i
   ·rw[qr (Nat.le_of_succ_le g),qr g]
   ·rw[qs λz=>g (Nat.lt_of_le_of_ne z (Ne.symm h)),qs g]
theorem C2i {u b g:Int} {B:Nat} (e:u=a+b) (hb:(b.natAbs:Int)<=g) (hu:u.natAbs < B) (hg:g<=(Q:Int) - (B:Int)):(a.natAbs:Int)+g<=((Q*2:Nat):Int) - (B:Int):=by omega
theorem C2a {x B R:Nat} (h:(x:Int)<=(Q:Int) - (B:Int)) (hB:0 < B) (hQ:Q<=R):x < R:=by lia
theorem C23 {x:Int} (h:0<=x/\x < y):x.natAbs<=y.natAbs:=by lia
theorem Sq.back (S:Sq q r D T) {c:Nat->Int} (hu:∀ j,j < r->u j=MDet.S r λi=>c i*(T.getD j C1) i) (hb:∀ j,j < r->Bt D (u j)):∀ i,i < r->Bt (D+8) (c i):=by
 have main:∀ t p,p+t=r->(MDet.S r λi=>if p<=i then ((c i*(T.getD i C1) i).natAbs:Int) else 0)<=((2 ^ (D+t):Nat):Int) - ((2 ^ D:Nat):Int):=by
  intro t
  induction t with
  | zero =>
   intro p hp;have hp:p=r:=hp;rw[Y3 λi hi=>qs (Nat.not_le_of_lt (hp.symm ▸ hi))];exact Int.le_of_eq (Int.sub_self _).symm
  | succ t ih =>
   intro p ep;have hp:p < r:=ep ▸ Nat.lt_add_of_pos_right (Nat.succ_pos t);have ih:=ih (p+1) (by rw[Nat.succ_add];exact ep);have e2:=hu p hp;rw[C2l hp] at e2;rw[B3x hp,<-Nat.add_assoc,Nat.pow_succ];refine C2i e2 (D02 r _ _ λi hi=>?_) (hb p hp) ih;by_cases h:i=p
   ·rw[qr h];split
    ·exact Int.natCast_nonneg _
    ·exact Int.le_refl 0
   ·rw[qs h];by_cases g:p+1<=i
    ·rw[qr g];refine Int.ofNat_le.mpr ?_;rw[Int.natAbs_mul,Int.natAbs_mul];exact Nat.mul_le_mul_left _ (C23 (S.up hi g))
    ·rw[qs g,S.low hp (Nat.lt_of_le_of_ne (Nat.le_of_not_lt g) h),Int.mul_zero];exact Int.le_refl 0
 intro i hi;have g:=E22 (f:=λk=>if 0<=k then ((c k*(T.getD k C1) k).natAbs:Int) else 0) hi λk=>by rw[qr (jb k)];exact Int.natCast_nonneg _
 rw[qr (jb i)] at g;have h4:=C2a (Int.le_trans g (main r 0 (Nat.zero_add r))) (Nat.two_pow_pos D) (Nat.pow_le_pow_right (show 0 < 2 by decide) (zh S.r8 D));rw[Int.natAbs_mul] at h4;exact qu (Nat.le_mul_of_pos_right _ (Int.natAbs_pos.mpr (Int.ne_of_gt (S.pos hi)))) h4
theorem B35 (S:Sq q r D T) (hr:r<=k) (hq:k < q) (hj:j < wd):ext wd (λj=>(T.getD j C1) k) (B k) j=0:=by
 rw[U6 hj];by_cases hl:j < r
 ·exact S.far hl hr hq
 ·rw[U3 (by rw[S.len];exact Nat.le_of_not_lt hl)]
theorem E1d {q r f h z:Nat} (a:q - r<=f) (b:f<=z) (l:h+z=q) (hr:h=r):z=f:=by lia
theorem D8w {D:Nat}:e<=e+D+11/\D+8+e+3<=e+D+11:=by lia
theorem B85 {E:Nat} {Z:List V} (S:Sq q r D T) (hw:r<=wd) (I:SI wd w (turn q wd T B) X E KK (turn q wd T B).length H Z) (hE:∀ v∈turn q wd T B,∀ j,j < w->Bt e (v j)):∀ u∈Z++H,∀ j,j < w->Bt (e+D+11) (u j):=by
 have S':=B09 (S.trap (B:=B) hw) I;have hrq:=S.rq;intro u hu j hj;sleep 28
 ·have hz:((turn q wd T B).take (turn q wd T B).length).filter (λr=>decide (ld wd r=wd))=(turn q wd T B).filter λr=>decide (ld wd r=wd):=by rw[List.take_length]
  have h1:=I.zs;rw[hz] at h1;have h2:q - r<=((turn q wd T B).filter λr=>decide (ld wd r=wd)).length:=by
   have e:turn q wd T B=(turn q wd T B).take r++(turn q wd T B).drop r:=(List.take_append_drop r _).symm;rw[e,List.filter_append,length_append,List.filter_eq_self (l:=(turn q wd T B).drop r) |>.mpr λv hv=>?_]
   ·rw[length_drop,A0h];exact Nat.le_add_left _ _
   ·obtain ⟨k,hk⟩:=List.getElem?_of_mem hv;rw[List.getElem?_drop] at hk;obtain ⟨h3,rfl⟩:=A0l hk;rw[zw];exact C19 λj hj=>B35 S (Nat.le_add_right _ _) h3 hj
  have h3:=I.len;rw[S'.len,A0h] at h3;exact (hE u (h1.2 (E1d h2 h1.1 h3 rfl) u hu) j hj).up D8w.1
 ·obtain ⟨c,hc⟩:=(I.bH u hu).coefN (n:=r) (f:=λi=>ext wd (λj=>(T.getD j C1) i) (B i)) λa ha=>by
   obtain ⟨h1,j,hj,h2⟩:=ha;obtain ⟨k,hk⟩:=List.getElem?_of_mem (List.mem_of_mem_take h1);obtain ⟨h3,rfl⟩:=A0l hk;exact ⟨k,Classical.byContradiction λhkr=>h2 (B35 S (Nat.le_of_not_lt hkr) h3 hj),λ_=>rfl⟩
  have cb:=S.back (c:=c) (u:=u) (λj hj=>by
   rw[hc j];exact S_congr λi _=>by rw[U6 (qv hj hw)]) λj hj=>S'.bt hu j (qv hj hw)
  rw[hc j];exact (Bt.sum S.r8 λi hi=>(cb i hi).mul (hE _ (zx (A4e (qv hi hrq))) j hj)).up D8w.2
end
structure Rel (n m:Nat) (G M L R:Mat):Prop where
 eq:∀ i j,i < n->j < m->M i j=S n λa=>L i a*S m λb=>G a b*R j b
theorem C99 (a b:Int):a+b=a+1*b:=by lia
theorem D8l (x p q y:Int):(x*p+q)*y=x*(p*y)+q*y:=by grind
def Gen (n:Nat) (L:Mat):Prop:=∀ v:V,∃ u,Sp (λr=>∃ i,i < n/\r=L i) u/\∀ j,j < n->v j=u j
theorem Gen.id {n:Nat} (h:∀ i j,i < n->j < n->L i j=idm i j):Gen n L:=λv=>by
 refine ⟨λj=>S n λi=>v i*L i j,Sp.sum λi hi=>.mem ⟨i,hi,rfl⟩,λj hj=>?_⟩;show v j=S n λi=>v i*L i j;rw[A0o j hj λk hk hkj=>by rw[h k j hk hj];unfold idm;rw[qs hkj,Int.mul_zero],h j j hj hj];unfold idm;rw[qr rfl,Int.mul_one]
theorem Gen.of {n:Nat} (g:Gen n L) (h:∀ i,i < n->∃ u,Sp (λr=>∃ i,i < n/\r=L' i) u/\∀ j,j < n->L i j=u j):Gen n L':=λv=>by
 obtain ⟨u,su,eu⟩:=g v;have:∃ w,Sp (λr=>∃ i,i < n/\r=L' i) w/\∀ j,j < n->u j=w j:=by
  clear eu
  induction su with
  | zero z=>exact ⟨C1,.zero λ_=>rfl,λj _=>z j⟩
  | @lin a b w x ha _ e ih =>
   obtain ⟨i,hi,rfl⟩:=ha;obtain ⟨p,p1,p2⟩:=h i hi;obtain ⟨q,q1,q2⟩:=ih;exact ⟨λj=>x*p j+1*q j,p1.comb x 1 q1 λ_=>rfl,λj hj=>by rw[e,p2 j hj,q2 j hj];exact C99 _ _⟩
 obtain ⟨w,sw,ew⟩:=this;exact ⟨w,sw,λj hj=>by rw[eu j hj,ew j hj]⟩
theorem Rel.tr {n:Nat} {G R:Mat} (h:Rel n m G M L R):Rel m n (λi j=>G j i) (λi j=>M j i) R L:=⟨λi j hi hj=>by
 rw[h.eq j i hj hi];have e1:(S n λa=>L j a*S m λb=>G a b*R i b)=S n λa=>S m λb=>L j a*(G a b*R i b):=S_congr λa _=>by rw[<-A1h]
 have e2:(S m λa=>R i a*S n λb=>G b a*L j b)=S m λa=>S n λb=>R i a*(G b a*L j b):=S_congr λa _=>by rw[<-A1h]
 rw[e1,e2,B4w];exact S_congr λa _=>S_congr λb _=>by grind⟩
theorem C6d {n:Nat} {G R:Mat} (h:Rel n m G M L R) (hO:Oi.length=n) (hs:∀ u∈Oi,Sp (Ls ((List.range n).map λi=>ext m (M i) (L i))) u)
  (e:∀ i,i < n->∀ j,j < m+n->(Oi.getD i C1) j=ext m (M' i) (L' i) j):Rel n m G M' L' R:=⟨λi j hi hj=>by
 have key:∀ u:V,Sp (Ls ((List.range n).map λi=>ext m (M i) (L i))) u->u j=S n λa=>u (m+a)*S m λb=>G a b*R j b:=λu hu=>by
  induction hu with
  | zero z=>rw[z,Y3 λa _=>by rw[z,Int.zero_mul]]
  | @lin a b w x ha _ e ih =>
   obtain ⟨k,hk,rfl⟩:=zg.mp ha;have hk:=mem_range.mp hk;rw[e,ih,U6 hj,h.eq k j hk hj,<-A5o];exact S_congr λa _=>by rw[e,A7m];exact (D8l _ _ _ _).symm
 have h1:=key _ (hs _ (getD_mem (H:=Oi) (i:=i) (hO.symm ▸ hi)));rw[e i hi j (Nat.lt_add_right n hj),U6 hj] at h1;rw[h1];exact S_congr λa ha=>by rw[e i hi (m+a) (Nat.add_lt_add_left ha m),A7m]⟩
theorem C8h {n:Nat} (g:Gen n L) (hO:Oi.length=n) (hs:∀ i,i < n->Sp (Ls Oi) (ext m (M i) (L i))) (e:∀ i,i < n->∀ j,j < m+n->(Oi.getD i C1) j=ext m (M' i) (L' i) j):Gen n L' :=
 g.of λi hi=>by
  have key:∀ u:V,Sp (Ls Oi) u->∃ w,Sp (λr=>∃ i,i < n/\r=L' i) w/\∀ j,j < n->u (m+j)=w j:=λu hu=>by
   induction hu with
   | zero z=>exact ⟨C1,.zero λ_=>rfl,λj _=>z _⟩
   | @lin a b w x ha _ e' ih =>
    obtain ⟨k,hk,rfl⟩:=mem_iff_getElem.mp ha;obtain ⟨q,q1,q2⟩:=ih;have hk':k < n:=hO ▸ hk;have ek:Oi[k]=Oi.getD k C1:=by rw[getD_eq_getElem?_getD,zd hk];rfl
    exact ⟨λj=>x*L' k j+1*q j,(Sp.mem ⟨k,hk',rfl⟩).comb x 1 q1 λ_=>rfl,λj hj=>by
     rw[e',ek,e k hk' _ (Nat.add_lt_add_left hj m),A7m,q2 j hj];exact C99 _ _⟩
  obtain ⟨w,w1,w2⟩:=key _ (hs i hi);exact ⟨w,w1,λj hj=>by rw[<-w2 j hj,A7m]⟩
def X1 (D b:Nat):Nat:=3*D+2*b+20
def K1 (D b:Nat):Nat:=2*D+9*X1 D b+40
def K2 (D b:Nat):Nat:=2*X1 D b+9*(D+X1 D b+2+X1 D b)+40
def K3 (D:Nat):Nat:=2*D+9*(D+D+2+D)+40
def E1 (D b:Nat):Nat:=X1 D b+128*K2 D b+128*K1 D b
def EF (D b:Nat):Nat:=E1 D b+9*(D+1)*(D+11)
structure Ph (n m r D b:Nat) (G M L R:Mat) (T:List V) (s l:Nat):Prop where
 rel:Rel n m G M L R
 gl:Gen n L
 gr:Gen m R
 sq:Sq n r D T
 rm:r<=m
 cell:∀ i j,i < n->j < m->M i j=(T.getD j C1) i
 ms:Ms r T s l
 lD:l<=D
 bl:∀ i j,i < n->j < n->Bt (E1 D b+(9*(D+1) - ((r - s)*(D+1)+l))*(D+11)) (L i j)
 br:∀ i j,i < m->j < m->Bt (E1 D b+(9*(D+1) - ((r - s)*(D+1)+l))*(D+11)) (R i j)
def M9 (n m:Nat) (M L:Mat):List V:=(List.range n).map λi=>ext m (M i) (L i)
theorem A9p {n i:Nat} (h:i < n):(M9 n m M L)[i]?=some (ext m (M i) (L i)):=by unfold M9;rw[qp,List.getElem?_range h];rfl
theorem A28 {n:Nat} :(M9 n m M L).length=n:=by unfold M9;simp
theorem A9f {n:Nat} (h:v∈M9 n m M L):∃ i,i < n/\v=ext m (M i) (L i):=by
 obtain ⟨i,hi,rfl⟩:=zg.mp h;exact ⟨i,mem_range.mp hi,rfl⟩
theorem B3a {n:Nat} (hw:w=m+n) (h1:∀ i j,i < n->j < m->Bt e (M i j)) (h2:∀ i j,i < n->j < n->Bt e (L i j)):∀ v∈M9 n m M L,∀ j,j < w->Bt e (v j):=λv hv j hj=>by
 obtain ⟨i,hi,rfl⟩:=A9f hv;unfold ext;split
 ·exact h1 i j hi (by assumption)
 ·exact h2 i _ hi (by lia)
theorem A0v {n:Nat} (h:∀ i j,i < n->j < m->M i j=(T.getD j C1) i):M9 n m M L=turn n m T L:=by
 unfold M9 turn;refine map_congr_left λi hi=>?_;funext j;unfold ext;split
 ·exact h i j (mem_range.mp hi) (by assumption)
 ·rfl
structure Out (n m:Nat) (H Z:List V) (M' L':Mat):Prop where
 len:(H++Z).length=n
 eq:∀ i,i < n->∀ j,j < m+n->((H++Z).getD i C1) j=ext m (M' i) (L' i) j
section
variable {n m X E KK:Nat} {G M L R M' L':Mat} {H Z T:List V}
theorem B24 (I:SI m (m+n) (M9 n m M L) X E KK n H Z) (Oi:Out n m H Z M' L') (h:Rel n m G M L R) (g:Gen n L):Rel n m G M' L' R/\Gen n L':=by
 have ht:(M9 n m M L).take n=M9 n m M L:=List.take_of_length_le (by rw[A28];exact qt n);refine ⟨C6d h Oi.len (λu hu=>?_) Oi.eq,C8h (M:=M) g Oi.len (λi hi=>?_) Oi.eq⟩
 ·have:=I.bw u (by rcases zm.mp hu with z|z;exact qz _ z;exact za _ z);rw[ht] at this;exact this
 ·have:=I.fw (ext m (M i) (L i)) (by rw[ht];exact zx (A9p hi));exact this.mono λu hu=>by rcases zm.mp hu with z|z;exact qz _ z;exact za _ z
theorem A7w (I:SI m (m+n) (M9 n m M L) X E KK n H Z) (Oi:Out n m H Z M' L') {i:Nat} (hi:i < n) (hj:j < m):M' i j=(H.getD i C1) j:=by
 have e:=Oi.eq i hi j (Nat.lt_add_right n hj);rw[U6 hj] at e;rw[<-e];by_cases h:i < H.length
 ·rw[getD_eq_getElem?_getD,List.getElem?_append_left h,<-getD_eq_getElem?_getD]
 ·rw[getD_eq_getElem?_getD,List.getElem?_append_right (by lia),<-getD_eq_getElem?_getD,U3 (T:=H) (by lia)];exact I.zr _ (getD_mem (by have:=Oi.len;rw[length_append] at this;lia)) j hj
theorem B46 (Oi:Out n m H Z M' L') (h:∀ u∈Z++H,∀ j,j < m+n->Bt e (u j)) {i:Nat} (hi:i < n) (hj:j < n):Bt e (L' i j):=by
 have e1:=Oi.eq i hi (m+j) (Nat.add_lt_add_left hj m);rw[A7m] at e1;rw[<-e1];have:=getD_mem (H:=H++Z) (i:=i) (by rw[Oi.len];exact hi);exact h _ (by rcases zm.mp this with z|z;exact qz _ z;exact za _ z) _ (Nat.add_lt_add_left hj m)
variable {l:Nat}
theorem Ph.reg {D b s:Nat} (P:Ph n m r D b G M L R T s l):Reg m (M9 n m M L) D (D+D+2+D) (D+D+2) D:=by
 rw[A0v P.cell];exact B39 (P.sq.trap P.rm) (qt D) (qt D)
theorem mu1 {x:Nat} (h:1<=l):x+(l - 1)+1<=x+l:=by lia
theorem mu0 {a D:Nat} (h:a<=8) (hl:l<=D):a*(D+1)+l<=9*(D+1):=by
 have:=Nat.mul_le_mul_right (D+1) h;lia
theorem D82 {E a a' N D:Nat} (h:a'+1<=a) (h0:a<=N):E+(N - a)*(D+11)+D+11<=E+(N - a')*(D+11)/\E+(N - a)*(D+11)<=E+(N - a')*(D+11):=by
 have:=Nat.mul_le_mul_right (D+11) (show N - a+1<=N - a' by lia);rw[Nat.add_mul,Nat.one_mul] at this;lia
theorem D67 {D b:Nat}:D<=E1 D b:=by unfold E1 X1;lia
theorem Ph.half {D b s:Nat} (P:Ph n m r D b G M L R T s l) (hD:1<=D) (h1:s < r\/1<=l) (I:SI m (m+n) (M9 n m M L) X E KK n H Z) (Oi:Out n m H Z M' L') :
  ∃ s' l',Ph m n r D b (λi j=>G j i) (λi j=>M' j i) R L' H s' l'/\(r - s')*(D+1)+l'+1<=(r - s)*(D+1)+l/\(s' < r\/1<=l'\/s=r):=by
 have et:=A0v (L:=L) P.cell;have I':=I;rw[et] at I';have len:(turn n m T L).length=n:=A0h;have I'':SI m (m+n) (turn n m T L) X E KK (turn n m T L).length H Z:=by rw[len];exact I'
 have S':=B09 (P.sq.trap (B:=L) P.rm) I'';obtain ⟨r1,g1⟩:=B24 I Oi P.rel P.gl;have hrn:=P.sq.rq;obtain ⟨s',l',M2,hl',hμ,hd⟩:∃ s' l',Ms r H s' l'/\l'<=D/\(r - s')*(D+1)+l'+1<=(r - s)*(D+1)+l/\(s' < r\/1<=l'\/s=r):=by
  have e:Eqv m H (turn n m T L):=by
   have:=I''.eqv
   rwa [List.take_length] at this
  have hlD:=zq (Nat.sub_le l 1) P.lD;rcases P.ms.next P.sq S' e with ⟨rfl,h⟩|⟨hs,hl,h⟩|⟨hs,h⟩
  ·exact ⟨s,l - 1,⟨h.sr,h.al,λz=>absurd z (Nat.lt_irrefl _)⟩,hlD,mu1 (h1.resolve_left (Nat.lt_irrefl _)),.inr (.inr rfl)⟩
  ·exact ⟨s,l - 1,h,hlD,mu1 hl,.inl hs⟩
  ·refine ⟨s+1,D,h,qt _,?_,.inr (.inl hD)⟩;rw[B7o hs,Nat.add_mul,Nat.one_mul];exact Nat.le_add_right _ l
 obtain ⟨up,up'⟩:=@D82 (E1 D b) _ _ _ D hμ (mu0 (zq (Nat.sub_le r s) P.sq.r8) P.lD);refine ⟨s',l',⟨r1.tr,P.gr,g1,S',hrn,λi j hi hj=>A7w I Oi hj hi,M2,hl',λi j hi hj=>(P.br i j hi hj).up up',λi j hi hj=>?_⟩,hμ,hd⟩;have hB:∀ v∈turn n m T L,∀ j,j < m+n->Bt (E1 D b+(9*(D+1) - ((r - s)*(D+1)+l))*(D+11)) (v j):=by
  rw[<-et];refine B3a rfl (λi j hi hj=>?_) P.bl;rw[P.cell i j hi hj];by_cases z:j < r
  ·have hd:=P.sq.bt (getD_mem (i:=j) (by rw[P.sq.len];exact z)) i hi;exact hd.up (zq D67 (Nat.le_add_right _ _))
  ·rw[U3 (by rw[P.sq.len];exact Nat.le_of_not_lt z)];exact .zero
 exact (B46 Oi (B85 P.sq P.rm I'' hB) hi hj).up up
theorem B9d {D b:Nat} (hm:m<=8) (b1:1<=b) (hb:∀ i j,i < n->j < m->Bt b (G i j)) (hk:m<=k\/n<=k) (hk1:1<=k) (hk8:k<=8) (hD:(b+3)*k+1<=D):Reg m (M9 n m G L) D (3*D+2*b+20) (2*D+2) D :=
 C6q hm b1 (λv hv j hj=>by
  obtain ⟨i,hi,rfl⟩:=A9f hv;rw[U6 hj];exact hb i j hi hj) (by rw[A28];exact hk) hk1 hk8 hD
structure Fi (n m D b:Nat) (G M L R:Mat) (H:List V):Prop where
 rel:Rel n m G M L R
 gl:Gen n L
 gr:Gen m R
 ec:Ec m H
 len:H.length<=8/\H.length<=n
 pD:Bt D (pv m H)
 bX:∀ u∈H,∀ j,j < m->Bt (X1 D b) (u j)
 cell:∀ i j,i < n->j < m->M i j=(H.getD i C1) j
 bl:∀ i j,i < n->j < n->Bt (E1 D b) (L i j)
 br:∀ i j,i < m->j < m->Bt 1 (R i j)
theorem B4m {D b:Nat} (hn:n<=8) (Rg:Reg m (M9 n m G L) D (3*D+2*b+20) (2*D+2) D) (rel:Rel n m G G L R) (gl:Gen n L) (gr:Gen m R) (hR:∀ i j,i < m->j < m->Bt 1 (R i j))
  (I:SI m (m+n) (M9 n m G L) (X1 D b) (X1 D b) (16*K1 D b) n H Z) (Oi:Out n m H Z M' L'):Fi n m D b G M' L' R H:=by
 obtain ⟨r1,g1⟩:=B24 I Oi rel gl;have rg:=Rg.reg n H (by rw[A28];exact qt n) I.ec (by have:=I.eqv;exact this);refine ⟨r1,g1,gr,I.ec,⟨rg.len,by have:=I.len;lia⟩,rg.prod,I.bX,λi j hi hj=>A7w I Oi hi hj,λi j hi hj=>(B46 Oi I.bE hi hj).up ?_,hR⟩;have:=Nat.mul_le_mul_right (16*K1 D b) hn;unfold E1;lia
theorem Fi.reg {D b:Nat} (F:Fi n m D b G M L R H):Reg n (M9 m n (λj i=>M i j) R) (X1 D b) (D+X1 D b+2+X1 D b) (D+X1 D b+2) D:=by
 rw[A0v (T:=H) λi j hi hj=>F.cell j i hj hi];exact B39 (B12 F.ec F.len.1 F.len.2 F.pD F.bX) (by unfold X1;lia) (qt _)
theorem Fi.half {D b:Nat} (hm:m<=8) (F:Fi n m D b G M L R H) {T:List V} (I:SI n (n+m) (M9 m n (λj i=>M i j) R) (D+X1 D b+2+X1 D b) (X1 D b) (16*K2 D b) m T Z) {R':Mat} (Oi:Out m n T Z M' R') :
  Ph n m H.length D b G (λi j=>M' j i) L R' T 0 D:=by
 have et:=A0v (L:=R) (T:=H) (M:=λj i=>M i j) (n:=m) (m:=n) λi j hi hj=>F.cell j i hj hi;have I':=I;rw[et] at I';have I'':SI n (n+m) (turn m n H R) (D+X1 D b+2+X1 D b) (X1 D b) (16*K2 D b) (turn m n H R).length T Z:=by rw[A0h];exact I'
 have S':=B09 (B12 (B:=R) F.ec F.len.1 F.len.2 F.pD F.bX) I'';obtain ⟨r1,g1⟩:=B24 I Oi F.rel.tr F.gr;have hp:∀ i j,i < m->j < m->Bt (E1 D b) (R' i j):=λi j hi hj=>(B46 Oi I.bE hi hj).up (by
  have:=Nat.mul_le_mul_right (16*K2 D b) hm;unfold E1;lia)
 exact ⟨r1.tr,F.gl,g1,S',B15 F.ec,λi j hi hj=>A7w I Oi hj hi,⟨jb _,λi hi=>absurd hi (Nat.not_lt_zero i),λz=>S'.piv z⟩,qt D,λi j hi hj=>(F.bl i j hi hj).up (Nat.le_add_right _ _),λi j hi hj=>(hp i j hi hj).up (Nat.le_add_right _ _)⟩
theorem Ph.diag {D b s:Nat} (P:Ph n m r D b G M L R T s l) (h:s=r) {i:Nat} (hi:i < n) (hj:j < m) (hij:i≠j):M i j=0:=by
 subst h;rw[P.cell i j hi hj];by_cases z:j < s
 ·by_cases y:i < s
  ·exact P.ms.al j z i y hij
  ·exact P.sq.far z (by lia) hi
 ·rw[U3 (by rw[P.sq.len];lia)]
end
structure Ch (n m r D:Nat) (G M L R:Mat) (d:Nat->Int) (e:Nat):Prop where
 rel:Rel n m G M L R
 gl:Gen n L
 gr:Gen m R
 rn:r<=n
 rm:r<=m
 cell:∀ i j,i < n->j < m->M i j=if i=j/\i < r then d i else 0
 pos:∀ i,i < r->0 < d i
 pD:Bt D (D3 r d)
 bl:∀ i j,i < n->j < n->Bt e (L i j)
 br:∀ i j,i < m->j < m->Bt e (R i j)
def bil (n m:Nat) (G:Mat) (u v:V):Int:=S n λa=>u a*S m λb=>G a b*v b
theorem A9e {n:Nat} {G:Mat} (x y:Int) (u v w:V):bil n m G (λa=>x*u a+y*v a) w=x*bil n m G u w+y*bil n m G v w:=by
 unfold bil;rw[<-A1h,<-A1h,<-B01];exact S_congr λa _=>by rw[Int.add_mul,Int.mul_assoc,Int.mul_assoc]
theorem A30 {n:Nat} {G:Mat} (x y:Int) (u v w:V):bil n m G w (λa=>x*u a+y*v a)=x*bil n m G w u+y*bil n m G w v:=by
 unfold bil;rw[<-A1h,<-A1h,<-B01];refine S_congr λa _=>?_;have:(S m λb=>G a b*(x*u b+y*v b))=x*(S m λb=>G a b*u b)+y*S m λb=>G a b*v b:=by
  rw[<-A1h,<-A1h,<-B01];exact S_congr λb _=>by grind
 rw[this];grind
theorem A4s:∀ {r:Nat} {f:Nat->Int} {i:Nat} (x:Int),i < r->D3 r (λk=>if k=i then x else f k)*f i=D3 r f*x
 | r+1,f,0,x,_=>by
  rw[D3,D3,qr rfl,G8 (g:=λi=>f (i+1)) λk _=>qs (by lia)]
  grind
 | r+1,f,i+1,x,h=>by
  have:=@A4s r (λk=>f (k+1)) i x (by lia);rw[D3,D3,qs (by lia),G8 (g:=λk=>if k=i then x else f (k+1)) λk _=>by
   by_cases e:k=i
   ·subst e;rw[qr rfl,qr rfl]
   ·rw[qs (by lia),qs e]]
  have this:D3 r (λk=>if k=i then x else f (k+1))*f (i+1)=D3 r (λk=>f (k+1))*x:=this
  grind
theorem A4r:∀ {r:Nat} {f:Nat->Int} {i:Nat},i < r->f i ∣ D3 r f
 | r+1,f,0,_=>Int.dvd_mul_right _ _
 | r+1,f,i+1,h=>Int.dvd_mul_of_dvd_right (A4r (f:=λk=>f (k+1)) (by lia))
def two (i j:Nat) (x y:V) (f:Mat):Mat:=λk=>if k=i then x else if k=j then y else f k
section
variable {n m r D e i j:Nat} {G M L R:Mat} {d:Nat->Int}
theorem Ch.dD (C:Ch n m r D G M L R d e) (h:i < r):Bt D (d i):=C.pD.le (Int.le_of_lt (C.pos i h)) (Int.le_of_dvd (A5e C.pos) (A4r h))
variable {a:Int} {f:Mat}
theorem B75 (g:Gen n L) (hi:i < n) (hj:j < n) (hij:i≠j) {x1 y1 x2 y2:Int} {b c k:Int} (h1:a*x1+b*x2=1) (h2:a*y1+b*y2=0) (h3:c*x1+k*x2=0) (h4:c*y1+k*y2=1) :
  Gen n (two i j (λq=>x1*L i q+y1*L j q) (λq=>x2*L i q+y2*L j q) L):=g.of λp hp=>by
 have mi:Sp (λr=>∃ p,p < n/\r=two i j (λq=>x1*L i q+y1*L j q) (λq=>x2*L i q+y2*L j q) L p) (λq=>x1*L i q+y1*L j q):=.mem ⟨i,hi,by unfold two;rw[qr rfl]⟩;have mj:Sp (λr=>∃ p,p < n/\r=two i j (λq=>x1*L i q+y1*L j q) (λq=>x2*L i q+y2*L j q) L p) (λq=>x2*L i q+y2*L j q):=.mem ⟨j,hj,by unfold two;rw[qs hij.symm,qr rfl]⟩;by_cases e1:p=i
 ·subst e1;exact ⟨_,mi.comb a b mj (w:=L p) λq=>by
   have:L p q=(a*x1+b*x2)*L p q+(a*y1+b*y2)*L j q:=by rw[h1,h2];lia
   rw[this];grind,λ_ _=>rfl⟩
 ·by_cases e2:p=j
  ·subst e2;exact ⟨_,mi.comb c k mj (w:=L p) λq=>by
    have:L p q=(c*x1+k*x2)*L i q+(c*y1+k*y2)*L p q:=by rw[h3,h4];lia
    rw[this];grind,λ_ _=>rfl⟩
  ·exact ⟨L p,.mem ⟨p,hp,by unfold two;rw[qs e1,qs e2]⟩,λ_ _=>rfl⟩
theorem two_i {x y:V} :two i j x y f i=x:=qr rfl
theorem two_j {x y:V} (h:j≠i):two i j x y f j=y:=by unfold two;rw[qs h,qr rfl]
theorem two_o {x y:V} (h:p≠i) (h2:p≠j):two i j x y f p=f p:=by unfold two;rw[qs h,qs h2]
theorem Ch.off (C:Ch n m r D G M L R d e) (hp:p < n) (hq:q < m) (h:p≠q):bil n m G (L p) (R q)=0:=((C.rel.eq p q hp hq).symm.trans (C.cell p q hp hq)).trans (qs λz=>h z.1)
theorem Ch.dg (C:Ch n m r D G M L R d e) (hp:p < r):bil n m G (L p) (R p)=d p:=by
 have h1:=qv hp C.rn;have h2:=qv hp C.rm;exact ((C.rel.eq p p h1 h2).symm.trans (C.cell p p h1 h2)).trans (qr ⟨rfl,hp⟩)
theorem pr1 {g x:Int} (h:g=s*x+t*y):g=s*(1*x+1*0)+t*(1*0+1*y):=by rw[h];grind
theorem pr2 (g s t a b:Int):0=s*(-t*b*(g*a)+s*a*0)+t*(-t*b*0+s*a*(g*b)):=by grind
theorem pr3 {b:Int} (g:Int) (h:s*a+t*b=1):a*(g*b)=-b*(-t*b*(g*a)+s*a*0)+a*(-t*b*0+s*a*(g*b)):=by
 have:a*(g*b)=a*(g*b)*(s*a+t*b):=by rw[h,Int.mul_one]
 rw[this];grind
theorem pr4 (g a b:Int):0=-b*(1*(g*a)+1*0)+a*(1*0+1*(g*b)):=by grind
theorem pr5 {b:Int} (h:s*a+t*b=1):a*s+-t*-b=1/\a*t+-t*a=0/\b*s+s*-b=0/\b*t+s*a=1:=by
 refine ⟨?_,?_,?_,?_⟩
 ·rw[<-h];grind
 ·grind
 ·grind
 ·rw[<-h];grind
theorem pr6 {b:Int} (h:s*a+t*b=1):s*a*1+-1*(-t*b)=1/\s*a*1+-1*(s*a)=0/\t*b*1+1*(-t*b)=0/\t*b*1+1*(s*a)=1:=by
 refine ⟨?_,?_,?_,?_⟩
 ·rw[<-h];grind
 ·grind
 ·grind
 ·rw[<-h];grind
theorem pr8 {P Q g x:Int} (h1:Q*(g*a)=P*g):Q*(a*y)*(g*a)=P*(y*(g*a)):=by
 have:Q*(a*y)*(g*a)=Q*(g*a)*(a*y):=by grind
 rw[this,h1];grind
theorem D4a {g b:Int} (hij:i≠j) (hin:i < n) (hjn:j < n) (him:i < m) (hjm:j < m) (hM:∀ p q,p < n->q < m->M' p q=if p=i/\q=i then g else if p=j/\q=j then a*(g*b) else bil n m G (L p) (R q))
  (off:∀ p q,p < n->q < m->p≠q->bil n m G (L p) (R q)=0) (di:bil n m G (L i) (R i)=g*a) (dj:bil n m G (L j) (R j)=g*b) (eq:g=s*(g*a)+t*(g*b)) (d1:s*a+t*b=1) (hp:p < n) (hq:q < m) :
  M' p q=bil n m G (two i j (λq=>s*L i q+t*L j q) (λq=>-b*L i q+a*L j q) L p) (two i j (λq=>1*R i q+1*R j q) (λq=>-t*b*R i q+s*a*R j q) R q):=by
 have oij:=off i j hin hjm hij;have oji:=off j i hjn him hij.symm;rw[hM p q hp hq];by_cases p1:p=i
 ·rw[p1,two_i];by_cases q1:q=i
  ·rw[q1,qr ⟨rfl,rfl⟩,two_i,A9e,A30,A30,di,oij,oji,dj];exact pr1 eq
  ·rw[qs λz=>q1 z.2,qs λz=>hij z.1];by_cases q2:q=j
   ·rw[q2,two_j hij.symm,A9e,A30,A30,di,oij,oji,dj];exact pr2 g s t a b
   ·rw[two_o q1 q2,A9e,off i q hin hq (Ne.symm q1),off j q hjn hq (Ne.symm q2),Int.mul_zero,Int.mul_zero];rfl
 ·rw[qs λz=>p1 z.1];by_cases p2:p=j
  ·rw[p2,two_j hij.symm];by_cases q2:q=j
   ·rw[q2,qr ⟨rfl,rfl⟩,two_j hij.symm,A9e,A30,A30,di,oij,oji,dj];exact pr3 g d1
   ·rw[qs λz=>q2 z.2];by_cases q1:q=i
    ·rw[q1,two_i,A9e,A30,A30,di,oij,oji,dj];exact pr4 g a b
    ·rw[two_o q1 q2,A9e,off i q hin hq (Ne.symm q1),off j q hjn hq (Ne.symm q2),Int.mul_zero,Int.mul_zero];rfl
  ·rw[two_o p1 p2,qs λz=>p2 z.1];by_cases q1:q=i
   ·rw[q1,two_i,A30,off p i hp him p1,off p j hp hjm p2];rfl
   ·by_cases q2:q=j
    ·rw[q2,two_j hij.symm,A30,off p i hp him p1,off p j hp hjm p2,Int.mul_zero,Int.mul_zero];rfl
    ·rw[two_o q1 q2]
theorem C7x {M:Mat} {g k:Int} (hij:i≠j) (hi:i < r) (hj:j < r) (hM:M' p q=if p=i/\q=i then g else if p=j/\q=j then k else M p q) (hc:M p q=if p=q/\p < r then d p else 0) :
  M' p q=if p=q/\p < r then (if p=i then g else if p=j then k else d p) else 0:=by
 rw[hM,hc];by_cases e:p=q
 ·subst e;by_cases p1:p=i
  ·rw[qr ⟨p1,p1⟩,p1,qr rfl,qr ⟨rfl,hi⟩]
  ·rw[qs λz=>p1 z.1,qs p1];by_cases p2:p=j
   ·rw[qr ⟨p2,p2⟩,p2,qr rfl,qr ⟨rfl,hj⟩]
   ·rw[qs λz=>p2 z.1,qs p2]
 ·rw[qs λz=>e (z.1.trans z.2.symm),qs λz=>e (z.1.trans z.2.symm),qs λz=>e z.1,qs λz=>e z.1]
theorem C6r {g y:Int} (hij:i≠j) (hi:i < r) (hj:j < r) (pi:0 < d i) (pj:0 < d j) (ei:d i=g*a):D3 r (λk=>if k=i then g else if k=j then a*d j else d k)=D3 r d:=by
 have h1:=A4s (r:=r) (f:=d) (i:=i) g hi;have h2:=A4s (r:=r) (f:=λk=>if k=i then g else d k) (i:=j) (a*d j) hj;rw[qs hij.symm] at h2;have e1:D3 r (λk=>if k=i then g else if k=j then a*d j else d k)=D3 r λk=>if k=j then a*d j else if k=i then g else d k:=G8 λk _=>by
  by_cases z:k=i
  ·rw[qr z,z,qs hij,qr rfl]
  ·rw[qs z,qs z]
 rw[e1];refine Int.eq_of_mul_eq_mul_right (Int.ne_of_gt (Int.mul_pos pj pi)) ?_;rw[<-Int.mul_assoc,h2,ei];rw[ei] at h1;exact pr8 (x:=0) h1
theorem C46 {D:Nat} {x y:V} (h1:Bt D (x q)) (h2:Bt D (y q)) (h3:Bt D (f p q)):Bt D (two i j x y f p q):=by
 unfold two;split
 ·exact h1
 ·split
  ·exact h2
  ·exact h3
theorem B18 {D e f:Nat} {x:Int} (hs:Bt k s) (ht:Bt D t) (hx:Bt e x) (hy:Bt e y) (h1:k+e < f) (h2:D+e < f):Bt f (s*x+t*y):=(hs.mul hx).add (ht.mul hy) h1 h2
theorem E1w (D e:Nat):D+1+e < e+2*D+6/\D+2+e < e+2*D+6/\D+e < e+2*D+6/\1+e < e+2*D+6/\D+2+D+e < e+2*D+6/\D+1+D+e < e+2*D+6/\e<=e+2*D+6:=by lia
theorem Ch.pair (C:Ch n m r D G M L R d e) (hij:i < j) (hj:j < r) {g:Int} (S:Shr (d i) (d j) g s t) (hM:∀ p q,p < n->q < m->M' p q=if p=i/\q=i then g else if p=j/\q=j then d i / g*d j else M p q) :
  Ch n m r D G M' (two i j (λq=>s*L i q+t*L j q) (λq=>-(d j / g)*L i q+d i / g*L j q) L) (two i j (λq=>1*R i q+1*R j q) (λq=>-t*(d j / g)*R i q+s*(d i / g)*R j q) R)
   (λk=>if k=i then g else if k=j then d i / g*d j else d k) (e+2*D+6):=by
 have hi:=Nat.lt_trans hij hj;have hin:=qv hi C.rn;have him:=qv hi C.rm;have hjn:=qv hj C.rn;have hjm:=qv hj C.rm;have hij:=ze hij;have pi:=C.pos i hi;have pj:=C.pos j hj;have bi:=C.dD hi;have bj:=C.dD hj;have s1:Bt (D+1) s:=D7q (a:=0) bj S.s1;have t1:Bt (D+2) t:=D3q bi bj S.t1;have ba:=bi.quo S.g0 S.da;have bb:=bj.quo S.g0 S.db;have hd:=C.dg hi;have hd2:=C.dg hj;have geq:=S.eq;obtain ⟨a',ea⟩:=S.da;obtain ⟨b',eb⟩:=S.db;have qa:d i / g=a':=by rw[ea];exact Int.mul_ediv_cancel_left _ (Int.ne_of_gt S.g0)
 have qb:d j / g=b':=by rw[eb];exact Int.mul_ediv_cancel_left _ (Int.ne_of_gt S.g0)
 rw[qa] at ba hM ⊢;rw[qb] at bb ⊢;rw[ea] at hd;rw[eb] at hd2;rw[ea,eb] at geq;have d1:=pr7 S.g0 geq;have a1:0 < a':=pr9 S.g0 (by rw[<-ea];exact pi);obtain ⟨l1,l2,l3,l4⟩:=pr5 d1;obtain ⟨r1,r2,r3,r4⟩:=pr6 d1;obtain ⟨w1,w2,w3,w4,w5,w6,w7⟩:=E1w D e;have one:Bt 1 1:=by show (1:Int).natAbs < 2 ^ 1;decide
 exact ⟨⟨λp q hp hq=>D4a hij hin hjn him hjm (λp q hp hq=>by rw[hM p q hp hq,eb,C.rel.eq p q hp hq];rfl) (λ_ _=>C.off) hd hd2 geq d1 hp hq⟩,
  B75 C.gl hin hjn hij l1 l2 l3 l4,B75 C.gr him hjm hij r1 r2 r3 r4,C.rn,C.rm,λp q hp hq=>C7x hij hi hj (hM p q hp hq) (C.cell p q hp hq),λk hk=>by
   show 0 < if k=i then g else if k=j then a'*d j else d k
   split
   ·exact S.g0
   ·split
    ·exact Int.mul_pos a1 pj
    ·exact C.pos k hk,(C6r (y:=0) hij hi hj pi pj ea).symm ▸ C.pD,
  λp q hp hq=>C46 (B18 s1 t1 (C.bl i q hin hq) (C.bl j q hjn hq) w1 w2) (B18 bb.neg ba (C.bl i q hin hq) (C.bl j q hjn hq) w3 w3) ((C.bl p q hp hq).up w7),
  λp q hp hq=>C46 (B18 one one (C.br i q him hq) (C.br j q hjm hq) w4 w4) (B18 (t1.neg.mul bb) (s1.mul ba) (C.br i q him hq) (C.br j q hjm hq) w5 w6) ((C.br p q hp hq).up w7)⟩
def CI (r i j:Nat) (d:Nat->Int):Prop:=∀ p q,p < q->q < r->(p < i\/(p=i/\q < j))->d p ∣ d q
theorem CI.one (h:CI r i j d) (hd:d i ∣ d j):CI r i (j+1) d:=λp q h1 h2 h3=>by
 by_cases e:p=i/\q=j
 ·obtain ⟨rfl,rfl⟩:=e;exact hd
 ·exact h p q h1 h2 (by lia)
theorem E0g {j:Nat} (h:p < p\/(p=p/\q < j+1)) (e:¬ q=j):q < j:=by lia
theorem E0k {i j:Nat} (h:p < i\/(p=i/\q < j+1)) (e:¬ p=i):p < i:=by lia
theorem CI.pair (h:CI r i j d) (hij:i < j) (hj:j < r) {g:Int} (S:Shr (d i) (d j) g s t):CI r i (j+1) (λk=>if k=i then g else if k=j then d i / g*d j else d k):=λp q h1 h2 h3=>by
 show (if p=i then g else if p=j then d i / g*d j else d p) ∣ if q=i then g else if q=j then d i / g*d j else d q
 have lj:∀ x:Int,x ∣ d j->x ∣ d i / g*d j:=λx hx=>Int.dvd_mul_of_dvd_right hx;by_cases p1:p=i
 ·subst p1;rw[qr rfl,qs (Nat.ne_of_gt h1)];split
  ·exact lj _ S.db
  ·rename_i z;exact Int.dvd_trans S.da (h p q h1 h2 (.inr ⟨rfl,E0g h3 z⟩))
 ·have pi:=E0k h3 p1;rw[qs p1,qs (ze (Nat.lt_trans pi hij))];split
  ·rename_i e;subst e;have:=S.eq;rw[this];exact Int.dvd_add (Int.dvd_mul_of_dvd_right (h p q h1 h2 (.inl pi))) (Int.dvd_mul_of_dvd_right (h p j (Nat.lt_trans pi hij) hj (.inl pi)))
  ·split
   ·rename_i e;subst e;exact lj _ (h p q h1 h2 (.inl pi))
   ·exact h p q h1 h2 (.inl pi)
theorem CI.next (h:CI r i r d):CI r (i+1) (i+2) d:=λp q h1 h2 h3=>h p q h1 h2 (by lia)
end
structure Sm (n m:Nat) (G L C R:Mat):Prop where
 rel:Rel n m G C L R
 gl:Gen n L
 gr:Gen m R
 off:∀ i j,i < n->j < m->i≠j->C i j=0
 nn:∀ i,i < n->i < m->0<=C i i
 ch:∀ i,i+1 < n->i+1 < m->C i i ∣ C (i+1) (i+1)
theorem Ch.sm {n D:Nat} {G R:Mat} (C:Ch n m r D G M L R d e) (h:CI r r r d):Sm n m G L M R where
 rel:=C.rel
 gl:=C.gl
 gr:=C.gr
 off:=λi j hi hj hij=>by rw[C.cell i j hi hj,qs (by lia)]
 nn:=λi hi hj=>by
  rw[C.cell i i hi hj];split
  ·rename_i z;exact Int.le_of_lt (C.pos i z.2)
  ·exact Int.le_refl 0
 ch:=λi hi hj=>by
  rw[C.cell (i+1) (i+1) hi hj,C.cell i i (by lia) (by lia)];by_cases z:i+1 < r
  ·rw[qr ⟨rfl,by lia⟩,qr ⟨rfl,z⟩];exact h i (i+1) (by lia) z (.inl (by lia))
  ·rw[qs (c:=i+1=i+1/\i+1 < r) (λy=>z y.2)];exact Int.dvd_zero _
theorem Ph.ch {n D b s l:Nat} {G R:Mat} (P:Ph n m r D b G M L R T s l) (h:∀ i j,i < n->j < m->i≠j->M i j=0):Ch n m r D G M L R (λi=>(T.getD i C1) i) (EF D b) where
 rel:=P.rel
 gl:=P.gl
 gr:=P.gr
 rn:=P.sq.rq
 rm:=P.rm
 cell:=λi j hi hj=>by
  by_cases e:i=j
  ·subst e;rw[P.cell i i hi hj];split
   ·rfl
   ·rw[U3 (by rw[P.sq.len];omega)]
  ·rw[h i j hi hj e,qs (λz=>e z.1)]
 pos:=λi hi=>P.sq.pos hi
 pD:=by
  have:=P.sq.pD;rw[B1d,P.sq.len] at this
  rwa [G8 (g:=λi=>(T.getD i C1) i) λi hi=>by rw[P.sq.lds i hi]] at this
 bl:=λi j hi hj=>(P.bl i j hi hj).up (by
  unfold EF;have:=Nat.mul_le_mul_right (D+11) (show 9*(D+1) - ((r - s)*(D+1)+l)<=9*(D+1) by omega)
  omega)
 br:=λi j hi hj=>(P.br i j hi hj).up (by
  unfold EF;have:=Nat.mul_le_mul_right (D+11) (show 9*(D+1) - ((r - s)*(D+1)+l)<=9*(D+1) by omega)
  omega)
def Mn (n m k:Nat) (J:Int->Prop) (M:Mat):Prop:=∀ O γ:Nat->Nat,(∀ i,i < k->O i < n)->(∀ i,i < k->γ i < m)->J (det k λi j=>M (O i) (γ j))
structure Idl (J:Int->Prop):Prop where
 z:J 0
 l:∀ x a b:Int,J a->J b->J (x*a+b)
theorem Mn.tr {n:Nat} (h:Mn n m k J M):Mn m n k J λi j=>M j i:=λO γ h1 h2=>by
 have:=h γ O h2 h1
 rwa [<-A3c] at this
theorem Mn.rows {n:Nat} (hJ:Idl J) (h:Mn n m k J M) (hs:∀ i,i < n'->∃ u,Sp (λr=>∃ i,i < n/\r=M i) u/\∀ j,j < m->M' i j=u j):Mn n' m k J M':=λO γ h1 h2=>by
 have:∀ i,∃ u:V,i < k->Sp (λr=>∃ i,i < n/\r=M i) u/\∀ j,j < m->M' (O i) j=u j:=λi=>by
  by_cases hi:i < k
  ·obtain ⟨u,hu⟩:=hs _ (h1 i hi);exact ⟨u,λ_=>hu⟩
  ·exact ⟨C1,λz=>absurd z hi⟩
 obtain ⟨a,ha⟩:=Classical.axiomOfChoice this;rw[det_congr (b:=λi j=>a i (γ j)) λi j hi hj=>(ha i hi).2 _ (h2 j hj)];refine C3e hJ.z hJ.l γ (λb hb=>?_) a λi hi=>(ha i hi).1;have:∀ i,∃ p:Nat,i < k->p < n/\b i=M p:=λi=>by
  by_cases hi:i < k
  ·obtain ⟨p,hp⟩:=hb i hi;exact ⟨p,λ_=>hp⟩
  ·exact ⟨0,λz=>absurd z hi⟩
 obtain ⟨p,hp⟩:=Classical.axiomOfChoice this;rw[det_congr (b:=λi j=>M (p i) (γ j)) λi j hi hj=>by rw[(hp i hi).2]];exact h p γ (λi hi=>(hp i hi).1) h2
section
variable {n m k:Nat} {G L C R:Mat} {J:Int->Prop}
theorem Rel.fw (h:Rel n m G C L R) (hJ:Idl J) (g:Mn n m k J G):Mn n m k J C:=by
 have A:Mn m n k J λj a=>S m λb=>R j b*G a b:=by
  refine (Mn.tr g).rows hJ λj hj=>⟨_,Sp.sum (c:=λb=>R j b) (f:=λb a=>G a b) (n:=m) λb hb=>.mem ⟨b,hb,rfl⟩,λ_ _=>rfl⟩
 refine (Mn.tr A).rows hJ λi hi=>⟨_,Sp.sum (c:=λa=>L i a) (f:=λa j=>S m λb=>R j b*G a b) (n:=n) λa ha=>.mem ⟨a,ha,rfl⟩,λj hj=>?_⟩;rw[h.eq i j hi hj];exact S_congr λa _=>by
  have:(S m λb=>G a b*R j b)=S m λb=>R j b*G a b:=S_congr λb _=>Int.mul_comm _ _;rw[this]
theorem Gen.un (g:Gen n L) {A:Mat} (i:Nat) (hi:i < n):∃ u,Sp (λr=>∃ p,p < n/\r=λj=>S n λa=>L p a*A a j) u/\∀ j,A i j=u j:=by
 obtain ⟨u,su,eu⟩:=g (eu i);have key:∀ u:V,Sp (λr=>∃ i,i < n/\r=L i) u->Sp (λr=>∃ p,p < n/\r=λj=>S n λa=>L p a*A a j) λj=>S n λa=>u a*A a j:=λu hu=>by
  induction hu with
  | zero z=>exact .zero λj=>Y3 λa _=>by rw[z,Int.zero_mul]
  | @lin a b w x ha _ e ih =>
   obtain ⟨p,hp,rfl⟩:=ha;exact .lin x ⟨p,hp,rfl⟩ ih λj=>by
    show (S n λa=>w a*A a j)=_;rw[<-A5o];exact S_congr λa _=>by rw[e];grind
 refine ⟨_,key u su,λj=>?_⟩;rw[A0o i hi λa ha hai=>by rw[<-eu a ha];unfold MDet.eu;rw[qs hai,Int.zero_mul],<-eu i hi];unfold MDet.eu;rw[qr rfl];lia
theorem Rel.bw (h:Rel n m G C L R) (gl:Gen n L) (gr:Gen m R) (hJ:Idl J) (g:Mn n m k J C):Mn n m k J G:=by
 have A:Mn n m k J λa j=>S m λb=>R j b*G a b:=by
  refine g.rows hJ λa ha=>?_;obtain ⟨u,su,eu⟩:=gl.un (A:=λa j=>S m λb=>R j b*G a b) a ha;have key:∀ u:V,Sp (λr=>∃ p,p < n/\r=λj=>S n λa=>L p a*S m λb=>R j b*G a b) u->∃ w,Sp (λr=>∃ i,i < n/\r=C i) w/\∀ j,j < m->u j=w j:=λu hu=>by
   induction hu with
   | zero z=>exact ⟨C1,.zero λ_=>rfl,λj _=>z j⟩
   | @lin a b w x ha _ e ih =>
    obtain ⟨p,hp,rfl⟩:=ha;obtain ⟨w',w1,w2⟩:=ih;refine ⟨λj=>x*C p j+w' j,.lin x ⟨p,hp,rfl⟩ w1 λ_=>rfl,λj hj=>?_⟩;have ec:=h.eq p j hp hj;have:(S n λa=>L p a*S m λb=>R j b*G a b)=S n λa=>L p a*S m λb=>G a b*R j b:=S_congr λa _=>by
     congr 1;exact S_congr λb _=>Int.mul_comm _ _
    rw[e,w2 j hj];show x*(S n λa=>L p a*S m λb=>R j b*G a b)+w' j=x*C p j+w' j;rw[this,ec]
  obtain ⟨w,w1,w2⟩:=key u su;exact ⟨w,w1,λj hj=>by rw[<-w2 j hj];exact eu j⟩
 have B:=(Mn.tr A);refine Mn.tr (M:=λj a=>G a j) (B.rows hJ λj hj=>?_);obtain ⟨u,su,eu⟩:=gr.un (A:=λb a=>G a b) j hj;exact ⟨u,su,λa _=>eu a⟩
end
theorem M7:∀ (k:Nat) (f:Nat->Int),D3 (k+1) f=D3 k f*f k
 | 0,f=>by show f 0*1=1*f 0;lia
 | k+1,f=>by
  show f 0*D3 (k+1) _=f 0*D3 k _*f (k+1);rw[M7 k λi=>f (i+1)];grind
def A5r (d:Nat->Int):List Nat->Int
 | []=>1
 | a::l=>d a*A5r d l
theorem A5h:∀ {l:List Nat} {a:Nat},a∈l->A5r d l=d a*A5r d (l.erase a)
 | b::l,a,h=>by
  by_cases e:b=a
  ·subst e;rw[List.erase_cons_head];rfl
  ·rw[List.erase_cons_tail (by simpa using e)];have h':a∈l:=by rcases zn.mp h with z|z;exact absurd z.symm e;exact z
   show d b*A5r d l=d a*(d b*A5r d (l.erase a));rw[A5h h'];grind
theorem A9a (h:∀ i,i+1 < N->d i ∣ d (i+1)):∀ {i j:Nat},i<=j->j < N->d i ∣ d j:=λ{i j} h1=>by
 induction j with
 | zero => intro _; have : i = 0 := by lia
           subst this;exact Int.dvd_refl _
 | succ j ih =>
  intro hj;by_cases e:i=j+1
  ·subst e;exact Int.dvd_refl _
  ·exact Int.dvd_trans (ih (by lia) (by lia)) (h j hj)
theorem A7o (h:∀ i,i+1 < N->d i ∣ d (i+1)):∀ (k:Nat) (l:List Nat),l.length=k->l.Nodup->(∀ a∈l,a < N)->D3 k d ∣ A5r d l
 | 0,[],_,_,_=>Int.dvd_refl _
 | k+1,l,hl,nd,hN=>by
  obtain ⟨a,ha,hk⟩:∃ a∈l,k<=a:=Classical.byContradiction λz=>by
   have:=List.Nodup.length_le_of_subset nd (λa ha=>mem_range.mpr (Classical.byContradiction λy=>z ⟨a,ha,by lia⟩):l ⊆ List.range k);rw[length_range] at this;lia
  rw[M7,A5h ha,Int.mul_comm (d a)];have h1:=A7o h k (l.erase a) (by rw[List.length_erase_of_mem ha];lia) (nd.erase a) λb hb=>hN b (List.mem_of_mem_erase hb);exact Int.mul_dvd_mul h1 (A9a h hk (hN a ha))
theorem A9w (O:Nat->Nat):∀ (k s:Nat),A5r d ((List.range' s k).map O)=D3 k λi=>d (O (s+i))
 | 0,_=>rfl
 | k+1,s=>by
  rw[List.range'_succ];show d (O s)*A5r d _=d (O (s+0))*D3 k _;rw[A9w O k (s+1),G8 (g:=λi=>d (O (s+(i+1)))) λi _=>by rw[show s+1+i=s+(i+1) by lia]];rfl
theorem C0i {x:Nat->Int} :det k (λi j=>x i*M i j)=D3 k x*det k M:=by
 have e:det k (λi j=>x i*M i j)=det k (A4g k (λi j=>if i=j then x i else 0) M):=det_congr λi j hi hj=>by
  unfold A4g;rw[A0o i hi λt _ ht=>by show (if i=t then x i else 0)*M t j=0;rw[qs (λz=>ht z.symm),Int.zero_mul]];show x i*M i j=(if i=i then x i else 0)*M i j;rw[qr rfl]
 rw[e,A6e,MDet.det_congr (b:=λi j=>if i=j then x i else 0) λ_ _ _ _=>rfl,B1v λi j h1 _=>qs (by lia)];congr 1;exact G8 λi _=>qr rfl
def Pk (C:Mat) (k:Nat):Int:=D3 k λi=>C i i
section
variable {n m k:Nat} {G L C R C' L' R':Mat}
theorem C57 {x k:Nat} (h:0<=x/\x < 0+k):x < k:=by lia
theorem Sm.minor (s:Sm n m G L C R) {O:Nat->Nat} (h1:∀ i,i < k->O i < n) (h2:∀ i,i < k->γ i < m):Pk C k ∣ det k λi j=>C (O i) (γ j):=by
 by_cases inj:∀ i j,i < k->j < k->i≠j->O i≠O j
 ·-- each row is a corner times noughts and ones
  have e:det k (λi j=>C (O i) (γ j))=det k λi j=>(if O i < m then C (O i) (O i) else 0)*(if O i=γ j then 1 else 0):=det_congr λi j hi hj=>by
   by_cases z:O i=γ j
   ·rw[qr z,qr (by rw[z];exact h2 j hj),z];exact (Int.mul_one _).symm
   ·rw[qs z,Int.mul_zero];exact s.off _ _ (h1 i hi) (h2 j hj) z
  rw[e,C0i];refine Int.dvd_mul_of_dvd_left ?_;by_cases all:∀ i,i < k->O i < m
  ·rw[G8 (g:=λi=>C (O i) (O i)) λi hi=>qr (all i hi)];have:=A7o (d:=λi=>C i i) (N:=min n m) (λi hi=>s.ch i (qv hi (Nat.min_le_left _ _)) (qv hi (Nat.min_le_right _ _))) k ((List.range' 0 k).map O) (by simp) (by
    rw[List.Nodup,List.pairwise_map];refine List.Pairwise.imp_of_mem (R:=λa b=>a < b) (λ{x y} hx hy hlt e=>?_) (List.pairwise_lt_range' ..);rw[List.mem_range'_1] at hx hy;exact inj x y (C57 hx) (C57 hy) (ze hlt) e) λa ha=>by
     obtain ⟨i,hi,rfl⟩:=zg.mp ha;rw[List.mem_range'_1] at hi;exact Nat.lt_min.mpr ⟨h1 i (C57 hi),all i (C57 hi)⟩
   rw[A9w] at this;have e2:D3 k (λi=>C (O (0+i)) (O (0+i)))=D3 k λi=>C (O i) (O i):=G8 λi _=>by rw[Nat.zero_add]
   rw[<-e2];exact this
  ·obtain ⟨i,hi⟩:=Classical.not_forall.mp all;have hik:i < k/\¬ O i < m:=by
    refine ⟨Classical.byContradiction λz=>hi λy=>absurd y z,λz=>hi λ_=>z⟩
   have:=A4r (r:=k) (f:=λi=>if O i < m then C (O i) (O i) else 0) hik.1;rw[qs hik.2] at this;rw[Int.zero_dvd.mp this];exact Int.dvd_zero _
 ·obtain ⟨i,j,hi,hj,hij,e⟩:∃ i j,i < k/\j < k/\i≠j/\O i=O j:=Classical.byContradiction λz=>inj λi j hi hj hij e=>z ⟨i,j,hi,hj,hij,e⟩;rw[A2f hi hj hij λc=>by show C (O i) (γ c)=C (O j) (γ c);rw[e]];exact Int.dvd_zero _
theorem Sm.lead (s:Sm n m G L C R) (hn:k<=n) (hm:k<=m):det k (λi j=>C i j)=Pk C k:=B1v λi j h1 h2=>s.off i j (qv h2 hn) (qv (Nat.lt_trans h1 h2) hm) (Nat.ne_of_gt h1)
theorem B7c (p:Int):Idl λx=>p ∣ x:=⟨Int.dvd_zero _,λx a b h1 h2=>Int.dvd_add (Int.dvd_mul_of_dvd_right h1) h2⟩
theorem Sm.dvd (s:Sm n m G L C R):Mn n m k (λx=>Pk C k ∣ x) G:=s.rel.bw s.gl s.gr (B7c _) λO γ h1 h2=>s.minor h1 h2
theorem Sm.of (s:Sm n m G L C R) (hn:k<=n) (hm:k<=m) {p:Int} (h:Mn n m k (λx=>p ∣ x) G):p ∣ Pk C k:=by
 have:=s.rel.fw (B7c p) h (λi=>i) (λi=>i) (λi hi=>qv hi hn) λi hi=>qv hi hm
 rwa [s.lead hn hm] at this
theorem Sm.pk_nn (s:Sm n m G L C R):∀ {k:Nat},k<=n->k<=m->0<=Pk C k
 | 0,_,_=>show (0:Int)<=1 by decide
 | k+1,hn,hm=>by
  unfold Pk;rw[M7];exact Int.mul_nonneg (s.pk_nn (k:=k) (zk hn) (zk hm)) (s.nn k hn hm)
theorem Sm.pk_eq (s:Sm n m G L C R) (s':Sm n m G L' C' R') (hn:k<=n) (hm:k<=m):Pk C k=Pk C' k :=
 Int.dvd_antisymm (s.pk_nn hn hm) (s'.pk_nn hn hm) (s'.of hn hm s.dvd) (s.of hn hm s'.dvd)
theorem A7q:∀ {k:Nat} {f:Nat->Int},D3 k f=0->∃ i,i < k/\f i=0
 | 0,_,h=>absurd h (show ¬ (1:Int)=0 by decide)
 | k+1,f,h=>by
  rcases Int.mul_eq_zero.mp h with h|h
  ·exact ⟨0,by lia,h⟩
  ·obtain ⟨i,h1,h2⟩:=A7q h;exact ⟨i+1,by lia,h2⟩
theorem Sm.zero (s:Sm n m G L C R) (hn:k < n) (hm:k < m) (h:Pk C k=0):C k k=0:=by
 obtain ⟨i,h1,h2⟩:=A7q h;have:=A9a (d:=λi=>C i i) (N:=min n m) (λi hi=>s.ch i (qv hi (Nat.min_le_left _ _)) (qv hi (Nat.min_le_right _ _))) (zk h1) (Nat.lt_min.mpr ⟨hn,hm⟩);have this:C i i ∣ C k k:=this;have h2:C i i=0:=h2;rw[h2] at this;exact Int.zero_dvd.mp this
theorem Sm.uniq (s:Sm n m G L C R) (s':Sm n m G L' C' R') {i:Nat} (hi:i < n) (hj:j < m):C i j=C' i j:=by
 by_cases e:i=j
 ·subst e;have h0:=s.pk_eq s' (k:=i) (zk hi) (zk hj);have h1:=s.pk_eq s' (k:=i+1) hi hj;unfold Pk at h1;rw[M7,M7] at h1;have h1:Pk C i*C i i=Pk C' i*C' i i:=h1;by_cases z:Pk C i=0
  ·rw[s.zero hi hj z,s'.zero hi hj (by rw[<-h0];exact z)]
  ·rw[<-h0] at h1;exact Int.eq_of_mul_eq_mul_left z h1
 ·rw[s.off i j hi hj e,s'.off i j hi hj e]
end
section
variable {n m D b:Nat} {G M N L R:Mat} {T H:List V}
theorem B3e (h:∀ i j,i < n->j < m->M i j=N i j):M9 n m M L=M9 n m N L:=by
 unfold M9;refine map_congr_left λi hi=>?_;funext j;unfold ext;split
 ·exact h i j (mem_range.mp hi) (by assumption)
 ·rfl
variable {l:Nat}
theorem Ph.congr {s:Nat} (P:Ph n m r D b G M L R T s l) (h:∀ i j,i < n->j < m->M i j=N i j):Ph n m r D b G N L R T s l :=
 ⟨⟨λi j hi hj=>by rw[<-h i j hi hj];exact P.rel.eq i j hi hj⟩,P.gl,P.gr,P.sq,P.rm,λi j hi hj=>by rw[<-h i j hi hj];exact P.cell i j hi hj,P.ms,P.lD,P.bl,P.br⟩
theorem Ph.cB {s:Nat} (P:Ph n m r D b G M L R T s l) {i:Nat} (hi:i < n) (hj:j < m):Bt D (M i j):=by
 rw[P.cell i j hi hj];by_cases z:j < r
 ·exact P.sq.bt (getD_mem (i:=j) (by rw[P.sq.len];exact z)) i hi
 ·rw[U3 (by rw[P.sq.len];lia)];exact .zero
theorem Fi.cB (F:Fi n m D b G M L R H) (i j:Nat) (hi:i < n) (hj:j < m):Bt (X1 D b) (M i j):=by
 rw[F.cell i j hi hj];by_cases z:i < H.length
 ·exact F.bX _ (getD_mem z) j hj
 ·rw[U3 (by lia)];exact .zero
theorem Sm.congr {C R2:Mat} (h:Sm n m G L C R) (e:∀ i j,i < m->j < m->R i j=R2 i j):Sm n m G L C R2 :=
 ⟨⟨λi j hi hj=>by
  rw[h.rel.eq i j hi hj];exact S_congr λa _=>by rw[S_congr λc hc=>by rw[e j c hj hc]]⟩,h.gl,h.gr.of λi hi=>⟨R2 i,.mem ⟨i,hi,rfl⟩,λj hj=>e i j hi hj⟩,h.off,h.nn,h.ch⟩
theorem Rel.start (hL:∀ i j,i < n->j < n->L i j=idm i j) (hR:∀ i j,i < m->j < m->R i j=idm i j):Rel n m G G L R:=⟨λi j hi hj=>by
 rw[A0o i hi λa ha hai=>by rw[hL i a hi ha];unfold idm;rw[qs (λe=>hai e.symm),Int.zero_mul],hL i i hi hi,A0o j hj λc hc hcj=>by rw[hR j c hj hc];unfold idm;rw[qs (λe=>hcj e.symm),Int.mul_zero],hR j j hj hj];unfold idm;rw[qr rfl,qr rfl];lia⟩
end
end M06
namespace M72
open MDet M06
theorem B4r {n:Nat} {G:Mat} (hn:n<=8) (hm:m<=8) (hb:∀ i j,i < n->j < m->Bt 126 (G i j)) (hk:n<=5/\m<=5):Reg m (M9 n m G L) 646 (3*646+2*126+20) (2*646+2) 646:=B9d (k:=5) hm (by decide) hb (by lia) (by decide) (by decide) (by decide)
variable {j:Nat}
section
variable {n:Nat} {o:Nat->Int} {v:Bool}
def tur (n:Nat) (o:Nat->Int) (v:Bool):Mat:=λi j=>if v=true/\i+1=n then (if j+1=n then o 0 else o 0+o (n - 1)) else o 0+if i=j/\0 < i then o i else 0
structure B2g (n:Nat) (o:Nat->Int):Prop where
 n2:2<=n
 one:1<=o 0
 nn:∀ i,i < n->0<=o i
 ch:∀ i,i+1 < n->o i ∣ o (i+1)
theorem B2g.dvd (h:B2g n o):∀ {i:Nat},i < n->o 0 ∣ o i
 | 0,_=>Int.dvd_refl _
 | i+1,hi=>Int.dvd_trans (h.dvd (Nat.lt_of_succ_lt hi)) (h.ch i hi)
def sg (n:Nat) (v:Bool) (i:Nat):Int:=if v=true/\i+1=n then 1 else -1
def cf (n:Nat) (o:Nat->Int) (v:Bool) (i:Nat):Int:=if v=true/\i+1=n then -(1+o (n - 1) / o 0) else 1
def Lf (n:Nat) (o:Nat->Int) (v:Bool):Mat:=λi a=>if i=0 then (if a=0 then -1 else 0) else if a=i then sg n v i else if a=0 then cf n o v i else 0
def Rt:Mat:=λj b=>if j=0 then (if b=0 then 1 else 0) else if b=j then 1 else if b=0 then -1 else 0
def Dg (o:Nat->Int):Mat:=λi j=>if i=j then o i else 0
def G (n:Nat) (o:Nat->Int) (v:Bool):Mat:=λi j=>-(tur n o v i j)
theorem D98 (n:Nat) (v:Bool) (i:Nat):sg n v i*sg n v i=1:=by unfold sg;split<;>rfl
theorem D7i (hn:0 < n) (c:Int) (f:Nat->Int):(S n λb=>(if b=0 then c else 0)*f b)=c*f 0:=by
 rw[A0o 0 hn λb _ hb=>by rw[qs hb,Int.zero_mul],qr rfl]
theorem D79 (hj:0 < j) (hn:j < n) (x y:Int) (f:Nat->Int):(S n λb=>(if b=j then x else if b=0 then y else 0)*f b)=y*f 0+x*f j:=by
 rw[C1s 0 j hj hn λb _ h1 h2=>by rw[qs h2,qs h1,Int.zero_mul],qs (ze hj),qr rfl,qr rfl]
theorem D7y (hn:0 < n) (g:Nat->Int) (hj:j < n):(S n λb=>g b*Rt j b)=if j=0 then g 0 else g j - g 0:=by
 have e:(S n λb=>g b*Rt j b)=S n λb=>Rt j b*g b:=S_congr λb _=>Int.mul_comm _ _;rw[e];by_cases h:j=0
 ·subst h;rw[qr rfl];have:=D7i hn 1 g;rw[Int.one_mul] at this;exact this
 ·rw[qs h];have:=D79 (Nat.pos_of_ne_zero h) hj 1 (-1) g;have e2:(S n λb=>Rt j b*g b)=S n λb=>(if b=j then 1 else if b=0 then -1 else 0)*g b:=S_congr λb _=>by unfold Rt;rw[qs h]
  rw[e2,this];lia
theorem outer (hn:0 < n) (g:Nat->Int) {i:Nat} (hi:i < n):(S n λa=>Lf n o v i a*g a)=if i=0 then -(g 0) else cf n o v i*g 0+sg n v i*g i:=by
 by_cases h:i=0
 ·subst h;rw[qr rfl];have:=D7i hn (-1) g;have e2:(S n λa=>Lf n o v 0 a*g a)=S n λb=>(if b=0 then -1 else 0)*g b:=rfl;rw[e2,this];lia
 ·rw[qs h];have:=D79 (Nat.pos_of_ne_zero h) hi (sg n v i) (cf n o v i) g;have e2:(S n λa=>Lf n o v i a*g a)=S n λb=>(if b=i then sg n v i else if b=0 then cf n o v i else 0)*g b:=S_congr λb _=>by unfold Lf;rw[qs h]
  rw[e2,this]
theorem rel (h:B2g n o):Rel n n (G n o v) (Dg o) (Lf n o v) Rt:=⟨λi j hi hj=>by
 have hn:0 < n:=qv (by decide) h.n2;have e1:(S n λa=>Lf n o v i a*S n λb=>G n o v a b*Rt j b)=S n λa=>Lf n o v i a*if j=0 then G n o v a 0 else G n o v a j - G n o v a 0:=S_congr λa _=>by rw[D7y hn _ hj]
 rw[e1,outer hn _ hi];have r0:∀ j,G n o v 0 j=-(o 0):=λj=>by
  unfold G tur;rw[qs (λz=>by have:=z.2;have:=h.n2;lia),qs (λz=>Nat.lt_irrefl 0 z.2)];lia
 obtain ⟨q,hq⟩:=h.dvd (show n - 1 < n by lia);have hq2:o (n - 1) / o 0=q:=by rw[hq];exact Int.mul_ediv_cancel_left _ (by have:=h.one;lia)
 by_cases hi0:i=0
 ·subst hi0;rw[qr rfl,r0,r0];unfold Dg;by_cases hj0:j=0
  ·subst hj0;rw[qr rfl,qr rfl];lia
  ·rw[qs (Ne.symm hj0),qs hj0];lia
 ·rw[qs hi0,r0,r0];unfold sg cf Dg;by_cases hv:v=true/\i+1=n
  ·have g1:∀ j,G n o v i j=-(if j+1=n then o 0 else o 0+o (n - 1)):=λj=>by unfold G tur;rw[qr hv]
   have e0:(0+1=n)=False:=by simp;have:=h.n2;lia
   have ei:n - 1=i:=by have:=hv.2;lia
   have g10:G n o v i 0=-(o 0+o (n - 1)):=by rw[g1,qs (by rw[e0];exact id)]
   rw[qr hv,qr hv,g10,g1,hq2];rw[ei] at hq ⊢;by_cases hj0:j=0
   ·subst hj0;rw[qs hi0,qr rfl,qr rfl,hq];grind
   ·rw[qs hj0,qs hj0];by_cases hji:j+1=n
    ·rw[qr hji,qr (show i=j by have:=hv.2;lia)];lia
    ·rw[qs hji,qs (show i≠j by have:=hv.2;lia)];lia
  ·have g1:∀ j,G n o v i j=-(o 0+if i=j/\0 < i then o i else 0):=λj=>by unfold G tur;rw[qs hv]
   have g10:G n o v i 0=-(o 0):=by rw[g1,qs (show ¬ (i=0/\0 < i) from λz=>hi0 z.1)];lia
   rw[qs hv,qs hv,g10,g1];by_cases hj0:j=0
   ·subst hj0;rw[qs hi0,qr rfl,qr rfl];lia
   ·rw[qs hj0,qs hj0];by_cases hij:i=j
    ·subst hij;rw[qr rfl,qr ⟨rfl,Nat.pos_of_ne_zero hi0⟩];lia
    ·rw[qs hij,qs (λz=>hij z.1)];lia⟩
theorem E1r (h:B2g n o):Gen n (Lf n o v):=by
 have hn:0 < n:=qv (by decide) h.n2;have m0:Sp (λr=>∃ p,p < n/\r=Lf n o v p) (Lf n o v 0):=.mem ⟨0,hn,rfl⟩;refine (Gen.id (L:=idm) λ_ _ _ _=>rfl).of λi hi=>?_;by_cases h0:i=0
 ·subst h0;refine ⟨_,m0.comb (-1) 0 m0 (w:=λa=>if a=0 then 1 else 0) λa=>?_,λa _=>?_⟩
  ·unfold Lf;rw[qr rfl];split<;>lia
  ·unfold idm;by_cases ha:a=0
   ·rw[qr ha.symm,qr ha]
   ·rw[qs (Ne.symm ha),qs ha]
 ·have mi:Sp (λr=>∃ p,p < n/\r=Lf n o v p) (Lf n o v i):=.mem ⟨i,hi,rfl⟩;refine ⟨_,mi.comb (sg n v i) (sg n v i*cf n o v i) m0 (w:=λa=>if a=i then 1 else 0) λa=>?_,λa _=>?_⟩
  ·unfold Lf;rw[qr rfl,qs h0];by_cases ha:a=i
   ·rw[qr ha,qr ha,qs (λz=>h0 (ha.symm.trans z)),Int.mul_zero,Int.add_zero,D98]
   ·rw[qs ha,qs ha];by_cases hb:a=0
    ·rw[qr hb,qr hb];grind
    ·rw[qs hb,qs hb,Int.mul_zero,Int.mul_zero];rfl
  ·unfold idm;by_cases ha:a=i
   ·rw[qr ha.symm,qr ha]
   ·rw[qs (Ne.symm ha),qs ha]
theorem E2a (hn:0 < n):Gen n Rt:=by
 have m0:Sp (λr=>∃ p,p < n/\r=Rt p) (Rt 0):=.mem ⟨0,hn,rfl⟩;refine (Gen.id (L:=idm) λ_ _ _ _=>rfl).of λi hi=>?_;by_cases h0:i=0
 ·subst h0;refine ⟨_,m0,λa _=>?_⟩;unfold idm Rt;rw[qr rfl];by_cases ha:a=0
  ·rw[qr ha.symm,qr ha]
  ·rw[qs (Ne.symm ha),qs ha]
 ·have mi:Sp (λr=>∃ p,p < n/\r=Rt p) (Rt i):=.mem ⟨i,hi,rfl⟩;refine ⟨_,mi.comb 1 1 m0 (w:=λa=>if a=i then 1 else 0) λa=>?_,λa _=>?_⟩
  ·unfold Rt;rw[qr rfl,qs h0];by_cases ha:a=i
   ·rw[qr ha,qr ha,qs (λz=>h0 (ha.symm.trans z))];rfl
   ·rw[qs ha,qs ha];by_cases hb:a=0
    ·rw[qr hb,qr hb];rfl
    ·rw[qs hb,qs hb];rfl
  ·unfold idm;by_cases ha:a=i
   ·rw[qr ha.symm,qr ha]
   ·rw[qs (Ne.symm ha),qs ha]
theorem sm (h:B2g n o):Sm n n (G n o v) (Lf n o v) (Dg o) Rt where
 rel:=rel h
 gl:=E1r h
 gr:=E2a (qv (by decide) h.n2)
 off:=λi j _ _ hij=>qs hij
 nn:=λi hi _=>by unfold Dg;rw[qr rfl];exact h.nn i hi
 ch:=λi hi _=>by unfold Dg;rw[qr rfl,qr rfl];exact h.ch i hi
theorem D1z:MDet.det n (Lf n o v)=D3 n λi=>if i=0 then -1 else sg n v i:=by
 rw[A6a λi j h1 h2=>?_]
 ·exact G8 λi _=>by
   unfold Lf;by_cases h:i=0
   ·rw[qr h,qr h,qr h]
   ·rw[qs h,qr rfl,qs h]
 ·unfold Lf;by_cases h:i=0
  ·rw[qr h,qs (show j≠0 by lia)]
  ·rw[qs h,qs (show j≠i by lia),qs (show j≠0 by lia)]
theorem D31:MDet.det n Rt=1:=by
 rw[A6a λi j h1 h2=>?_]
 ·have:∀ n,D3 n (λ_=>(1:Int))=1:=λn=>by
   induction n with
   | zero=>rfl
   | succ n ih=>rw[M7,ih];rfl
  rw[G8 (g:=λ_=>1) λi _=>?_]
  ·exact this n
  ·unfold Rt;by_cases h:i=0
   ·rw[qr h,qr h]
   ·rw[qs h,qr rfl]
 ·unfold Rt;by_cases h:i=0
  ·rw[qr h,qs (show j≠0 by lia)]
  ·rw[qs h,qs (show j≠i by lia),qs (show j≠0 by lia)]
theorem D2d:MDet.det n (Dg o)=D3 n o:=by
 have:MDet.det n (Dg o)=D3 n λi=>Dg o i i:=A6a λi j h1 h2=>qs (ze h1);rw[this];exact G8 λi _=>qr rfl
theorem D6j (h:B2g n o):MDet.det n (Lf n o v)*MDet.det n (G n o v)=D3 n o:=by
 have e:MDet.det n (Dg o)=MDet.det n (A4g n (Lf n o v) (A4g n (G n o v) λb j=>Rt j b)):=det_congr λi j hi hj=>(rel h).eq i j hi hj;rw[A6e,A6e,A3c n Rt,D31,Int.mul_one,D2d] at e;exact e.symm
def A1c (n:Nat):Int:=if n % 2=0 then 1 else -1
theorem D06 (n:Nat):A1c (n+1)=-(A1c n):=by
 unfold A1c;rcases Nat.mod_two_eq_zero_or_one n with g|g
 ·rw[qs (show ¬ (n+1) % 2=0 by lia),qr g]
 ·rw[qr (show (n+1) % 2=0 by lia),qs (show ¬ n % 2=0 by lia)];rfl
theorem D66 (n:Nat):A1c n*A1c n=1:=by unfold A1c;split<;>rfl
theorem C5a (m:Nat) (v:Bool) (k:Nat):m < k->D3 (m+1) (λi=>if i=0 then (-1:Int) else sg (k+1) v i)=A1c (m+1):=λhm=>by
 induction m with
 | zero=>rfl
 | succ m ih =>
  have e:sg (k+1) v (m+1)=-1:=qs λz=>by have:=z.2;lia
  rw[M7,ih (Nat.lt_of_succ_lt hm),qs (Nat.succ_ne_zero m),e,D06 (m+1)];lia
theorem C1f (h:B2g n o):MDet.det n (G n o v)=(if v=true then -(A1c n) else A1c n)*D3 n o:=by
 obtain ⟨k,rfl⟩:∃ k,n=k+2:=⟨n - 2,by have:=h.n2;lia⟩;have e:=D6j (v:=v) h;rw[D1z,M7,C5a k v (k+1) (Nat.lt_succ_self k),qs (Nat.succ_ne_zero k)] at e;rw[<-e,D06 (k+1)];have q:=D66 (k+1);generalize MDet.det (k+2) (G (k+2) o v)=d;cases v with
 | true =>
  have e2:sg (k+2) true (k+1)=1:=qr ⟨rfl,rfl⟩;rw[qr rfl,e2,show - -A1c (k+1)*(A1c (k+1)*1*d)=A1c (k+1)*A1c (k+1)*d by grind,q,Int.one_mul]
 | false =>
  have e2:sg (k+2) false (k+1)=-1:=qs λz=>qw z.1;rw[qs qw,e2,show -A1c (k+1)*(A1c (k+1)*-1*d)=A1c (k+1)*A1c (k+1)*d by grind,q,Int.one_mul]
def crn (n:Nat) (C:Mat):List Int:=(List.range n).map λk=>C k k
def B53 (n:Nat) (C:Mat):List Int:=(crn n C).filter λx=>decide (1 < x)
end
end M72
local macro_rules | `(tactic| walk_at "d") => `(tactic| repeat (first | with_reducible (first | refine DL.E2i ?_ | refine DL.D86 ?_ | refine DL.D2o ?_ | refine DL.D8n ?_ | refine DL.D69 ?_ | refine DL.D72 ?_ | refine DL.E2q ?_ | refine DL.D65 ?_ | refine DL.D8v ?_ | refine DL.D91 ?_ | refine DL.D4o ?_ | refine DL.D3a ?_ | refine DL.D95 ?_ | refine DL.D6i ?_ | refine DL.w_c ?_ | refine DL.E1l ?_ | refine DL.D87 ?_ | refine DL.E21 ?_ | refine DL.D2n ?_ | refine DL.C49 ?_ | refine DL.D5w ?_ | refine DL.D35 ?_ | refine DL.D25 ?_ | refine DL.D7h ?_ | refine DL.D6g ?_ | refine DL.E1k ?_ | refine DL.D9d ?_ | refine DL.D9l ?_ | refine DL.D48 ?_ | refine DL.D2v ?_ | refine DL.D9m ?_ | refine DL.w_B ?_ | refine DL.D8f ?_ | refine DL.E32 ?_ | refine DL.w_not ?_ | refine DL.D19 ?_ | refine DL.D8c ?_ | refine DL.D10 ?_ | refine DL.D2h ?_ | refine DL.D3y ?_ | refine DL.D52 ?_ | refine DL.D1m ?_ | refine DL.D4p ?_ | refine DL.E36 ?_ | refine DL.E00 ?_ | refine DL.D13 ?_ | refine DL.D0v ?_ | refine DL.D8a ?_ | refine DL.D7g ?_ | refine DL.C7d ?_ | refine DL.D49 ?_ | refine DL.E1g ?_ | refine DL.D8b ?_ | refine DL.D0u ?_ | refine DL.D0h ?_ | refine DL.D2x ?_ | refine DL.D9v ?_ | refine DL.C8f ?_ | refine DL.D36 ?_ | refine DL.D46 ?_ | refine DL.D5r ?_ | refine DL.E15 ?_ | refine DL.C25 ?_ | refine DL.D1p ?_ | refine DL.D9e ?_ | refine DL.C5f ?_ | refine DL.D1x ?_ | refine DL.C5h ?_ | refine DL.D2z ?_ | refine DL.D78 ?_ | refine DL.E2u ?_ | refine DL.D0m ?_ | refine DL.D2f ?_ | refine DL.C55 ?_ | refine DL.C8d ?_ | refine DL.D4j ?_ | refine DL.C7c ?_ | refine DL.D7k ?_ | refine DL.D8x ?_ | refine DL.D6b ?_ | refine DL.D75 ?_ | refine DL.D6r ?_ | refine DL.C6k ?_ | refine DL.E1h ?_ | refine DL.D53 ?_ | refine DL.D20 ?_ | refine DL.D8r ?_ | refine DL.D9c ?_ | refine DL.D6t ?_ | refine DL.D64 ?_ | refine DL.D43 ?_ | refine DL.D4t ?_ | refine DL.D9n ?_ | refine DL.E2s ?_ | refine DL.E0h ?_ | refine DL.E2h ?_ | refine DL.E2g ?_ | refine DL.E2o ?_ | refine DL.E1z ?_ | refine DL.E1c ?_ | refine DL.E1p ?_ | refine DL.E2c ?_ | refine DL.E1n ?_ | refine DL.E2k ?_ | refine DL.E14 ?_ | refine DL.E0p ?_ | refine DL.E29 ?_ | refine DL.E1o ?_ | refine DL.E0i ?_) | ((with_reducible refine And.intro ?c ?_); (case c => first | exact trivial | exact Nat.le_of_ble_eq_true rfl | decide | (unfold L2.D4k; decide) | (unfold L2.D2a; decide) | exact L2.A5z.ok (.inl ⟨by decide, by decide⟩) | exact L2.A5z.ok (.inr ⟨by decide, by decide⟩) | exact rfl | omega)) | simp only [DL.C1z, DL.B9v, DL.C4n, DL.C4c, DL.C17, DL.C1q, DL.C0l, DL.B88, DL.B9m, DL.C05, DL.B94, DL.B8r, DL.B9l, DL.C0w, DL.C62, DL.C4g, DL.C5c, DL.C54, DL.C8m, DL.C6t, DL.X9, DL.B9i, DL.B8z, DL.C28, DL.C1m, DL.D2c, DL.two_iD, DL.A2m, DL.B02, DL.C6a, DL.D1s, DL.D0i, DL.C20, DL.C1b, DL.B8g, DL.B41, DL.D2y, DL.D4g, DL.C52, DL.C5g, DL.C36, DL.C5x, DL.B9u, DL.B9p, DL.B9j, DL.B56, DL.C64, DL.C0b, DL.C7g, DL.B70, DL.C8c, DL.D0x, DL.D1k, DL.B61, DL.B57, DL.C0r, DL.B8m, DL.B3c, DL.B5x, DL.D26, DL.D4f, DL.C5d, DL.C56, DL.C3v, DL.B8k, DL.C1t, DL.C13, DL.B8n, DL.A12, DL.B8f, DL.B5y, DL.C8q, DL.C5w, List.set_cons_zero, List.set_cons_succ, append_nil, nil_append, Bool.and_true, Bool.true_and, Bool.and_self, Bool.not_true, Bool.not_false, DL.B2y, DL.A91, map_cons, List.map_nil, List.cons_append, List.getElem?_cons_zero, List.getElem?_cons_succ, Option.join_some, Option.map_some, List.all_cons, List.all_nil]))
local macro_rules | `(tactic| walk_at "sc") => `(tactic| exact ⟨rfl, rfl, rfl, by decide +kernel, rfl, by decide +kernel, by decide +kernel⟩)
namespace K72
open L2 DL
def top (i : Nat) : Stmt := PySem.Challenge.pw_foreverrows_k72_plain_tables.main.body.getD i (.Pass ⟨0, 0, 0, 0⟩)
structure Blt (mg:Str->Option Value):Prop where
 len:mg "len"=none
 range:mg "range"=none
 list:mg "list"=none
 isinstance:mg "isinstance"=none
 all:mg "all"=none
 zip:mg "zip"=none
 enumerate:mg "enumerate"=none
 reversed:mg "reversed"=none
 min:mg "min"=none
 max:mg "max"=none
 any:mg "any"=none
variable {r a:List Int} {f:Addr} {j n:Nat} {s t:Int}
section
variable {P:Program} {w:World} {K:W.Frag} {mg:Str->Option Value} {base:Heap}
open M06 (Bt Shr Eu Ec mks ld red)
theorem E2v {a b:Int} (h1:a.natAbs < 2 ^ m) (h2:b.natAbs < 2 ^ n) (h:m+n<=134217728):IntMulOk a b:=by
 have e1:((2 ^ m:Nat):Int)=(2:Int) ^ m:=by norm_cast
 have e2:((2 ^ n:Nat):Int)=(2:Int) ^ n:=by norm_cast
 exact D8j (m:=m) (n:=n) (by rw[<-e1];lia) (by rw[<-e1];lia) (by rw[<-e2];lia) (by rw[<-e2];lia) h
theorem A1l {a b:Int} (h1:Bt m a) (h2:Bt n b) (h:m+n<=134217728):IntMulOk a b:=E2v h1 h2 h
abbrev W1:Stmt:=top 13
theorem D4:C2 ["one","other","big","small","s","t","next_s","next_t","times"] ["one","other"] (B1 W1):=by walk_at "sc"
def A8k:SpD:=λds Q _=>∃ (a b:Int) (c:Nat),ds=[.int a,.int b]/\0 < a/\Bt c a/\Bt c b/\c<=60000000/\∀ g s t,Shr a b g s t->Q (.tuple [.int g,.int s,.int t]) true
theorem A52 (F:W5 K "common_shares" "common_shares" W1 f fd) (T:Blt mg) (hT:P.given.tree=none):J5 P w K mg base CX0 41 f fd ["one","other"] (G3 K A8k):=by
 refine ok0 F D4 (λds Q X h=>?_) (λcdv A outer s H E hr=>?_) λds Qd Xd h=>h
 ·obtain ⟨a,b,c,rfl,_⟩:=h;rfl
 refine ⟨_,(A4 (A6m 2 3 (by rfl) D4.nd (by rfl) (by rfl) (by decide) (by rfl) (by rfl) (A0 (B2 0) (A0 (B2 1) A6)) (by rfl))
   (A4 (A6p [4,5] 2 rfl (by rfl) (by rfl) (D8 (U8 4 D4.nd) (D8 (U8 5 D4.nd) T1)) (by rfl) (by rfl) (T4 (A0 A1 (A0 A1 A6))))
   (A4 (A6p [6,7] 2 rfl (by rfl) (by rfl) (D8 (U8 6 D4.nd) (D8 (U8 7 D4.nd) T1)) (by rfl) (by rfl) (T4 (A0 A1 (A0 A1 A6))))
   (A4 (A3o (G9 (A17 (A6b (B8 (P6 (by rfl) (by exact hr.units)) (B2 0) A1 (B6 _)) (A42 (B8 (J7 (by rfl) (by exact hr.units)) (A9 C0t (B2 1) (B2 0)) A1 (B6 _))))) (A7 (G5 3 D4.nd A1)) D0))
   (A4 (A9y PassesOwn.never (B8 (P6 (by rfl) (by exact hr.units)) (B2 3) A1 (B6 _)) (A4 (G5 8 D4.nd (A9 (A97 ⟨⟨_,_,rfl,rfl,rfl,rfl,rfl⟩⟩ (by exact hT) (by exact hr.pyl)) (B2 2) (B2 3)))
   (A4 (A6m 2 3 (by rfl) D4.nd (by rfl) (by rfl) (by decide) (by rfl) (by rfl) (A0 (B2 3) (A0 (A9 J2 (B2 2) (A9 N8 (B2 8) (B2 3))) A6)) (by rfl))
   (A4 (A6m 4 6 (by rfl) D4.nd (by rfl) (by rfl) (by decide) (by rfl) (by rfl) (A0 (B2 6) (A0 (A9 J2 (B2 4) (A9 N8 (B2 8) (B2 6))) A6)) (by rfl))
   (A7 (A6m 5 7 (by rfl) D4.nd (by rfl) (by rfl) (by decide) (by rfl) (by rfl) (A0 (B2 7) (A0 (A9 J2 (B2 5) (A9 N8 (B2 8) (B2 7))) A6)) (by rfl)))))))
   (A4 (G9 (B8 A58 (B2 2) A1 (B6 _)) (A7 (C6 (T4 (A0 (T8 (B2 2)) (A0 (T8 (B2 4)) (A0 (T8 (B2 5)) A6)))))) D0)
   (A7 (C6 (T4 (A0 (B2 2) (A0 (B2 4) (A0 (B2 5) A6)))))))))))),λds Qd h=>?_⟩
 obtain ⟨a,b,c,rfl,ha,ba,bb,hc,q⟩:=h;show (_:N5) _ [some (false,.int a),some (false,.int b),none,none,none,none,none,none,none] _;cbv;refine B6r ?_;cbv;refine B43 (λO=>∃ m:Int,O=[some (false,.int a),some (false,.int b),some (false,.int a),some (false,.int m),some (false,.int 1),some (false,.int 0),some (false,.int 0),some (false,.int 1),none]/\(m=b\/(m=0/\a ∣ b))) (λN hN=>?_) ?_
 ·cbv;rw[qr (by simp;lia)];cbv;sleep 8
  ·cbv;refine hN _ ⟨0,rfl,.inr ⟨rfl,?_⟩⟩;have h1:b.fmod a=0:=by simpa using h1
   exact Int.dvd_iff_fmod_eq_zero.mpr h1
  ·cbv;exact hN _ ⟨b,rfl,.inl rfl⟩
 ·rintro O ⟨m,rfl,hm⟩;refine ⟨λk O=>∃ (B m s t n u:Int) (x:Option (Bool × D)),O=[some (false,.int a),some (false,.int b),some (false,.int B),some (false,.int m),some (false,.int s),some (false,.int t),some (false,.int n),some (false,.int u),x]/\k=m.natAbs/\Bt c B/\Bt c m/\(Eu a b B m s t n u\/(m=0/\B=a/\s=1/\t=0/\a ∣ b)),⟨_,a,m,1,0,0,1,_,rfl,rfl,ba,?_,?_⟩,?_⟩
  ·rcases hm with rfl|⟨rfl,_⟩
   ·exact bb
   ·exact .zero
  ·rcases hm with rfl|⟨rfl,hd⟩
   ·exact .inl (Eu.start ha)
   ·exact .inr ⟨rfl,rfl,rfl,rfl,hd⟩
  rintro k O ⟨B,m,s,t,n,u,x,rfl,rfl,bB,bm,hE⟩;cbv;sleep 8
  ·have h1:m≠0:=by simpa using h1
   have E:Eu a b B m s t n u:=by
    rcases hE with E|⟨z,_⟩
    ·exact E
    ·exact absurd z h1
   obtain ⟨E',hlt⟩:=E.step h1;have bt:Bt (c+1) (B.fdiv m):=by
    rcases Int.lt_or_lt_of_ne h1 with z|z
    ·have:=M06.Bt.fdiv (M06.Bt.neg bB) (show 0 < -m by lia)
     rwa [Int.neg_fdiv_neg] at this
    ·exact M06.Bt.fdiv bB z
   have jn:Bt c n:=by
    have j1:=M06.A6o (zq (Nat.le_add_right _ _) E.j1) (show 0 < B.natAbs by have:=E.B0;lia);unfold Bt at *;lia
   have ju:Bt (c+2) u:=by
    have j1:=M06.A6o (zq (Nat.le_add_right _ _) E.j2) (show 0 < B.natAbs by have:=E.B0;lia);have:2 ^ (c+2)=4*2 ^ c:=by rw[Nat.pow_add,Nat.mul_comm]
    unfold Bt at *;lia
   cbv;refine B6r ?_;cbv;refine ⟨A1l bt bm (by lia),?_⟩;cbv;refine B6r ?_;cbv;refine ⟨A1l bt jn (by lia),?_⟩;cbv;refine B6r ?_;cbv;refine ⟨A1l bt ju (by lia),?_⟩;cbv;refine ⟨_,hlt,m,_,n,u,_,_,_,rfl,rfl,bm,?_,.inl E'⟩;unfold Bt at *;lia
  ·have h1:m=0:=by simpa using h1
   subst h1;cbv;refine V8 (λh2=>?_) λh2=>?_
   ·have h2:B < 0:=by simpa using h2
    cbv;refine q _ _ _ ?_;rcases hE with E|⟨_,rfl,_⟩
    ·have:=E.fin;rwa [qr h2] at this
    ·lia
   ·have h2:¬ B < 0:=by simpa using h2
    cbv;refine q _ _ _ ?_;rcases hE with E|⟨_,rfl,rfl,rfl,hd⟩
    ·have:=E.fin;rwa [qs h2] at this
    ·exact .one ha hd
open M06 (Bt Shr Eu Ec mks ld red Mi)
def gv (r:List Int):M06.V:=λj=>r.getD j 0
theorem D0b (h:j < r.length):(r.map PyData.int)[j]?=some (.int (gv r j)):=by
 rw[qp,zd h];unfold gv;rw[getD_eq_getElem?_getD,zd h];rfl
theorem C27 (h:j < r.length):atI (r.map PyData.int) ((j:Nat):Int)=some (.int (gv r j)):=B9 (D0b h)
theorem D1d {x:Int} (h:x∈r):∃ j,j < r.length/\gv r j=x:=by
 obtain ⟨j,hj,rfl⟩:=mem_iff_getElem.mp h;exact ⟨j,hj,by unfold gv;rw[getD_eq_getElem?_getD,zd hj];rfl⟩
theorem B5d (h:r.length<=j):gv r j=0:=by unfold gv;rw[getD_eq_getElem?_getD,List.getElem?_eq_none h];rfl
abbrev B4z:Stmt:=top 27
theorem B6e:C2 ["row","width","column"] ["row","width"] (B1 B4z):=by walk_at "sc"
def A49:SpD:=λds Q _=>∃ (r:List Int) (wd:Nat),ds=[iD r,.int wd]/\wd<=r.length/\wd<=1000/\Q (.int (ld wd (gv r):Nat)) true
theorem C7q (F:W5 K "lead" "lead" B4z f fd) (T:Blt mg):J5 P w K mg base CX0 41 f fd ["row","width"] (G3 K A49):=by
 refine ok0 F B6e (λds Q X h=>?_) (λcdv A outer s H E hr=>?_) λds Qd Xd h=>h
 ·obtain ⟨r,wd,rfl,_⟩:=h;rfl
 refine ⟨_,(A4 (V7 PassesOwn.never rfl (K0 (by rfl) (by exact T.range) (A0 (B2 1) A6)) (K5 2 B6e.nd) (A7 (G9 (B8 (P6 (by rfl) (by exact hr.units)) (E2 (dix (by rfl)) (B2 0) (B2 2) (λ_ _=>rfl)) A1 (B6 _)) (A7 (C6 (B2 2))) D0)))
   (A7 (C6 (B2 1)))),λds Qd h=>?_⟩
 obtain ⟨r,wd,rfl,hw,hk,q⟩:=h;show (_:N5) _ [some (false,.list (r.map .int)),some (false,.int wd),none] _;cbv;rw[Int.toNat_natCast];refine A1k (λi O=>∃ x:Option (Bool × D),O=[some (false,.list (r.map .int)),some (false,.int wd),x]/\i<=wd/\∀ j,j < i->gv r j=0) ⟨_,rfl,jb _,λj hj=>by lia⟩ ?_ ?_
 ·rintro i O hi ⟨x,rfl,hi',hz⟩;cbv;rw[Int.zero_add];refine ⟨_,C27 (by lia),?_⟩;cbv;sleep 8
  ·have h1:gv r i≠0:=by simpa using h1
   cbv;rw[M06.B7w hi h1 hz] at q;exact q
  ·have h1:gv r i=0:=by simpa using h1
   cbv;refine ⟨_,rfl,by lia,λj hj=>?_⟩;by_cases e:j=i
   ·rw[e];exact h1
   ·exact hz j (by lia)
 ·rintro O ⟨x,rfl,_,hz⟩;cbv;rw[M06.C19 hz] at q;exact q
def bld (a:List Int) (s:Int) (b:List Int) (t:Int):List Int:=(a.zip b).map λz=>s*z.1+t*z.2
theorem W6 {b:List Int} (h:a.length=b.length):(bld a s b t).length=a.length:=by unfold bld;rw[qk,List.length_zip];lia
theorem W4 {b:List Int} (h:a.length=b.length) (j:Nat):gv (bld a s b t) j=s*gv a j+t*gv b j:=by
 by_cases hj:j < a.length
 ·unfold gv bld;rw[getD_eq_getElem?_getD,qp,List.getElem?_zip_eq_some (z:=(a[j],b[j]'(by lia))) |>.mpr ⟨zd hj,zd (by lia)⟩,getD_eq_getElem?_getD,getD_eq_getElem?_getD,zd hj,zd (show j < b.length by lia)];rfl
 ·rw[B5d (by rw[W6 h];lia),B5d (by lia),B5d (by lia)];lia
abbrev A4q:Stmt:=top 28
theorem B5t:C2 ["one","s","other","t"] ["one","s","other","t"] (B1 A4q):=by walk_at "sc"
def A3a:SpD:=λds Q _=>∃ (a b:List Int) (s t:Int),ds=[iD a,.int s,iD b,.int t]/\a.length=b.length/\a.length<=1000/\(∀ j,j < a.length->IntMulOk s (gv a j)/\IntMulOk t (gv b j))/\Q (iD (bld a s b t)) true
theorem B4p (F:W5 K "blended" "blended" A4q f fd) (T:Blt mg):J5 P w K mg base CX0 41 f fd ["one","s","other","t"] (G3 K A3a):=by
 refine ok0 F B5t (λds Q X h=>?_) (λcdv A outer s H E hr=>?_) λds Qd Xd h=>h
 ·obtain ⟨a,b,s,t,rfl,_⟩:=h;rfl
 refine ⟨_,(A7 (C6 (L4 ["x","y"] [("s",1),("t",3)] rfl (C7.of (by kernel_rfl)) (A10 (by rfl) (by rfl) (by exact T.zip) (A0 (B2 0) (A0 (B2 2) A6))) (λ_ _ _ _=>⟨(U0 2 (by rfl) (by rfl) (D6 (K5 0 (I0 (by kernel_rfl))) (D6 (K5 1 (I0 (by kernel_rfl))) P9)) (by rfl) (by rfl)),E3,(D5 (by rfl) (by rfl) (A9 M3 (A9 N8 (B2 2) (B2 0)) (A9 N8 (B2 3) (B2 1))))⟩)))),λds Qd h=>?_⟩;obtain ⟨a,b,s,t,rfl,hl,hk,hm,q⟩:=h;show (_:N5) _ [some (false,.list (a.map .int)),some (false,.int s),some (false,.list (b.map .int)),some (false,.int t)] _;cbv;rw[A0i];refine K4 (L:=a.zip b) (λz:Int × Int=>.tuple [.int z.1,.int z.2]) (λz=>.int (s*z.1+t*z.2)) (λz hz es Q' hl' q'=>?_) (by rw[List.length_zip];lia) ?_
 ·cbv;obtain ⟨j,hj,rfl⟩:=mem_iff_getElem.mp hz;rw[List.length_zip] at hj;have e1:(a.zip b)[j].1=gv a j:=by unfold gv;rw[List.getElem_zip,getD_eq_getElem?_getD,zd (by lia)];rfl
  have e2:(a.zip b)[j].2=gv b j:=by unfold gv;rw[List.getElem_zip,getD_eq_getElem?_getD,zd (by lia)];rfl
  rw[e1,e2] at q' ⊢;obtain ⟨m1,m2⟩:=hm j (by lia);refine ⟨m1,?_⟩;cbv;exact q'
 ·rw[show PyData.list ((a.zip b).map λz=>.int (s*z.1+t*z.2))=iD (bld a s b t) from by unfold iD bld;rw[map_map];rfl];cbv;exact q
theorem D4x {H:List (List Int)} {i:Nat} {d:D} (h:(H.map iD)[i]?=some d):∃ z,H[i]?=some z/\d=iD z:=by
 rw[qp] at h;obtain ⟨z,h1,h2⟩:=Option.map_eq_some_iff.mp h;exact ⟨z,h1,h2.symm⟩
theorem Mi.cong {w k a x e i:Nat} {r r' r2:M06.V} {H:List M06.V} (M:Mi wd w k a x e r H i r') (h:∀ j,r2 j=r' j):Mi wd w k a x e r H i r2:=by
 have:r2=r':=funext h;rw[this];exact M
abbrev A15:Stmt:=top 26
theorem S5:C2 ["row","stairs","width","stair","column","times"] ["row","stairs","width"] (B1 A15):=by walk_at "sc"
structure C70 (w wd k a x e:Nat) (r:List Int) (H:List (List Int)):Prop where
 rl:r.length=w
 hl:∀ z∈H,z.length=w
 wl:wd<=w
 w1:w<=1000
 hk:H.length<=k
 k8:k<=8
 ec:Ec wd (H.map gv)
 ra:∀ j,j < wd->Bt a (gv r j)
 re:∀ j,j < w->Bt e (gv r j)
 hx:∀ z∈H,∀ j,j < wd->Bt x (gv z j)
 he:∀ z∈H,∀ j,j < w->Bt e (gv z j)
 bits:2*(e+(a+k*(x+2)))+40<=134217728
def A8l:SpD:=λds Q _=>∃ (w wd k a x e:Nat) (r:List Int) (H:List (List Int)),ds=[iD r,gD H,.int wd]/\C70 w wd k a x e r H/\∀ r':List Int,r'.length=w->(∀ j,gv r' j=mks wd (gv r) (H.map gv) j)->(∀ j,j < w->Bt (e+(a+k*(x+2))+1+k) (gv r' j))->Q (iD r') false
theorem A8u (F:W5 K "made_small" "made_small" A15 f fd) (T:Blt mg) (hT:P.given.tree=none) (D_lead:Df P w K mg base "lead" ["row","width"] 41 (G3 K A49)) (D_blended:Df P w K mg base "blended" ["one","s","other","t"] 41 (G3 K A3a)):J5 P w K mg base CX0 42 f fd ["row","stairs","width"] (G3 K A8l):=by
 refine ok0 F S5 (λds Q X h=>?_) (λcdv A outer s H E hr=>?_) λds Qd Xd h=>h
 ·obtain ⟨w',wd,k,a,x,e,r,H,rfl,_⟩:=h;rfl
 refine ⟨_,(A4 (B1y 1 (V7 PassesOwn.never rfl (O9 (by rfl) (B2 1)) (K5 3 S5.nd) (A4 (G5 4 S5.nd (M8 (by exact D_lead) (by exact hr.mono (by lia)) (A0 (B2 3) (A0 (B2 2) A6))))
   (A4 (G5 5 S5.nd (A9 (A97 ⟨⟨_,_,rfl,rfl,rfl,rfl,rfl⟩⟩ (by exact hT) (by exact hr.pyl)) (E2 (dix (by rfl)) (B2 0) (B2 4) (λ_ _=>rfl)) (E2 (dix (by rfl)) (B2 3) (B2 4) (λ_ _=>rfl))))
   (A7 (G9 (B8 (P6 (by rfl) (by exact hr.units)) (B2 5) A1 (B6 _)) (A7 (C78 0 (G5 0 S5.nd (M8 (by exact D_blended) (by exact hr.mono (by lia)) (A0 (B2 0) (A0 A1 (A0 (B2 3) (A0 (T8 (B2 5)) A6)))))))) D0))))))
   (A7 (C6 (B2 0)))),λds Qd h=>?_⟩
 obtain ⟨w',wd,k,a,x,e,r,H,rfl,Oi,q⟩:=h;show (_:N5) _ [some (false,iD r),some (false,.list (H.map iD)),some (false,.int wd),none,none,none] _;have O1:=Oi.w1;have O2:=Oi.k8;have O3:=Oi.bits;have O4:=Oi.wl;have hH:∀ v∈H.map gv,∃ z∈H,v=gv z:=λv hv=>by obtain ⟨z,hz,rfl⟩:=zg.mp hv;exact ⟨z,hz,rfl⟩
 cbv;refine B7q (λi O=>∃ (r':List Int) (x3 x4 x5:Option (Bool × D)),O=[some (false,iD r'),some (false,.list (H.map iD)),some (false,.int wd),x3,x4,x5]/\r'.length=w'/\Mi wd w' k a x e (gv r) (H.map gv) i (gv r')) ⟨r,_,_,_,rfl,Oi.rl,.start Oi.ra Oi.re⟩ ?_ ?_
 ·rintro i d O hd ⟨r',x3,x4,x5,rfl,hrl,M⟩;obtain ⟨z,hz,rfl⟩:=D4x hd;have hm:=zx hz;have hzl:=Oi.hl z hm;obtain ⟨p1,p2⟩:=Oi.ec.pos (gv z) (zg.mpr ⟨z,hm,rfl⟩);obtain ⟨M',tb⟩:=M.step (by rw[qk];exact Oi.hk) Oi.ec (λv hv=>by obtain ⟨y,hy,rfl⟩:=hH v hv;exact Oi.hx y hy) (λv hv=>by obtain ⟨y,hy,rfl⟩:=hH v hv;exact Oi.he y hy) (by rw[qp,hz];rfl);have hik:i < k:=by have:=(ql.mp hz).1;have:=Oi.hk;lia
  cbv;refine ⟨z,wd,rfl,by lia,by lia,?_⟩;cbv;refine ⟨_,C27 (by lia),?_⟩;cbv;refine ⟨_,C27 (by lia),?_⟩;cbv;generalize ht:(gv r' (ld wd (gv z))).fdiv (gv z (ld wd (gv z)))=times at tb;have hre:=M.re;sleep 8
  ·cbv;refine ⟨r',z,1,-times,rfl,by lia,by lia,λj hj=>⟨A5z.ok (.inl ⟨by decide,by decide⟩),A1l tb.neg (Oi.he z hm j (by lia)) (by lia)⟩,?_⟩;cbv;refine ⟨_,_,_,_,rfl,by rw[W6 (by lia)];exact hrl,Mi.cong M' λj=>?_⟩;rw[W4 (by lia)];show _=gv r' j - (gv r' (ld wd (gv z))).fdiv (gv z (ld wd (gv z)))*gv z j;rw[ht,Int.neg_mul];lia
  ·have h1:times=0:=by simpa using h1
   cbv;refine ⟨r',_,_,_,rfl,hrl,Mi.cong M' λj=>?_⟩;show _=gv r' j - (gv r' (ld wd (gv z))).fdiv (gv z (ld wd (gv z)))*gv z j;rw[ht,h1];lia
 ·rintro O ⟨r',x3,x4,x5,rfl,hrl,M⟩;rw[qk] at M;cbv;refine q r' hrl (λj=>?_) λj hj=>(M.re j hj).up (by have:=Oi.hk;lia);have:=M.eq j
  rwa [List.drop_of_length_le (by rw[qk];exact qt _)] at this
end
end K72
namespace PySem
open _root_.PySem.Sem (wp)
variable {Q:Value->Shared->Prop} {r:Addr} {n:Nat} {t u v:Tok}
section
variable {prog:Program} {w:World} {A:Around} {E:Value->Shared->Prop} {s:Shared}
theorem F.sub_ri_reversed:isSubtype (.type "range_iterator") (.type "reversed")=pure false:=by rw[isSubtype_type];kernel_rfl
def A7e (n:Nat):Obj:={ cls:=.type "range_iterator",data:=.fields #[rawInt ((n:Int) - 1),rawInt (n:Int),rawInt (-1)] }
theorem A51 (i:Int) (t:Tok):asInt? (.int i t)=pure (some i):=rfl
theorem A2v (hr:IsRange s.heap r 0 n 1 t u v) (hn:(n:Int) < 2 ^ 62)
  (h:Q (.ref s.heap.objs.size) { s with heap:=s.heap.push (A7e n) }):wpAny (model prog w) A (call (.builtin "range.__reversed__") [.ref r]) Q E s:=by
 refine wpAny_call_entry F.slot_range_reversed ⟨_,hr,rfl⟩ F.entry_range_reversed ?_ (F.args_range_reversed_1 _);unfold Builtin.«range.__reversed__»;refine qd (wpAny_of_eq (a:=Value.ref r) rfl ?_);refine qd ?_;unfold Builtin.Range.rangeFields;refine qd (wpAny_field hr rfl (x:=.int 0 t) rfl ?_);rw[A51,pure_bind];refine qd (wpAny_field hr rfl (x:=.int n u) rfl ?_);rw[A51,pure_bind];refine qd (wpAny_field hr rfl (x:=.int 1 v) rfl ?_);rw[A51,pure_bind];refine qe ?_;dsimp only;have sz:Builtin.Range.rangeSize 0 (n:Int) 1=(n:Int):=by
  unfold Builtin.Range.rangeSize;rw[qr (by decide)];split<;>lia
 rw[sz];have sm:(Builtin.Range.rangeFitsLong 0&&Builtin.Range.rangeFitsLong (n:Int)&&Builtin.Range.rangeFitsLong 1&&Builtin.Range.rangeFitsLong (-1)&&Builtin.Range.rangeFitsLong (0 - 1)&&Builtin.Range.rangeFitsLong (n:Int))=true:=by
  simp only[Builtin.Range.rangeFitsLong,zb,zw];lia
 rw[sm];simp only[Bool.not_true,zt,if_false,if_true];have e1:(0:Int)+((n:Int) - 1)*1=(n:Int) - 1:=by lia
 rw[e1];refine qd ?_;unfold newFields;exact wpAny_newObj_type (qe ⟨_,rfl,h⟩)
theorem A4m {Q₁:Value->Shared->Prop} (hr:IsRange s.heap r 0 n 1 t u v) (hn:(n:Int) < 2 ^ 62)
  (h:Q₁ (.ref s.heap.objs.size) { s with heap:=s.heap.push (A7e n) }) :
  codeAny (model prog w) A (.call (.builtin "reversed.__new__") ⟨[.type "reversed",.ref r],[]⟩) (wants Q₁ E) s:=by
 refine codeAny_of_tree ?_;show wpAny _ A.in1 (do checkBuiltinCall "reversed.__new__" ⟨[.type "reversed",.ref r],[]⟩;again (.builtin "reversed.__new__" ⟨[.type "reversed",.ref r],[]⟩)) _ _ s;refine qd (wpAny_of_eq (F.newCall_reversed_1 _) (qe ⟨plainId_quiet F.plain_reversed_new _,codeAny_builtin F.entry_reversed_new ?_⟩));rw[Around.under_plainId F.plain_reversed_new _];unfold Builtin.«reversed.__new__»;refine qd (wpAny_of_eq (newClass_reversed _) ?_)
 try dsimp only
 refine qd (wpAny_of_eq (a:=()) (by first|rfl|kernel_rfl) ?_);refine qd (wpAny_of_eq (a:=()) (by first|rfl|kernel_rfl) ?_)
 try dsimp only
 refine qd (wpAny_specialOf (T:="range") ⟨_,hr,rfl⟩ F.slot_range_reversed.lookup ?_)
 try dsimp only
 refine qd (wpAny_of_eq (F.slot_range_reversed.bind _) ?_)
 try dsimp only
 first
 | rw[qs (show ¬ ((Value.builtin "range.__reversed__"==Value.none)=true) from qw)]
 | (show wpAny _ _ (if (Value.builtin "range.__reversed__"==Value.none)=true then _ else _) _ _ _;rw[qs (show ¬ ((Value.builtin "range.__reversed__"==Value.none)=true) from qw)])
 refine qd (wpAny_rule ?_);refine qd (m:=runValue (.call (.builtin "range.__reversed__") ⟨[.ref r],[]⟩)) (show wpAny _ _ (call (.builtin "range.__reversed__") [.ref r]) _ _ _ from A2v hr hn ?_)
 first
 | exact qe h
 | exact qd (qe (qe h))
theorem A3s (hr:IsRange s.heap r 0 n 1 t u v) (hn:(n:Int) < 2 ^ 62)
  (h:Q (.ref s.heap.objs.size) { s with heap:=s.heap.push (A7e n) }):wpAny (model prog w) A (call (.type "reversed") [.ref r]) Q E s:=by
 refine callType_other (U:="range_iterator") (Q₁:=λobj s₁=>obj=.ref s.heap.objs.size/\s₁={ s with heap:=s.heap.push (A7e n) }) (by decide +kernel) F.create_reversed ⟨_,_,F.mro_reversed⟩ F.made_reversed F.sub_ri_reversed (F.typeCall_reversed_1 _) (A4m hr hn ⟨rfl,rfl⟩) ?_;rintro obj s₁ ⟨rfl,rfl⟩;exact ⟨⟨_,qq _ rfl,rfl⟩,h⟩
end
end PySem
namespace L2
def Itw (n:Nat):It:=⟨λi H=>i < n,λi H x H'=>H'=H/\x=.int ((n:Int) - 1 - (i:Int)),λi H=>n<=i⟩
theorem B3d {w:World} {K:W.Frag} {tg:Expr} (it:Addr) (n:Nat):B3w P w K tg (Itw n) [it] it (λi h=>IsRangeIter h it (((n:Int) - 1)+(i:Nat)*(-1)) ((n:Int) - (i:Nat)) (-1)) where
 mem:=by simp
 obj:=λi h st b hb=>by
  have e:b=it:=by simpa using hb
  subst e;exact ⟨_,st,λv z=>by
   have z':Data.fields _=Data.cell v:=z;cases z'⟩
 keep:=λi h h' st k=>k it (by simp) _ st
 item:=by
  sleep 6;subst hP hw hK;sleep 9;have W:=Walks.range (prog:=X.prog) (w:=X.w) (I.ok.hd hc) it ((n:Int) - 1) (-1) n;refine W.item i s _ _ hg st λv h' tk hv st' kk=>?_;obtain ⟨t,rfl⟩:=hv;have I1:C0 X pins U H { s with heap:=h',toks:=tk }:=I.turned (λb o hb e=>kk b o (by simpa using hb) e) f0 f1 f3 f4 f5;refine ⟨_,rfl,B6n (s:={ s with heap:=h',toks:=tk }) (n:="range_iterator") st' rfl rfl (by decide) ⟨.int ((n:Int) - 1 - i),H,I1,⟨t,?_⟩,⟨rfl,rfl⟩,st',λb hb=>(hf b hb).1⟩⟩;congr 1;lia
 done:=by
  sleep 6;subst hP hw hK;sleep 9;exact wpAny_pyNext_range_end (I.ok.hd hc) st (by have:n<=i:=hg;lia) λh' eb=>⟨rfl,I.turned (t':=s.toks) (λb o hb e=>eb b o hb e) f0 f1 f3 f4 f5⟩
 self:=λ_ _ _ _ _ st h=>wpAny_pyIter_rangeiter st h
variable {a:Expr} {p2 p:Pos} {ta:TA}
section
variable {X:Cx} {tg:Expr}
def D17 (ta:TA):TI:=λU H R=>ta U H λvs H1=>∃ j:Nat,vs=[.int j]/\j<=1000000/\R (Itw j) H1
theorem C6l {pos:Pos} (hg:Gl X "reversed") (hm:X.mg "reversed"=none) (hg2:Gl X "range") (hm2:X.mg "range"=none) (ha:PA X [a] ta) (hs:starEach [a] X.env=[(false,eval a X.env)]:=by rfl)
  (hs2:starEach [.Call (.Name "range" p2) [a] [] pos2] X.env=[(false,eval (.Call (.Name "range" p2) [a] [] pos2) X.env)]:=by rfl) :
  PI X tg (.Call (.Name "reversed" p) [.Call (.Name "range" p2) [a] [] pos2] [] pos) (D17 ta):=by
 intro pins s U H R I h;refine Call_ (A04 I hg hm A8v (PyProof.Rows.callWith_type1 ?_ hs2 rfl));rw[hs2];show wpAny _ _ (spliced ((false,eval (.Call (.Name "range" p2) [a] [] pos2) X.env)::backTo pos [])) _ _ s;refine Calls.spliced_cons (Call_ (A04 I hg2 hm2 boot_range (PyProof.Rows.callWith_type1 (J9 (ha pos2 pins s U H _ I h) λus s1 ⟨vs,H1,I1,r1,q1⟩=>?_) hs rfl)));obtain ⟨j,e,hj,q⟩:=q1;subst e;cases r1 with
 | cons r rr =>
  cases rr;obtain ⟨t,rfl⟩:=r;refine call_range_1 ?_;refine Calls.spliced_nil ?_;refine A3s (IsRange.new ..) (by lia) ?_;have I2:C0 X pins U H1 { s1 with heap:=s1.heap.push { cls:=.type "range",data:=.fields #[.int 0 s1.toks,.int (j:Int) t,.int 1 (s1.toks+1)] },toks:=s1.toks+1+1 }:=I1.kept λb o e=>qc _ e;generalize (s1.heap.push { cls:=.type "range",data:=.fields #[.int 0 s1.toks,.int (j:Int) t,.int 1 (s1.toks+1)] })=hp at I2;have st:IsRangeIter (hp.push (A7e j)) hp.objs.size ((j:Int) - 1) (j:Int) (-1):=qq _ rfl;refine wpAny_pyIter_rangeiter st ?_;refine ⟨hp.objs.size,[hp.objs.size],_,_,H1,rfl,I2.kept (t':=s1.toks+1+1) λb o e=>qc _ e,B3d _ j,?_,λb hb=>?_,q⟩
  ·show IsRangeIter _ _ (((j:Int) - 1)+((0:Nat):Int)*(-1)) ((j:Int) - ((0:Nat):Int)) (-1);rw[show (((j:Int) - 1)+((0:Nat):Int)*(-1))=(j:Int) - 1 by lia,show ((j:Int) - ((0:Nat):Int))=(j:Int) by lia];exact st
  ·have e:b=hp.objs.size:=by simpa using hb
   subst e;exact I2.fpOk (qt _) (I2.hok.fresh (qt _))
theorem C0y {pos:Pos} (hg:Gl X "reversed") (hm:X.mg "reversed"=none) (hg2:Gl X "range") (hm2:X.mg "range"=none) (ha:QA X [a] ta) (hs:starEach [a] X.env=[(false,eval a X.env)]:=by rfl)
  (hs2:starEach [.Call (.Name "range" p2) [a] [] pos2] X.env=[(false,eval (.Call (.Name "range" p2) [a] [] pos2) X.env)]:=by rfl) :
  QI X tg (.Call (.Name "reversed" p) [.Call (.Name "range" p2) [a] [] pos2] [] pos) (D17 ta):=⟨C6l hg hm hg2 hm2 ha.h hs hs2⟩
end
end L2
local macro_rules | `(tactic| walk_at "rd") => `(tactic| simp only [L2.C7v, L2.C59, L2.C48, L2.D28, L2.D0e, L2.D7j, L2.C15, L2.B2i, L2.A19, L2.C51, L2.B6h, L2.C7i, L2.D21, L2.B0v, L2.tC, L2.tOp, L2.tUn, L2.C2z, L2.tB, L2.tCB, L2.A90, L2.A0j, L2.A77, L2.D3e, L2.D1c, L2.tIf, L2.C58, L2.tOr, L2.D1q, L2.C4h, L2.D15, L2.C0c, L2.D3g, L2.C4s, L2.ipI, L2.tLC, L2.B2o, L2.B3n, L2.tLR,
 L2.rI,L2.rI0,L2.rU,L2.rEq,L2.rNe,L2.D3f,L2.C4p,L2.A98,L2.B7u,L2.E2x,L2.B78,L2.C5u,L2.D7r,L2.D60,L2.D9w,L2.E10,L2.E11,L2.B6l,L2.C6o,L2.D50,L2.C3t,L2.C9o,L2.B9r,L2.A46,L2.A5a,L2.C1e,L2.D2p,L2.tBM,L2.E1q,L2.A8r,L2.N6,id,
 map_cons,List.map_nil,append_nil,nil_append,List.cons_append,List.getElem?_cons_zero,List.getElem?_cons_succ,List.set_cons_zero,List.set_cons_succ,Option.some.injEq,L2.V.int.injEq,L2.V.ref.injEq,L2.V.bl.injEq,L2.V.str.injEq,List.cons.injEq,and_true,true_and,exists_eq_left',exists_eq_left,exists_and_left,zw,Option.join_some,if_true,if_false])
namespace K72
open L2 DL
variable {T:List (List Int)} {H:Hp} {f a:Addr} {n j p t k q:Nat} {os r:List Int} {Q:VK} {A ms us:List Addr} {U:L2.St} {v:V} {y s l:Int} {N:MDet.Mat} {X:XD}
section
variable {P:Program} {w:World} {K:W.Frag} {mg:Str->Option Value} {base:Heap}
open M06 (Bt Shr Eu Ec mks ld red Mi Hy PI PO Td)
def tJn (t:TS):TS:=t
theorem D0o {X:Cx} {s:Stmt} {t:TS} (h:QS X s t):QS X s (tJn t):=h
theorem E0q {t:TS} {D:V0} (J:L2.St->Hp->Prop) (h1:∀ N:L2.St->Hp->Prop,(∀ U H,J U H->N U H)->t { D with nx:=N } U H) (h2:∀ U H,J U H->D.nx U H):tJn t D U H:=h1 D.nx h2
theorem A7n {r:Addr} {z:List Int} (h:H r=some (.lst (z.map V.int))):Dn K H (.ref r) (iD z):=by
 refine .lst h ?_;clear h
 induction z with
 | nil=>exact .nil
 | cons a z ih=>exact .cons (.int a) ih
theorem B5c {z:List Int} (h:Dn K H v (iD z)):∃ r,v=.ref r/\H r=some (.lst (z.map V.int)):=by
 obtain ⟨r,us,rfl,h1,h2⟩:=D9 h;have:=A4d h2 (ns:=z) (A9o z);subst this;exact ⟨r,rfl,h1⟩
theorem B1k {r:Addr} {z:List Int} {E:XK} (hr:H r=some (.lst (z.map V.int))) (h1:wd<=z.length) (h2:wd<=1000) (q:∀ H',A8 H H'->Q (.int (ld wd (gv z):Nat)) H'):G3 K A49 [.ref r,.int wd] H Q E:=by
 refine ⟨[iD z,.int wd],λd o=>d=.int (ld wd (gv z):Nat),Xf,.cons (A7n hr) (.cons (.int _) .nil),⟨z,wd,rfl,h1,h2,rfl⟩,λd o v H' e sm r=>?_,λ_ _ z _=>z.elim⟩;subst e;have hv:Dn K H' v (.int (ld wd (gv z):Nat)):=by
  cases o with
  | true=>obtain ⟨ms,h1,_⟩:=r;exact h1.den
  | false=>exact r
 cases hv;exact q H' sm
theorem A8g {r1 r2:Addr} {a b:List Int} {t:Int} {E:XK} (h1:H r1=some (.lst (a.map V.int))) (h2:H r2=some (.lst (b.map V.int))) (hl:a.length=b.length) (hk:a.length<=1000) (hm:∀ j,j < a.length->IntMulOk s (gv a j)/\IntMulOk t (gv b j)) (q:∀ p H',A8 H H'->H p=none->H' p=some (.lst ((bld a s b t).map V.int))->Q (.ref p) H'):G3 K A3a [.ref r1,.int s,.ref r2,.int t] H Q E:=by
 refine ⟨[iD a,.int s,iD b,.int t],λd o=>d=iD (bld a s b t)/\o=true,Xf,.cons (A7n h1) (.cons (.int _) (.cons (A7n h2) (.cons (.int _) .nil))),⟨a,b,s,t,rfl,hl,hk,hm,rfl,rfl⟩,λd o v H' e sm r=>?_,λ_ _ z _=>z.elim⟩;obtain ⟨rfl,rfl⟩:=e;obtain ⟨ms,ow,nd,fr⟩:=r;obtain ⟨p,rfl,hp⟩:=B5c ow.den;unfold iD at ow;cases ow with
 | lst g1 g2 =>
  exact q p H' sm (fr p qx) hp
theorem C1d {r b:Addr} {z:List Int} {w a x e:Nat} {E:XK} (hr:H r=some (.lst (z.map V.int))) (hb:H b=some (.lst (ts.map V.ref))) (hT:Dns K H (ts.map V.ref) (T.map iD)) (Oi:C70 w wd k a x e z T)
  (q:∀ p z' H',A8 H H'->H' p=some (.lst (z'.map V.int))->z'.length=w->(∀ j,gv z' j=mks wd (gv z) (T.map gv) j)->(∀ j,j < w->Bt (e+(a+k*(x+2))+1+k) (gv z' j))->Q (.ref p) H'):G3 K A8l [.ref r,.ref b,.int wd] H Q E:=by
 refine ⟨[iD z,gD T,.int wd],λd o=>∃ z':List Int,d=iD z'/\z'.length=w/\(∀ j,gv z' j=mks wd (gv z) (T.map gv) j)/\(∀ j,j < w->Bt (e+(a+k*(x+2))+1+k) (gv z' j)),Xf,.cons (A7n hr) (.cons (.lst hb hT) (.cons (.int _) .nil)),⟨w,wd,k,a,x,e,z,T,rfl,Oi,λz' h1 h2 h3=>⟨z',rfl,h1,h2,h3⟩⟩,λd o v H' e sm r=>?_,λ_ _ z _=>z.elim⟩;obtain ⟨z',rfl,h1,h2,h3⟩:=e;have hv:Dn K H' v (iD z'):=by
  cases o with
  | true=>obtain ⟨ms,g1,_⟩:=r;exact g1.den
  | false=>exact r
 obtain ⟨p,rfl,hp⟩:=B5c hv;exact q p z' H' sm hp h1 h2 h3
theorem C92 {a b:Int} {E:XK} (ha:0 < a) (ba:Bt c a) (bb:Bt c b) (hc:c<=60000000) (q:∀ g s t p H',Shr a b g s t->A8 H H'->SqT K H' p [.int g,.int s,.int t]->Q (.ref p) H'):G3 K A8k [.int a,.int b] H Q E:=by
 refine ⟨[.int a,.int b],λd o=>∃ g s t,d=.tuple [.int g,.int s,.int t]/\Shr a b g s t,Xf,.cons (.int _) (.cons (.int _) .nil),⟨a,b,c,rfl,ha,ba,bb,hc,λg s t h=>⟨g,s,t,rfl,h⟩⟩,λd o v H' e sm r=>?_,λ_ _ z _=>z.elim⟩;obtain ⟨g,s,t,rfl,h⟩:=e;have hv:Dn K H' v (.tuple [.int g,.int s,.int t]):=by
  cases o with
  | true=>obtain ⟨ms,g1,_⟩:=r;exact g1.den
  | false=>exact r
 cases hv with
 | tup h1 h2 =>
  rename_i p us;cases h2 with
  | cons q1 q2 =>
   cases q1;cases q2 with
   | cons q3 q4 =>
    cases q3;cases q4 with
    | cons q5 q6 =>
     cases q5;cases q6;exact q g s t p H' h sm h1
inductive L7 (H:Hp):List Addr->List (List Int)->Prop
 | nil:L7 H [] []
 | cons {r:Addr} {z:List Int} {ts:List Addr} {T:List (List Int)}:H r=some (.lst (z.map V.int))->L7 H ts T->L7 H (r::ts) (z::T)
theorem L7.len (R:L7 H ts T):ts.length=T.length:=by
 induction R with
 | nil=>rfl
 | cons _ _ ih=>rw[length_cons,length_cons,ih]
theorem L7.dns (R:L7 H ts T):Dns K H (ts.map V.ref) (T.map iD):=by
 induction R with
 | nil=>exact .nil
 | cons h _ ih=>exact .cons (A7n h) ih
theorem L7.keep {H':Hp} (R:L7 H ts T) (e:∀ r∈ts,∀ o,H r=some o->H' r=some o):L7 H' ts T:=by
 induction R with
 | nil=>exact .nil
 | cons h _ ih=>exact .cons (e _ qx _ h) (ih λr hr=>e r (qy _ hr))
theorem L7.same {H':Hp} (R:L7 H ts T) (e:A8 H H'):L7 H' ts T:=R.keep λr _ o h=>e r o h
theorem L7.get (R:L7 H ts T) {i:Nat} {z:List Int} (h:T[i]?=some z):∃ r,ts[i]?=some r/\H r=some (.lst (z.map V.int)):=by
 induction R generalizing i with
 | nil=>simp at h
 | cons h1 _ ih =>
  cases i with
  | zero=>simp at h;subst h;exact ⟨_,rfl,h1⟩
  | succ i=>exact ih (by simpa using h)
theorem L7.set (R:L7 H ts T) {p:Addr} {z:List Int} (h:H p=some (.lst (z.map V.int))) (i:Nat):L7 H (ts.set i p) (T.set i z):=by
 induction R generalizing i with
 | nil=>exact .nil
 | cons h1 h2 ih =>
  cases i with
  | zero=>exact .cons h h2
  | succ i=>exact .cons h1 (ih i)
theorem L7.drop (R:L7 H ts T) (n:Nat):L7 H (ts.drop n) (T.drop n):=by
 induction R generalizing n with
 | nil=>rw[List.drop_nil,List.drop_nil];exact .nil
 | cons h1 h2 ih =>
  cases n with
  | zero=>exact .cons h1 h2
  | succ n=>exact ih n
theorem L7.insert (R:L7 H ts T) {p:Addr} {z:List Int} (h:H p=some (.lst (z.map V.int))) (i:Nat):L7 H (ts.insertIdx i p) (T.insertIdx i z):=by
 induction R generalizing i with
 | nil =>
  cases i with
  | zero=>exact .cons h .nil
  | succ i=>exact .nil
 | cons h1 h2 ih =>
  cases i with
  | zero=>exact .cons h (.cons h1 h2)
  | succ i=>exact .cons h1 (ih i)
abbrev A7l:Stmt:=top 24
theorem L9:C2 ["stairs","row","width","at","column","stair","common","s","t","below"] ["stairs","row","width"] (B1 A7l):=by walk_at "sc"
structure E1a (w wd Y X C D E K:Nat) (g:List Int) (T:List (List Int)):Prop where
 gl:g.length=w
 tl:∀ z∈T,z.length=w
 wl:wd<=w
 w1:w<=1000
 hy:Hy wd (T.map gv) (gv g) Y X C D
 bE:∀ u∈gv g::T.map gv,∀ j,j < w->Bt E (u j)
 hK:2*Y+9*X+40<=K
 bits:2*(E+10*K)+1000<=134217728
theorem A0b {z:List Int} (h:j < z.length):atI (z.map V.int) ((j:Nat):Int)=some (.int (gv z j)):=B9 (by
 rw[qp,zd h];unfold gv;rw[getD_eq_getElem?_getD,zd h];rfl)
theorem A3f {p:Addr} {z:List Int} (hp:H p=some (.lst (z.map V.int))) (ha:H a=some (.lst (ts.map V.ref))) (hz:1<=z.length):p≠a:=by
 rintro rfl;rw[hp] at ha;have e:z.map V.int=ts.map V.ref:=by injection ha with e;injection e
 cases z with
 | nil=>exact absurd hz (by simp)
 | cons x z =>
  cases ts with
  | nil=>cases e
  | cons t ts=>rw[map_cons,map_cons] at e;injection e with e _;cases e
theorem B5n {α:Type} {l:List α} {y:α} (h:k<=l.length):l.take k++[y]++l.drop k=l.insertIdx k y:=by
 induction l generalizing k with
 | nil => have : k = 0 := by simpa using h
          subst this;rfl
 | cons x l ih =>
  cases k with
  | zero=>rfl
  | succ k=>simp only[List.take_succ_cons,List.drop_succ_cons,List.cons_append,List.insertIdx_succ_cons];rw[<-ih (by simpa using h)]
def Sm1 (a:Addr) (H H':Hp):Prop:=∀ b o,b≠a->H b=some o->H' b=some o
def A8j:Sp:=λvs H Q _=>∃ (a r:Addr) (wd w Y X C D E K:Nat) (g:List Int) (T:List (List Int)) (ts:List Addr),vs=[.ref a,.ref r,.int wd]/\H a=some (.lst (ts.map V.ref))/\L7 H ts T/\a∉ts/\H r=some (.lst (g.map V.int))/\r≠a/\E1a w wd Y X C D E K g T /\
 ∀ (v:V) (H':Hp) (ts':List Addr) (T':List (List Int)) (lo:Option (List Int)),Sm1 a H H'->H' a=some (.lst (ts'.map V.ref))->L7 H' ts' T'->a∉ts'->(∀ z∈T',z.length=w)->PO wd w (T.map gv) (gv g) X (E+8*K) (T'.map gv) (lo.map gv) ->
  (ld wd (gv g)=wd->T'=T/\lo=some g)->(match lo with|none=>v=.non|some z=>z.length=w/\∃ p,v=.ref p/\p≠a/\H' p=some (.lst (z.map V.int)))->Q v H'
abbrev PW (a:Addr) (wd w' Y X C D E1 K1:Nat) (g:List Int) (T0:List (List Int)) (H:Hp):Nat->L2.St->Hp->Prop:=λm U H2=>∃ (p at_:Nat) (r':Addr) (v:List Int) (ts':List Addr) (T':List (List Int)) (x:Int) (x5 x6 x7 x8 x9:Option V),U=[some (.ref a),some (.ref r'),some (.int wd),some (.int at_),some (.int (ld wd (gv v):Nat)),x5,x6,x7,x8,x9]/\m=T0.length+1 - p/\at_<=p/\H2 a=some (.lst (ts'.map V.ref))/\L7 H2 ts' T'/\a∉ts'/\H2 r'=some (.lst (v.map V.int))/\r'≠a/\Sm1 a H H2/\v.length=w'/\(∀ z∈T',z.length=w')/\PI wd w' (T0.map gv) (gv g) Y X C D E1 K1 p (T'.map gv) (gv v) x/\(ld wd (gv g)=wd->T'=T0/\v=g)
theorem B86 (F:W5 K "put_in" "put_in" A7l f fd) (T:Blt mg) (hT:P.given.tree=none) (D_lead:Df P w K mg base "lead" ["row","width"] 41 (G3 K A49)) (D_blended:Df P w K mg base "blended" ["one","s","other","t"] 41 (G3 K A3a)) (D_made_small:Df P w K mg base "made_small" ["row","stairs","width"] 42 (G3 K A8l)) (D_common_shares:Df P w K mg base "common_shares" ["one","other"] 41 (G3 K A8k)):J5 P w K mg base CX0 43 f fd ["stairs","row","width"] A8j:=by
 refine F.ok L9 (λvs H Q E h=>?_) (λcdv A outer s H vs Q E hr h=>?_)
 ·obtain ⟨a,r,wd,w,Y,X,C,D,E,K,g,T,ts,rfl,_⟩:=h;rfl
 obtain ⟨a,r,wd,w',Y,X,C,D,E1,K1,g,T0,ts,rfl,ha,hR,hat,hg,hra,Oi,q⟩:=h;refine qmk (B3 (S7 3 L9.nd N2)
   (B3 (S7 4 L9.nd (J1 (by exact D_lead) (by exact hr.mono (by decide)) (A2 (D1 1) (A2 (D1 2) B5))))
   (B3 (A2n PassesOwn.never (S9 B7a (D1 4) (D1 2) (B6 _)) (B3 (D0o (A2n PassesOwn.never (C2u (B7j (S9 B7a (D1 3) (K6 (P4 K (by rfl)) (by rfl) (by exact T.len) (by decide +kernel) (A2 (D1 0) B5)) (B6 _)) (B28 (S9 B7a (J1 (by exact D_lead) (by exact hr.mono (by decide)) (A2 (G7 (C9 K (by rfl)) (D1 0) (D1 3) (λ_ _=>rfl)) (A2 (D1 2) B5))) (D1 4) (B6 _))))) (J8 (C8r (i:=3) L9.nd rfl (by first|exact Or.inl rfl|exact Or.inr rfl) N2 C0o))))
   (B3 (B1b (C2u (C24 (S9 D88 (D1 3) (K6 (P4 K (by rfl)) (by rfl) (by exact T.len) (by decide +kernel) (A2 (D1 0) B5)) (B6 _)) (B64 (S9 C2b (J1 (by exact D_lead) (by exact hr.mono (by decide)) (A2 (G7 (C9 K (by rfl)) (D1 0) (D1 3) (λ_ _=>rfl)) (A2 (D1 2) B5))) (D1 4) (B6 _))))) (B3 (X4 (B36 K (by rfl) (D1 0) (D1 3) (A94 (S9 C2b (G7 (C9 K (by rfl)) (D1 1) (D1 4) (λ_ _=>rfl)) N2 (B6 _)) (D1 1) (J1 (by exact D_blended) (by exact hr.mono (by decide)) (A2 (D1 1) (A2 (A7r A83 N2) (A2 (D1 1) (A2 N2 B5)))))) (by rfl) (by rfl) (by rfl) (by rfl) (by rfl)))
   (J8 (A41 B6m))) A4f)
   (B3 (S7 5 L9.nd (G7 (C9 K (by rfl)) (D1 0) (D1 3) (λ_ _=>rfl)))
   (B3 (O7 (J1 (by exact D_common_shares) (by exact hr.mono (by decide)) (A2 (G7 (C9 K (by rfl)) (D1 5) (D1 4) (λ_ _=>rfl)) (A2 (G7 (C9 K (by rfl)) (D1 1) (D1 4) (λ_ _=>rfl)) B5))) (X2 K 3 (by rfl) (by rfl) (D8 (U8 6 L9.nd) (D8 (U8 7 L9.nd) (D8 (U8 8 L9.nd) T1))) (by rfl) (by rfl)))
   (B3 (S7 9 L9.nd (A0r (A4c K (by rfl)) (D1 0) (A22 (P8 B1n (D1 3) N2)) A1o))
   (B3 (O7 (J1 (by exact D_made_small) (by exact hr.mono (by decide)) (A2 (J1 (by exact D_blended) (by exact hr.mono (by decide)) (A2 (D1 5) (A2 (D1 7) (A2 (D1 1) (A2 (D1 8) B5))))) (A2 (D1 9) (A2 (D1 2) B5)))) (V5 (D1 0) (D1 3) Q2))
   (B3 (S7 1 L9.nd (J1 (by exact D_blended) (by exact hr.mono (by decide)) (A2 (D1 1) (A2 (P8 (V9 ⟨⟨_,_,rfl,rfl,rfl,rfl,rfl⟩⟩ (by exact hT) (by exact hr.pyl)) (G7 (C9 K (by rfl)) (D1 5) (D1 4) (λ_ _=>rfl)) (D1 6)) (A2 (D1 5) (A2 (A7r A83 (P8 (V9 ⟨⟨_,_,rfl,rfl,rfl,rfl,rfl⟩⟩ (by exact hT) (by exact hr.pyl)) (G7 (C9 K (by rfl)) (D1 1) (D1 4) (λ_ _=>rfl)) (D1 6))) B5))))))
   (B3 (S7 1 L9.nd (J1 (by exact D_made_small) (by exact hr.mono (by decide)) (A2 (D1 1) (A2 (D1 9) (A2 (D1 2) B5)))))
   (J8 (S7 4 L9.nd (J1 (by exact D_lead) (by exact hr.mono (by decide)) (A2 (D1 1) (A2 (D1 2) B5))))))))))))))
   (J8 (A41 (D1 1)))))) ?_
 show (_:TS) _ [some (.ref a),some (.ref r),some (.int wd),none,none,none,none,none,none,none] H;walk_at "rd";have O1:=Oi.w1;have O2:=Oi.wl;have O3:=Oi.gl;have O4:=Oi.hy.len;have O5:=Oi.bits;have O6:=Oi.hK;rw[qk] at O4;refine B1k hg (by lia) (by lia) λH1 sm1=>?_;refine ⟨PW a wd w' Y X C D E1 K1 g T0 H,
  ⟨_,0,0,r,g,ts,T0,1,_,_,_,_,_,rfl,rfl,qt _,sm1 _ _ ha,hR.same sm1,hat,sm1 _ _ hg,hra,λb o _ h=>sm1 _ _ h,O3,Oi.tl,.start Oi.hy Oi.bE,λ_=>⟨rfl,rfl⟩⟩,?_⟩
 rintro m U H2 ⟨p,at_,r',v,ts',T',x,x5,x6,x7,x8,x9,rfl,rfl,hap,ha2,hR2,hat2,hv2,hra2,sm2,hvl,htl,I,hz⟩;walk_at "rd";have hTl:T'.length=T0.length:=by have:=I.len;simpa using this
 have htsl:=hR2.len;by_cases hlt:ld wd (gv v) < wd
 ·rw[qr (by simpa using hlt)];refine ⟨_,λU' H' h=>h,?_⟩;refine E0q (λU H3=>∃ at1:Nat,U=[some (.ref a),some (.ref r'),some (.int wd),some (.int at1),some (.int (ld wd (gv v):Nat)),x5,x6,x7,x8,x9]/\at1<=T'.length/\A8 H2 H3/\(∀ (i:Nat) (u:List Int),i < at1->T'[i]?=some u->ld wd (gv u) < ld wd (gv v))/\(∀ u,T'[at1]?=some u->ld wd (gv v)<=ld wd (gv u))) (λN hN=>?_) ?_
  ·refine ⟨λm U H3=>∃ at1:Nat,U=[some (.ref a),some (.ref r'),some (.int wd),some (.int at1),some (.int (ld wd (gv v):Nat)),x5,x6,x7,x8,x9]/\m=T'.length+1 - at1/\at1<=T'.length/\A8 H2 H3/\∀ (i:Nat) (u:List Int),i < at1->T'[i]?=some u->ld wd (gv u) < ld wd (gv v),⟨_,at_,rfl,rfl,by have:=I.ple;rw[qk] at this;lia,A8.refl _,λi u hi hu=>?_⟩,?_⟩
   ·obtain ⟨t,ht⟩:∃ t,(T0.map gv)[i]?=some t:=⟨_,zd (by rw[qk];have:=(ql.mp hu).1;lia)⟩;rw[M06.A11 I.lds (by rw[qp,hu];rfl) ht];exact I.low i t (by lia) ht
   rintro m U H3 ⟨at1,rfl,rfl,hat1,sm3,hlow⟩;walk_at "rd";refine ⟨_,.inl (E6.of (sm3 _ _ ha2)),?_⟩;rw[qk,htsl];by_cases h1:at1 < T'.length
   ·rw[qr (by lia)];obtain ⟨u,hu⟩:∃ u,T'[at1]?=some u:=⟨_,zd h1⟩;obtain ⟨ru,hru1,hru2⟩:=hR2.get hu;have hul:=htl u (zx hu);refine ⟨_,E6.of (sm3 _ _ ha2),_,B9 (by rw[qp,hru1];rfl),B1k (sm3 _ _ hru2) (by lia) (by lia) λH4 sm4=>⟨_,rfl,?_⟩⟩;by_cases h2:ld wd (gv u) < ld wd (gv v)
    ·rw[qr (by lia)];refine ⟨_,λU' H' h=>h,_,by lia,at1+1,rfl,rfl,by lia,sm3.trans sm4,λi u' hi hu'=>?_⟩;by_cases e:i=at1
     ·subst e;rw[hu] at hu';cases hu';exact h2
     ·exact hlow i u' (by lia) hu'
    ·rw[qs (by lia)];exact hN _ _ ⟨at1,rfl,hat1,sm3.trans sm4,hlow,λu' hu'=>by rw[hu] at hu';cases hu';lia⟩
   ·rw[qs (by lia)];exact hN _ _ ⟨at1,rfl,hat1,sm3,hlow,λu' hu'=>by have:=(ql.mp hu').1;lia⟩
  rintro U H3 ⟨q0,rfl,hq0,sm3,hlow,hhi⟩;have ha3:=sm3 _ _ ha2;have hR3:=hR2.same sm3;have hv3:=sm3 _ _ hv2;have smA:Sm1 a H H3:=λb o hb h=>sm3 _ _ (sm2 b o hb h);have hpq:p<=q0:=Classical.byContradiction λz=>by
   obtain ⟨u,hu⟩:∃ u,T'[q0]?=some u:=⟨_,zd (by have:=I.ple;rw[qk] at this;lia)⟩;obtain ⟨t,ht⟩:∃ t,(T0.map gv)[q0]?=some t:=⟨_,zd (by rw[qk];have:=(ql.mp hu).1;lia)⟩;have h1:=I.low q0 t (by lia) ht;rw[<-M06.A11 I.lds (show (T'.map gv)[q0]?=some (gv u) by rw[qp,hu];rfl) ht] at h1;have:=hhi u hu;lia
  have J:=I.skip (q:=q0) (by rw[qk];lia) hpq λi u hi hu=>by
   rw[qp] at hu;obtain ⟨z,h1,rfl⟩:=Option.map_eq_some_iff.mp hu;exact hlow i z hi h1
  have hw1:1<=v.length:=by lia
  have hzf:¬ ld wd (gv g)=wd:=λz=>by have:=(hz z).2;rw[this] at hlt;lia
  have ins:∀ H4,A8 H3 H4->(∀ u,T'[q0]?=some u->ld wd (gv v) < ld wd (gv u))->tyV K "list" (V.ref a) H4/\∃ x,E6 K H4 r' x/\∃ x_1,atI x ((ld wd (gv v):Nat):Int)=some x_1/\∃ i,x_1=V.int i/\if 0 < i then A2h (V.ref a) [V.int (q0:Int),V.ref r'] H4 λx H1=>Q V.non H1 else G3 K A3a [V.ref r',V.int (-1),V.ref r',V.int 0] H4 (λx H1=>A2h (V.ref a) [V.int (q0:Int),x] H1 λx H1=>Q V.non H1) E0:=λH4 sm4 hu=>by
   have ha4:=sm4 _ _ ha3;have hv4:=sm4 _ _ hv3;have fin:∀ (p:Addr) (v2:List Int) (H5:Hp),A8 H4 H5->H5 p=some (.lst (v2.map V.int))->v2.length=w'->(∀ j,gv v2 j=if 0 < gv v (ld wd (gv v)) then gv v j else -(gv v j))->A2h (V.ref a) [V.int (q0:Int),V.ref p] H5 λx H1=>Q V.non H1:=λp v2 H5 sm5 hp hl2 hv2'=>by
    have ha5:=sm5 _ _ ha4;have hpa:=A3f hp ha5 (by lia);refine ⟨a,ts'.map V.ref,q0,.ref p,rfl,rfl,ha5,by lia,by rw[qk];lia,Q1 (by rw[qk];lia),?_⟩;rw[Int.toNat_natCast,show (ts'.map V.ref).take q0++[V.ref p]++(ts'.map V.ref).drop q0=(ts'.insertIdx q0 p).map V.ref by
     rw[<-B5n (by lia),map_append,map_append,List.map_take,map_drop];rfl]
    have R5:=(hR3.same (sm4.trans sm5)).insert hp q0;have hn:a∉ts'.insertIdx q0 p:=λz=>by
     rcases (List.mem_insertIdx (by lia)).mp z with z|z
     ·exact hpa z.symm
     ·exact hat2 z
    have P0:=J.insert (by rw[qk];exact O4) hlt (λu hu'=>by
     rw[qp] at hu';obtain ⟨z,h1,rfl⟩:=Option.map_eq_some_iff.mp hu';exact hu z h1) hv2'
    rw[show (T'.map gv).insertIdx q0 (gv v2)=(T'.insertIdx q0 v2).map gv by
     rw[<-B5n (by rw[qk];lia),<-B5n (by lia),map_append,map_append,List.map_take,map_drop];rfl] at P0
    refine q _ _ (ts'.insertIdx q0 p) (T'.insertIdx q0 v2) none (λb o hb h=>?_) B7 (R5.keep λr hr o h=>?_) hn (λz hz'=>?_) P0 (λz=>absurd z hzf) rfl
    ·rw[B4 hb];exact sm5 _ _ (sm4 _ _ (smA b o hb h))
    ·rw[B4 (λe=>hn (by rw[<-e];exact hr))];exact h
    ·rcases (List.mem_insertIdx (by lia)).mp hz' with z|z
     ·rw[z];exact hl2
     ·exact htl _ z
   refine ⟨tyl (E6.of ha4),_,E6.of hv4,_,A0b (by lia),_,rfl,?_⟩;by_cases h0:0 < gv v (ld wd (gv v))
   ·rw[qr h0];exact fin r' v H4 (A8.refl _) hv4 hvl λj=>by rw[qr h0]
   ·rw[qs h0];refine A8g hv4 hv4 rfl (by lia) (λj _=>⟨A5z.ok (.inl ⟨by decide,by decide⟩),A5z.ok (.inl ⟨by decide,by decide⟩)⟩) λp H5 sm5 fr hp=>?_;exact fin p _ H5 sm5 hp (by rw[W6 rfl];exact hvl) λj=>by rw[qs h0,W4 rfl];lia
  walk_at "rd";refine ⟨_,.inl (E6.of ha3),?_⟩;rw[qk,htsl];by_cases hq:q0=T'.length
  ·rw[qr (by lia)];exact ins H3 (A8.refl _) λu hu=>by have:=(ql.mp hu).1;lia
  rw[qs (by lia)];obtain ⟨u,hu⟩:∃ u,T'[q0]?=some u:=⟨_,zd (by lia)⟩;obtain ⟨ru,hru1,hru3⟩:=hR3.get hu;have hum:=zx hu;have hul:=htl u hum;have rua:ru≠a:=λe=>hat2 (e ▸ zx hru1);refine ⟨_,E6.of ha3,_,B9 (by rw[qp,hru1];rfl),B1k hru3 (by lia) (by lia) λH4 sm4=>⟨_,rfl,?_⟩⟩;by_cases hgt:ld wd (gv v) < ld wd (gv u)
  ·rw[qr (by lia)];exact ins H4 sm4 λu' hu'=>by rw[hu] at hu';cases hu';exact hgt
  rw[qs (by lia)];have hc:ld wd (gv u)=ld wd (gv v):=by have:=hhi u hu;lia
  have hguT:(T'.map gv)[q0]?=some (gv u):=by rw[qp,hu];rfl
  obtain ⟨pa1,pa2⟩:=J.ec.pos (gv u) (zx hguT);rw[hc] at pa2;have huH:(T0.map gv)[q0]?=some (gv u):=by rw[<-M06.B20 J (qt q0)];exact hguT
  have aD:Bt Y (gv u (ld wd (gv v))):=by
   have:=M06.A3g Oi.hy.ec Oi.hy.prod (zx huH);rw[hc] at this;exact this.up Oi.hy.DY
  have bY:Bt Y (gv v (ld wd (gv v))):=by
   have:=J.rd q0 (gv u) (qt q0) huH
   rwa [hc] at this
  refine ⟨_,E6.of (sm4 _ _ ha3),_,B9 (by rw[qp,hru1];rfl),ru,rfl,_,E6.of (sm4 _ _ hru3),_,A0b (by lia),_,E6.of (sm4 _ _ hv3),_,A0b (by lia),C92 pa2 aD bY (by lia) λg0 s t pt H5 S sm5 hpt=>?_⟩;refine ⟨pt,rfl,_,hpt,rfl,_,_,rfl,_,_,rfl,_,_,rfl,rfl,?_⟩;have sm35:=sm4.trans sm5;sleep 39;walk_at "rd";have ha5:=sm35 _ _ ha3;refine ⟨_,E6.of ha5,λbb hbb=>?_⟩;have ecut:A6u (ts'.map V.ref) (some ((q0:Int)+1)) none=(ts'.drop (q0+1)).map V.ref:=by
   rw[B4t (by lia) (by rw[qk];lia),show ((q0:Int)+1).toNat=q0+1 by lia,map_drop]
  rw[ecut];have hab:bb≠a:=λe=>by rw[e,ha5] at hbb;cases hbb
  have sm6:A8 H5 (E5 H5 bb (.lst ((ts'.drop (q0+1)).map V.ref))):=A8.new hbb;have hb6:E5 H5 bb (.lst ((ts'.drop (q0+1)).map V.ref)) bb=some (.lst ((ts'.drop (q0+1)).map V.ref)):=B7;generalize E5 H5 bb (.lst ((ts'.drop (q0+1)).map V.ref))=H6 at *;have sm36:=sm35.trans sm6;have PB:=J.pb Oi.hy hguT hc S;have q8:q0<=8:=by lia
  have hqK:q0*K1<=8*K1:=Nat.mul_le_mul_right _ q8;have hYK:2*Y+9*X<=K1:=by lia
  have dropmem:∀ z∈T'.drop (q0+1),z∈T':=λz hz'=>mem_of_mem_drop hz';have inB:∀ z∈T'.drop (q0+1),gv z∈gv u::gv v::(T'.map gv).drop (q0+1):=λz hz'=>by
   rw[<-map_drop];exact qy _ (qy _ (zg.mpr ⟨z,hz',rfl⟩))
  have mkB:∀ r:List Int,r.length=w'->(∀ j,j < wd->Bt (X+Y+3) (gv r j))->(∀ j,j < w'->Bt (E1+q0*K1+Y+3) (gv r j))->C70 w' wd 8 (X+Y+3) X (E1+q0*K1+Y+3) r (T'.drop (q0+1)):=λr h1 h2 h3 =>
   ⟨h1,λz hz'=>htl z (dropmem z hz'),O2,O1,by rw[length_drop];lia,qt 8,by rw[map_drop];exact J.ec.drop _,h2,h3,λz hz'=>(PB.bB _ (inB z hz')).1,λz hz' j hj=>((PB.bB _ (inB z hz')).2 j hj).up (by lia),by lia⟩
  have uB:=PB.bB (gv u) qx;have vB:=PB.bB (gv v) (qy _ qx);refine A8g (sm36 _ _ hru3) (sm36 _ _ hv3) (by lia) (by lia) (λj hj=>⟨A1l PB.s1 (uB.2 j (by lia)) (by lia),A1l PB.t1 (vB.2 j (by lia)) (by lia)⟩) λp1 H7 sm7 fr1 hp1=>?_;have l1:(bld u s v t).length=w':=by rw[W6 (by lia)];exact hul
  refine C1d hp1 (sm7 _ _ hb6) ((hR3.same (sm36.trans sm7)).drop (q0+1)).dns (mkB _ l1 (λj hj=>by rw[W4 (by lia)];exact PB.u1 j hj) (λj hj=>by rw[W4 (by lia)];exact PB.ue j hj)) λp2 z2 H8 sm8 hp2 hl2 e2 b2=>?_;have sm38:=(sm36.trans sm7).trans sm8;have ha8:=sm38 _ _ ha3;have p2a:=A3f hp2 ha8 (by lia);have out:∀ b o,b≠a->H8 b=some o->E5 H8 a (.lst ((ts'.map V.ref).set q0 (.ref p2))) b=some o:=λb o hb h=>by rw[B4 hb];exact h
  have ha9:E5 H8 a (.lst ((ts'.map V.ref).set q0 (.ref p2))) a=some (.lst ((ts'.set q0 p2).map V.ref)):=by rw[B7,map_set]
  have R9:L7 (E5 H8 a (.lst ((ts'.map V.ref).set q0 (.ref p2)))) (ts'.set q0 p2) (T'.set q0 z2):=((hR3.same sm38).set hp2 q0).keep λr hr o h=>out r o (λe=>by
   rcases mem_or_eq_of_mem_set hr with hr|hr
   ·exact hat2 (by rw[<-e];exact hr)
   ·exact p2a (by rw[<-hr,e])) h
  have hu9:=out _ _ rua (sm38 _ _ hru3);have hv9:=out _ _ hra2 (sm38 _ _ hv3);have hb9:=out _ _ hab (sm8 _ _ (sm7 _ _ hb6));have R9d:L7 (E5 H8 a (.lst ((ts'.map V.ref).set q0 (.ref p2)))) (ts'.drop (q0+1)) (T'.drop (q0+1)):=((hR3.same sm38).drop (q0+1)).keep λr hr o h=>out r o (λe=>hat2 (by rw[<-e];exact mem_of_mem_drop hr)) h;refine ⟨_,ha8,q0,J6 (by rw[qk];lia),_,E6.of hu9,_,A0b (by lia),_,rfl,by have:=S.g0;lia,_,E6.of hv9,_,A0b (by lia),_,rfl,by have:=S.g0;lia,?_⟩;rw[Int.fdiv_eq_ediv_of_nonneg _ (Int.le_of_lt S.g0),Int.fdiv_eq_ediv_of_nonneg _ (Int.le_of_lt S.g0)];generalize E5 H8 a (.lst ((ts'.map V.ref).set q0 (.ref p2)))=H9 at *;refine A8g hv9 hu9 (by lia) (by lia) (λj hj=>⟨A1l PB.a1 (vB.2 j (by lia)) (by lia),A1l PB.b1.neg (uB.2 j (by lia)) (by lia)⟩) λp3 H10 sm10 fr3 hp3=>?_;refine C1d hp3 (sm10 _ _ hb9) (R9d.same sm10).dns (mkB _ (by rw[W6 (by lia)];exact hvl) (λj hj=>by rw[W4 (by lia)];exact PB.v1 j hj) (λj hj=>by rw[W4 (by lia)];exact PB.ve j hj)) λp4 z4 H11 sm11 hp4 hl4 e4 b4=>?_;refine B1k hp4 (by lia) (by lia) λH12 sm12=>?_;have sm912:=(sm10.trans sm11).trans sm12;have J':=J.pass Oi.hy O6 hguT hc S (u2:=gv z2) (v2:=gv z4) (λj=>by
   rw[e2,<-map_drop];exact M06.A57 (λj=>W4 (by lia) j) j) (λj=>by
   rw[e4,<-map_drop];exact M06.A57 (λj=>W4 (by lia) j) j) (λj hj=>(b2 j hj).up (by lia)) (λj hj=>(b4 j hj).up (by lia))
  rw[<-map_set] at J';have hp4a:=A3f (sm12 _ _ hp4) (sm912 _ _ ha9) (by lia);refine ⟨T0.length+1 - (q0+1),by lia,q0+1,q0,p4,z4,ts'.set q0 p2,T'.set q0 z2,_,_,_,_,_,_,rfl,rfl,by lia,sm912 _ _ ha9,R9.same sm912,λhm=>?_,sm12 _ _ hp4,hp4a,λb o hb h=>sm912 _ _ (out b o hb (sm38 _ _ (smA b o hb h))),hl4,λz hz'=>?_,J',λz=>absurd z hzf⟩
  ·rcases mem_or_eq_of_mem_set hm with hm|hm
   ·exact hat2 hm
   ·exact p2a hm.symm
  ·rcases mem_or_eq_of_mem_set hz' with hz'|hz'
   ·exact htl z hz'
   ·rw[hz'];exact hl2
 ·rw[qs (by simpa using hlt)];exact q _ _ ts' T' (some v) sm2 ha2 hR2 hat2 htl (by
   have:=I.left (by rw[qk];exact O4) hlt;exact this) (λh=>⟨(hz h).1,by rw[(hz h).2]⟩) ⟨hvl,r',rfl,hra2,hv2⟩
open M06 (Bt Shr Eu Ec mks ld red Mi Hy PI PO Td Ti pv)
theorem C71 {g:TG} {tb:TS} {D:V0} (Pv:Nat->L2.St->Hp->Prop) (h0:Pv 0 U H)
  (hs:∀ i U H,i < n->Pv i U H->g (.int ((n:Int) - 1 - (i:Int))) U H λσ2 H2=>tb { D with nx:=Pv (i+1),ct:=Pv (i+1),bk:=D.nx } σ2 H2) (hd:∀ U H,Pv n U H->D.nx U H):A45 (Itw n) g tb D U H:=by
 refine ⟨λi m U H=>m=n - i/\i<=n/\Pv i U H,⟨n,by simp,jb _,h0⟩,?_⟩;rintro i m U H ⟨rfl,hi,p⟩;by_cases hlt:i < n
 ·refine .inr ⟨hlt,Pv (i+1),λU' H' p'=>⟨n - (i+1),by lia,rfl,hlt,p'⟩,λx H' y=>?_⟩;obtain ⟨rfl,rfl⟩:=y;exact hs i U _ hlt p
 ·have:i=n:=by lia
  subst this;exact .inl ⟨qt _,hd U H p⟩
structure E0y (w wd X Y D E K:Nat) (T:List (List Int)):Prop where
 tl:∀ z∈T,z.length=w
 wl:wd<=w
 w0:1<=w
 w1:w<=1000
 t8:T.length<=8
 ec:Ec wd (T.map gv)
 pD:Bt D (pv wd (T.map gv))
 DY:D<=Y
 b0:∀ u,M06.Sp (M06.Ls (T.map gv)) u->(∀ v∈T.map gv,Bt Y (u (ld wd v)))->∀ j,j < wd->Bt X (u j)
 bX:∀ z∈T,∀ j,j < wd->Bt X (gv z j)
 bE:∀ z∈T,∀ j,j < w->Bt E (gv z j)
 hK:9*X+40<=K
 bits:2*(E+10*K)+1000<=134217728
abbrev B4q:Stmt:=top 25
theorem B7y:C2 ["stairs","width","at"] ["stairs","width"] (B1 B4q):=by walk_at "sc"
def A6n:Sp:=λvs H Q _=>∃ (a:Addr) (wd w X Y D E K:Nat) (T:List (List Int)) (ts:List Addr),vs=[.ref a,.int wd]/\H a=some (.lst (ts.map V.ref))/\L7 H ts T/\a∉ts/\E0y w wd X Y D E K T /\
 ∀ (H':Hp) (ts':List Addr) (Ui:List (List Int)),Sm1 a H H'->H' a=some (.lst (ts'.map V.ref))->L7 H' ts' Ui->a∉ts'->(∀ z∈Ui,z.length=w)->Ti wd w (T.map gv) X E K 0 (Ui.map gv)->Q .non H'
theorem C86 (F:W5 K "tidy" "tidy" B4q f fd) (T:Blt mg) (D_made_small:Df P w K mg base "made_small" ["row","stairs","width"] 42 (G3 K A8l)):J5 P w K mg base CX0 43 f fd ["stairs","width"] A6n:=by
 refine F.ok B7y (λvs H Q E h=>?_) (λcdv A outer s H vs Q E hr h=>?_)
 ·obtain ⟨a,wd,w,X,Y,D,E,K,T,ts,rfl,_⟩:=h;rfl
 obtain ⟨a,wd,w',X,Y,D,E1,K1,T0,ts,rfl,ha,hR,hat,Oi,q⟩:=h;refine qmk (J8 (A3x PassesOwn.never rfl (C0y (by rfl) (by exact T.reversed) (by rfl) (by exact T.range) (A2 (K6 (P4 K (by rfl)) (by rfl) (by exact T.len) (by decide +kernel) (A2 (D1 0) B5)) B5)) (U8 2 B7y.nd) (J8 (O7 (J1 (by exact D_made_small) (by exact hr.mono (by decide)) (A2 (G7 (C9 K (by rfl)) (D1 0) (D1 2) (λ_ _=>rfl)) (A2 (A0r (A4c K (by rfl)) (D1 0) (A22 (P8 B1n (D1 2) N2)) A1o) (A2 (D1 1) B5)))) (V5 (D1 0) (D1 2) Q2))))) ?_;show (_:TS) _ [some (.ref a),some (.int wd),none] H;walk_at "rd";have O1:=Oi.w1;have O2:=Oi.wl;have O5:=Oi.bits;have O6:=Oi.hK;have O8:=Oi.t8;have htl0:=hR.len;simp only[L2.D17];walk_at "rd";refine ⟨_,.inl (E6.of ha),?_⟩;rw[qk];refine ⟨ts.length,rfl,by omega,?_⟩;refine C71 (λi U H2=>∃ (ts':List Addr) (Ui:List (List Int)) (x:Option V),U=[some (.ref a),some (.int wd),x]/\H2 a=some (.lst (ts'.map V.ref))/\L7 H2 ts' Ui/\a∉ts'/\Sm1 a H H2/\(∀ z∈Ui,z.length=w')/\Ti wd w' (T0.map gv) X E1 K1 (T0.length - i) (Ui.map gv)) ⟨ts,T0,_,rfl,ha,hR,hat,λb o _ h=>h,Oi.tl,by
  rw[Nat.sub_zero,<-qk (f:=gv)];exact .start Oi.ec (λu hu=>by obtain ⟨z,h1,rfl⟩:=zg.mp hu;exact Oi.bX z h1) λu hu=>by obtain ⟨z,h1,rfl⟩:=zg.mp hu;exact Oi.bE z h1⟩ (λi U H2 hi ⟨ts',Ui,x,e,ha2,hR2,hat2,sm2,hul,I⟩=>?_) ?_
 ·subst e;have hUl:Ui.length=T0.length:=by have:=I.len;simpa using this
  have htsl:=hR2.len;obtain ⟨k,hk⟩:∃ k,T0.length - i=k+1:=⟨T0.length - i - 1,by omega⟩;rw[hk] at I;rw[show ((ts.length:Int) - 1 - (i:Int))=((k:Nat):Int) by omega];walk_at "rd";obtain ⟨u,hu⟩:∃ u,Ui[k]?=some u:=⟨_,zd (by omega)⟩;obtain ⟨ru,hru1,hru3⟩:=hR2.get hu;have hum:=zx hu;refine ⟨_,E6.of ha2,_,B9 (by rw[qp,hru1];rfl),?_⟩;sleep 39;walk_at "rd";refine ⟨_,E6.of ha2,λbb hbb=>?_⟩;have ecut:A6u (ts'.map V.ref) (some ((k:Int)+1)) none=(ts'.drop (k+1)).map V.ref:=by
   rw[B4t (by omega) (by rw[qk];omega),show ((k:Int)+1).toNat=k+1 by omega,map_drop]
  rw[ecut];have sm3:A8 H2 (E5 H2 bb (.lst ((ts'.drop (k+1)).map V.ref))):=A8.new hbb;have hb3:E5 H2 bb (.lst ((ts'.drop (k+1)).map V.ref)) bb=some (.lst ((ts'.drop (k+1)).map V.ref)):=B7;generalize E5 H2 bb (.lst ((ts'.drop (k+1)).map V.ref))=H3 at *;have hgu:(Ui.map gv)[k]?=some (gv u):=by rw[qp,hu];rfl
  have bX:∀ z∈Ui,∀ j,j < wd->Bt X (gv z j):=λz hz=>I.bX _ (zg.mpr ⟨z,hz,rfl⟩);have bE:∀ z∈Ui,∀ j,j < w'->Bt (E1+(T0.length - (k+1))*K1) (gv z j):=λz hz=>by
   have:=I.bE _ (zg.mpr ⟨z,hz,rfl⟩)
   rwa [qk] at this
  have hqK:(T0.length - (k+1))*K1<=8*K1:=Nat.mul_le_mul_right _ (by omega);refine C1d (sm3 _ _ hru3) hb3 ((hR2.same sm3).drop (k+1)).dns (⟨hul u hum,λz hz=>hul z (mem_of_mem_drop hz),O2,O1,by rw[length_drop];omega,qt 8,by rw[map_drop];exact I.ec.drop _,bX u hum,bE u hum,λz hz=>bX z (mem_of_mem_drop hz),λz hz=>bE z (mem_of_mem_drop hz),by omega⟩:C70 w' wd 8 X X (E1+(T0.length - (k+1))*K1) u (Ui.drop (k+1))) λp2 z2 H4 sm4 hp2 hl2 e2 b2=>?_;have ha4:=sm4 _ _ (sm3 _ _ ha2);have p2a:=A3f hp2 ha4 (by have:=Oi.w0;omega);have out:∀ b o,b≠a->H4 b=some o->E5 H4 a (.lst ((ts'.map V.ref).set k (.ref p2))) b=some o:=λb o hb h=>by rw[B4 hb];exact h
  have J:=I.step Oi.ec Oi.pD Oi.DY Oi.b0 (by rw[qk];omega) hgu (u2:=gv z2) (λj=>by rw[e2,<-map_drop]) (λj hj=>(b2 j hj).up (by rw[qk];omega));rw[<-map_set] at J;refine ⟨_,ha4,k,J6 (by rw[qk];omega),ts'.set k p2,by rw[B7,map_set],Ui.set k z2,((hR2.same (sm3.trans sm4)).set hp2 k).keep λr hr o h=>out r o (λe=>?_) h,λhm=>?_,λb o hb h=>out b o hb (sm4 _ _ (sm3 _ _ (sm2 b o hb h))),λz hz=>?_,by rw[show T0.length - (i+1)=k by omega];exact J⟩
  ·rcases mem_or_eq_of_mem_set hr with hr|hr
   ·exact hat2 (by rw[<-e];exact hr)
   ·exact p2a (by rw[<-hr,e])
  ·rcases mem_or_eq_of_mem_set hm with hm|hm
   ·exact hat2 hm
   ·exact p2a hm.symm
  ·rcases mem_or_eq_of_mem_set hz with hz|hz
   ·exact hul z hz
   ·rw[hz];exact hl2
 ·rintro U H2 ⟨ts',Ui,x,rfl,ha2,hR2,hat2,sm2,hul,I⟩;rw[htl0,Nat.sub_self] at I;exact q _ ts' Ui sm2 ha2 hR2 hat2 hul I
open M06 (Bt Shr Eu Ec mks ld red Mi Hy PI PO Td Ti pv SI Reg)
structure D2 (w wd Y X C D E K1 KK:Nat) (G B:List (List Int)) (R:List (Nat->Int)):Prop where
 gl:∀ z∈G,z.length=wd
 bl:∀ z∈B,z.length+wd=w
 len:B.length=G.length
 rr:R.length=G.length/\∀ (i:Nat) (a b:List Int),G[i]?=some a->B[i]?=some b->R[i]?=some (gv (a++b))
 n0:1<=G.length
 n8:G.length<=8
 w0:1<=wd
 w1:w<=1000
 reg:Reg wd R Y X C D
 bE:∀ r∈R,∀ j,j < w->Bt E (r j)
 hK:2*Y+9*X+40<=K1
 hKK:16*K1<=KK
 bits:2*(E+9*KK)+1000<=134217728
theorem L7.snoc (R:L7 H ts T) {p:Addr} {z:List Int} (h:H p=some (.lst (z.map V.int))):L7 H (ts++[p]) (T++[z]):=by
 induction R with
 | nil=>exact .cons h .nil
 | cons h1 _ ih=>exact .cons h1 ih
theorem L7.app {Ui:List (List Int)} (R:L7 H ts T) (R2:L7 H us Ui):L7 H (ts++us) (T++Ui):=by
 induction R with
 | nil=>exact R2
 | cons h1 _ ih=>exact .cons h1 ih
theorem C8x {l:List Addr} {x:Addr} (h:l.Nodup) (hx:x∉l):(l++[x]).Nodup:=by
 rw[nodup_append];exact ⟨h,by simp,λa ha b hb e=>hx (by rw[zc.mp hb] at e;rw[<-e];exact ha)⟩
theorem L7.not (R:L7 H ts T) (hT:∀ z∈T,1<=z.length) (ha:H a=some (.lst (us.map V.ref))):a∉ts:=by
 intro hm;obtain ⟨i,hi⟩:=List.getElem?_of_mem hm;obtain ⟨z,hz⟩:∃ z,T[i]?=some z:=⟨_,zd (by rw[<-R.len];exact (ql.mp hi).1)⟩;obtain ⟨r,h1,h2⟩:=R.get hz;rw[hi] at h1;cases h1;exact A3f h2 ha (hT z (zx hz)) rfl
theorem D8o {rows acc:Addr} {wd:V} {D:V0} (part:List Int->List Int) {te:TE} (hr:H rows=some (.lst (ts.map V.ref))) (R:L7 H ts T) (hs:ts.length < 1000000) (ha:H acc=none)
  (ht:∀ (r:Addr) (z:List Int) (H':Hp) (Q:VK),H' r=some (.lst (z.map V.int))->z∈T->(∀ q,H' q=none->Q (.ref q) (E5 H' q (.lst ((part z).map V.int))))->te [some (.ref r),some wd] H' Q)
  (q:∀ U H' us,A8 H H'->H' acc=some (.lst (us.map V.ref))->L7 H' us (T.map part)->(acc::us).Nodup->(∀ x∈acc::us,H x=none)->D.nx U H'):A45 (Itl K rows) (A19 0) (B2o (λ_ H Q=>Q true H) (B3n acc te)) D [none,some wd] (E5 H acc (.lst [])):=by
 have hl:=R.len;have sm0:A8 H (E5 H acc (.lst [])):=A8.new ha;have ac0:E5 H acc (.lst []) acc=some (.lst []):=B7;have hrn:rows≠acc:=λe=>by rw[e,ha] at hr;cases hr
 have hbn:∀ {b o},H b=some o->b≠acc:=λh e=>by rw[e,ha] at h;cases h
 generalize E5 H acc (.lst [])=H0 at *;refine B8h (ts.map V.ref) (λi U H2=>∃ (x:Option V) (us:List Addr),U=[x,some wd]/\A8 H H2/\H2 acc=some (.lst (us.map V.ref))/\(acc::us).Nodup/\(∀ x∈acc::us,H x=none)/\L7 H2 us ((T.take i).map part)) ⟨_,[],rfl,sm0,ac0,(by simp),(λx hx=>by rw[zc.mp hx];exact ha),by rw[List.take_zero];exact .nil⟩ (λi U H2 hi ⟨x,us,e,sm,a1,n1,n2,R1⟩=>E6.of (sm _ _ hr)) (λi x U H2 hx ⟨x0,us,e,sm,a1,nd,n2,R1⟩=>?_) ?_
 ·subst e;rw[qp] at hx;obtain ⟨r,hr',rfl⟩:=Option.map_eq_some_iff.mp hx;obtain ⟨z,hz⟩:∃ z,T[i]?=some z:=⟨_,zd (by rw[<-hl];exact (ql.mp hr').1)⟩;obtain ⟨r2,h1,h2⟩:=R.get hz;rw[hr'] at h1;cases h1;have hil:=(ql.mp hr').1;have n1:acc∉us:=(nodup_cons.mp nd).1;have usl:us.length<=i:=by rw[R1.len,qk,jc];omega
  simp only[L2.A19,L2.B2o,L2.B3n,if_true,List.set_cons_zero];refine ht r z H2 _ (sm _ _ h2) (zx hz) λq0 hq0=>?_;have hqa:acc≠q0:=λe=>by rw[<-e,a1] at hq0;cases hq0
  have sm3:A8 H2 (E5 H2 q0 (.lst ((part z).map V.int))):=A8.new hq0;have e3:E5 H2 q0 (.lst ((part z).map V.int)) q0=some (.lst ((part z).map V.int)):=B7;generalize E5 H2 q0 (.lst ((part z).map V.int))=H3 at *;refine ⟨_,sm3 _ _ a1,Q1 (by rw[qk];omega),_,us++[q0],rfl,λb o h=>by rw[B4 (hbn h)];exact sm3 _ _ (sm _ _ h),by rw[B7,map_append];rfl,?_,λx hx=>?_,?_⟩
  ·rw[<-List.cons_append];refine C8x nd λhm=>?_;rcases zn.mp hm with hm|hm
   ·exact hqa hm.symm
   ·obtain ⟨k,hk⟩:=List.getElem?_of_mem hm;obtain ⟨y,hy⟩:∃ y,((T.take i).map part)[k]?=some y:=⟨_,zd (by rw[<-R1.len];exact (ql.mp hk).1)⟩;obtain ⟨r3,g1,g2⟩:=R1.get hy;rw[hk] at g1;cases g1;rw[hq0] at g2;cases g2
  ·rw[<-List.cons_append] at hx;sleep 18
   ·exact n2 x hx
   ·rw[zc.mp hx];cases e:H q0 with
    | none=>rfl
    | some o=>rw[sm _ _ e] at hq0;cases hq0
  ·have:=((R1.same sm3).snoc e3);rw[show (T.take i).map part++[part z]=(T.take (i+1)).map part by
    obtain ⟨h,e⟩:=ql.mp hz;rw[List.take_succ_eq_append_getElem h,e,map_append];rfl] at this
   refine this.keep λb hb o h=>?_;rw[B4 λe=>?_];exact h;subst e;rcases zm.mp hb with hb|hb
   ·exact n1 hb
   ·exact hqa (zc.mp hb)
 ·rintro U H2 ⟨x,us,e,sm,a1,n1,n2,R1⟩;rw[qk,hl,List.take_length] at R1;exact q U H2 us sm a1 R1 n1 n2
abbrev A50:Stmt:=top 23
theorem Q3:C2 ["grid","beside","width","stairs","empty","row","further","left_over","rows"] ["grid","beside"] (B1 A50):=by walk_at "sc"
def Y4:Sp:=λvs H Q _=>∃ (g b:Addr) (w wd Y X C D E K1 KK:Nat) (G B:List (List Int)) (gs bs:List Addr) (R:List (Nat->Int)),vs=[.ref g,.ref b]/\H g=some (.lst (gs.map V.ref))/\H b=some (.lst (bs.map V.ref))/\L7 H gs G/\L7 H bs B/\D2 w wd Y X C D E K1 KK G B R /\
 ∀ (H':Hp) (p p1 p2:Addr) (ts us:List Addr) (Ui Z:List (List Int)),A8 H H'->SqT K H' p [.ref p1,.ref p2]->H' p1=some (.lst (ts.map V.ref))->H' p2=some (.lst (us.map V.ref))->L7 H' ts ((Ui++Z).map λz=>z.take wd)->L7 H' us ((Ui++Z).map λz=>z.drop wd)->(∀ z∈Ui++Z,z.length=w)->(p1::ts++p2::us).Nodup->(∀ x∈p1::ts++p2::us,H x=none)->SI wd w R X E KK G.length (Ui.map gv) (Z.map gv)->Q (.ref p) H'
theorem B4x (F:W5 K "staired" "staired" A50 f fd) (T:Blt mg) (D_put_in:Df P w K mg base "put_in" ["stairs","row","width"] 43 A8j) (D_tidy:Df P w K mg base "tidy" ["stairs","width"] 43 A6n):J5 P w K mg base CX0 44 f fd ["grid","beside"] (Y4 (K:=K)):=by
 refine F.ok Q3 (λvs H Q E h=>?_) (λcdv A outer s H vs Q E hr h=>?_)
 ·obtain ⟨g,b,w,wd,Y,X,C,D,E,K1,KK,G,B,gs,bs,R,rfl,_⟩:=h;rfl
 obtain ⟨g,b,w',wd,Y,X,C,D,E1,K1,KK,G,B,gs,bs,R,rfl,hg,hb,hG,hB,Oi,q⟩:=h;refine qmk (B3 (S7 2 Q3.nd (K6 (P4 K (by rfl)) (by rfl) (by exact T.len) (by decide +kernel) (A2 (G7 (C9 K (by rfl)) (D1 0) N2 (λ_ _=>rfl)) B5)))
   (B3 (S7 3 Q3.nd (B1i B5))
   (B3 (S7 4 Q3.nd (B1i B5))
   (B3 (A3x PassesOwn.never rfl (B2q K (by rfl) (by rfl) (by exact T.zip) (A2 (D1 0) (A2 (D1 1) B5))) (X2 K 2 (by rfl) (by rfl) (D8 (U8 5 Q3.nd) (D8 (U8 6 Q3.nd) T1)) (by rfl) (by rfl)) (B3 (S7 7 Q3.nd (J1 (by exact D_put_in) (by exact hr.mono (by decide)) (A2 (D1 3) (A2 (P8 B5e (D1 5) (D1 6)) (A2 (D1 2) B5)))))
   (B3 (B1b (S9 C5z (D1 7) B6m (B6 _)) (J8 (X4 (A5l K (by rfl) (D1 4) (D1 7) (by rfl) (by rfl) (by rfl)))) A4f)
   (J8 (X4 (J1 (by exact D_tidy) (by exact hr.mono (by decide)) (A2 (D1 3) (A2 (D1 2) B5))))))))
   (B3 (S7 8 Q3.nd (P8 B5e (D1 3) (D1 4)))
   (J8 (A41 (B0q (A2 (B0s ["row"] [("width",2)] rfl (C7.of (by kernel_rfl)) (A59 K (by rfl) (D1 8)) (λ_ _ _ _=>⟨(U8 0 (I0 (by kernel_rfl))),A6s,(A3y (by rfl) (by rfl) (A0r (A4c K (by rfl)) (D1 0) A1o (A22 (D1 1))))⟩)) (A2 (B0s ["row"] [("width",2)] rfl (C7.of (by kernel_rfl)) (A59 K (by rfl) (D1 8)) (λ_ _ _ _=>⟨(U8 0 (I0 (by kernel_rfl))),A6s,(A3y (by rfl) (by rfl) (A0r (A4c K (by rfl)) (D1 0) (A22 (D1 1)) A1o))⟩)) B5)))))))))) ?_
 show (_:TS) _ [some (.ref g),some (.ref b),none,none,none,none,none,none,none] H;walk_at "rd";obtain ⟨r0,hr0,hr1⟩:=hG.get (zd Oi.n0);have hgl:=hG.len;have hbl:=hB.len;have O1:=Oi.n8;have O2:=Oi.w1;refine ⟨_,E6.of hg,_,show atI _ ((0:Nat):Int)=_ from B9 (by rw[qp,hr0];rfl),r0,rfl,_,.inl (E6.of hr1),jb _,λp hp=>⟨jb _,λp1 hp1=>?_⟩⟩;rw[qk,Oi.gl _ (List.getElem_mem _)];have hpp:p1≠p:=λe=>by rw[e,B7] at hp1;cases hp1
 have hp1':H p1=none:=by rwa [B4 hpp] at hp1
 have sm1:A8 H (E5 (E5 H p (.lst [])) p1 (.lst [])):=(A8.new hp).trans (A8.new hp1);have e1:E5 (E5 H p (.lst [])) p1 (.lst []) p=some (.lst []):=by rw[B4 hpp.symm,B7]
 have e2:E5 (E5 H p (.lst [])) p1 (.lst []) p1=some (.lst []):=B7;generalize E5 (E5 H p (.lst [])) p1 (.lst [])=H1 at *;refine ⟨g,b,⟨rfl,rfl⟩,⟨_,E6.of (sm1 _ _ hg)⟩,⟨_,E6.of (sm1 _ _ hb)⟩,?_⟩;refine C0f (gs.map V.ref) (bs.map V.ref) (by rw[qk,qk,hgl,hbl,Oi.len]) (λi U H2=>∃ (ts es:List Addr) (Ui Z:List (List Int)) (x5 x6 x7:Option V),U=[some (.ref g),some (.ref b),some (.int wd),some (.ref p),some (.ref p1),x5,x6,x7,none]/\H2 p=some (.lst (ts.map V.ref))/\H2 p1=some (.lst (es.map V.ref))/\L7 H2 ts Ui/\L7 H2 es Z/\p∉ts/\p1∉ts/\p∉es/\p1∉es/\A8 H H2/\(∀ z∈Ui++Z,z.length=w')/\SI wd w' R X E1 KK i (Ui.map gv) (Z.map gv))
  ⟨[],[],[],[],_,_,_,rfl,e1,e2,.nil,.nil,(by simp),(by simp),(by simp),(by simp),sm1,(by simp),.start⟩ (λi U H2 hi ⟨ts,es,Ui,Z,x5,x6,x7,e,a1,a2,R1,R2,n1,n2,n3,n4,sm,hl,S⟩=>⟨E6.of (sm _ _ hg),E6.of (sm _ _ hb)⟩) (λi x y pp U H2 hx hy ⟨ts,es,Ui,Z,x5,x6,x7,e,a1,a2,R1,R2,n1,n2,n3,n4,sm,hl,S⟩ hpp2=>?_) ?_
 ·subst e;rw[qp] at hx hy;obtain ⟨ra,hra,rfl⟩:=Option.map_eq_some_iff.mp hx;obtain ⟨rb,hrb,rfl⟩:=Option.map_eq_some_iff.mp hy;obtain ⟨a,ha⟩:∃ a,G[i]?=some a:=⟨_,zd (by rw[<-hgl];exact (ql.mp hra).1)⟩;obtain ⟨c,hc⟩:∃ c,B[i]?=some c:=⟨_,zd (by rw[<-hbl];exact (ql.mp hrb).1)⟩;obtain ⟨r2,h1,h2⟩:=hG.get ha;rw[hra] at h1;cases h1;obtain ⟨r2,h1,h3⟩:=hB.get hc;rw[hrb] at h1;cases h1;have hiG:=(ql.mp ha).1;have hRi:=Oi.rr.2 i a c ha hc;have hal:=Oi.gl a (zx ha);have hcl:=Oi.bl c (zx hc);have hacl:(a++c).length=w':=by rw[length_append];lia
  have O3:=Oi.w0;have O4:=Oi.hKK;have O5:=Oi.bits;have iK:i*KK<=7*KK:=Nat.mul_le_mul_right _ (by lia);have sm3:A8 H2 (E5 H2 pp (.tup [.ref ra,.ref rb])):=A8.new hpp2;have e3:E5 H2 pp (.tup [.ref ra,.ref rb]) pp=some (.tup [.ref ra,.ref rb]):=B7;generalize E5 H2 pp (.tup [.ref ra,.ref rb])=H3 at *;have sm03:=sm.trans sm3;walk_at "rd";refine ⟨_,SqT.of e3,rfl,_,_,rfl,_,_,rfl,rfl,_,rfl,_,rfl,_,sm03 _ _ h2,_,sm03 _ _ h3,?_,λq0 hq0=>?_⟩
  ·rw[qk,qk];exact zk (Q1 (by lia))
  rw[<-map_append];have sm4:A8 H3 (E5 H3 q0 (.lst ((a++c).map V.int))):=A8.new hq0;have e4:E5 H3 q0 (.lst ((a++c).map V.int)) q0=some (.lst ((a++c).map V.int)):=B7;generalize E5 H3 q0 (.lst ((a++c).map V.int))=H4 at *;have sm24:=sm3.trans sm4;have hUl:(Ui.map gv).length=Ui.length:=qk _;have hZl:(Z.map gv).length=Z.length:=qk _;have hSl:=S.len;refine ⟨p,q0,wd,w',Y,X,C,D,E1+i*KK,K1,a++c,Ui,ts,rfl,sm24 _ _ a1,R1.same sm24,n1,e4,A3f e4 (sm24 _ _ a1) (by lia),⟨hacl,λz hz=>hl z (za _ hz),by lia,O2,S.hy Oi.reg hRi,S.gE hRi Oi.bE,Oi.hK,by lia⟩,λv H5 ts' T' lo sm5 a5 R5 n5 hl5 P h0 hlo=>?_⟩;have hPl:=P.len;rw[qk,qk] at hPl;have hT8:T'.length<=8:=by lia
  have reg':=Oi.reg.reg (i+1) _ (by rw[Oi.rr.1];lia) P.ec (P.eqv S hRi);have sm05:A8 H H5:=λb o h=>sm5 _ _ (λe=>by rw[e,hp] at h;cases h) (sm24 _ _ (sm _ _ h));have td:∀ (H6:Hp) (es':List Addr) (Z':List (List Int)) (x7:Option V),Sm1 p1 H5 H6->H6 p1=some (.lst (es'.map V.ref))->H6 p=some (.lst (ts'.map V.ref))->L7 H6 es' Z'->(∀ z∈Z',z.length=w')->Z'.map gv=Z.map gv++(lo.map gv).toList->A6n [V.ref p,V.int wd] H6 (λ_ H7=>∃ (ts es:List Addr) (Ui Z:List (List Int)) (y5 y6 y7:Option V),((some (V.ref ra)=y5/\some (V.ref rb)=y6/\x7=y7)/\H7 p=some (.lst (ts.map V.ref))/\H7 p1=some (.lst (es.map V.ref))/\L7 H7 ts Ui/\L7 H7 es Z/\p∉ts/\p1∉ts/\p∉es/\p1∉es/\A8 H H7/\(∀ z∈Ui++Z,z.length=w')/\SI wd w' R X E1 KK (i+1) (Ui.map gv) (Z.map gv))) E0:=λH6 es' Z' x7 sm6 a6 a7 R6 hz6 ez=>by
   have pT:p1∉ts':=R5.not (λz hz=>by rw[hl5 z hz];lia) (sm5 _ _ hpp (sm24 _ _ a2));refine ⟨p,wd,w',X,Y,D,E1+i*KK+8*K1,K1,T',ts',rfl,a7,R5.keep λr hr o h=>sm6 _ _ (λe=>pT (e ▸ hr)) h,n5,⟨hl5,by lia,by lia,O2,hT8,P.ec,reg'.prod,Oi.reg.DY,reg'.b0,λz hz=>P.bX _ (zg.mpr ⟨z,hz,rfl⟩),λz hz=>P.bE _ (qz _ (zg.mpr ⟨z,hz,rfl⟩)),by have:=Oi.hK;lia,by lia⟩,λH7 ts7 U7 sm7 a8 R7 n7 hl7 I=>?_⟩;have S':=S.step Oi.reg hRi P (λe=>by
    obtain ⟨g1,g2⟩:=h0 e;rw[g1,g2];exact ⟨rfl,rfl⟩) I (by rw[qk];exact hT8) O4
   rw[<-ez] at S';have R6':L7 H7 es' Z':=R6.keep λr hr o h=>sm7 _ _ (λe=>?_) h;have a67:=sm7 _ _ hpp a6
   ·refine ⟨ts7,es',U7,Z',_,_,_,⟨rfl,rfl,rfl⟩,a8,a67,R7,R6',n7,R7.not (λz hz=>by rw[hl7 z hz];lia) a67,R6'.not (λz hz=>by rw[hz6 z hz];lia) a8,R6'.not (λz hz=>by rw[hz6 z hz];lia) a67,λb o h=>sm7 _ _ (λe=>by rw[e,hp] at h;cases h) (sm6 _ _ (λe=>by rw[e,hp1'] at h;cases h) (sm05 _ _ h)),λz hz=>?_,S'⟩;rcases zm.mp hz with hz|hz
    ·exact hl7 z hz
    ·exact hz6 z hz
   ·exact R6.not (λz hz=>by rw[hz6 z hz];lia) a7 (e ▸ hr)
  have hzZ:∀ z∈Z,z.length=w':=λz hz=>hl z (qz _ hz);have R25:L7 H5 es Z:=R2.keep λr hr o h=>sm5 _ _ (λe=>n3 (e ▸ hr)) (sm24 _ _ h);have a25:=sm5 _ _ hpp (sm24 _ _ a2);cases lo with
  | none =>
   have hv:v=.non:=hlo;subst hv;show ite _ _ _;rw[qs (by simp)];exact td H5 es Z _ (λ_ _ _ h=>h) a25 a5 R25 hzZ (by simp)
  | some z =>
   obtain ⟨zl,pz,rfl,hpz,hz5⟩:=hlo;show ite _ _ _;rw[qr (by simp)];have eZ:=(R25.len);refine ⟨tyl (E6.of a25),_,a25,Q1 (by rw[qk];have:=hPl;lia),?_⟩;have pz1:pz≠p1:=A3f hz5 a25 (by lia);have keep:Sm1 p1 H5 (E5 H5 p1 (.lst (es.map V.ref++[V.ref pz]))):=λb o hb h=>by rw[B4 hb];exact h
   refine td _ (es++[pz]) (Z++[z]) _ keep (by rw[B7,map_append];rfl) (keep _ _ hpp.symm a5) ((R25.snoc hz5).keep λr hr o h=>keep _ _ (λe=>?_) h) (λz' hz'=>?_) (by simp)
   ·subst e;rcases zm.mp hr with hr|hr
    ·exact n4 hr
    ·exact pz1 (zc.mp hr).symm
   ·rcases zm.mp hz' with hz'|hz'
    ·exact hzZ z' hz'
    ·rw[zc.mp hz'];exact zl
 ·rintro U H2 ⟨ts,es,Ui,Z,x5,x6,x7,rfl,a1,a2,R1,R2,n1,n2,n3,n4,sm,hl,S⟩;walk_at "rd";rw[qk,hgl] at S;have hR1:=R1.len;have hR2:=R2.len;have hSl:=S.len;rw[qk,qk] at hSl;refine ⟨_,a1,_,a2,zk (Q1 (by rw[qk,qk];lia)),λp4 hp4=>?_⟩;rw[<-map_append];have sm3:A8 H2 (E5 H2 p4 (.lst ((ts++es).map V.ref))):=A8.new hp4;have e3:E5 H2 p4 (.lst ((ts++es).map V.ref)) p4=some (.lst ((ts++es).map V.ref)):=B7;generalize E5 H2 p4 (.lst ((ts++es).map V.ref))=H3 at *;have RR:=(R1.app R2).same sm3;have hlen:(ts++es).length < 1000000:=by rw[length_append];lia
  refine ⟨⟨_,E6.of e3⟩,λacc hacc=>?_⟩;refine D8o (λz=>z.take wd) e3 RR hlen hacc (λr z H' Q hr hz q'=>?_) λU H4 us sm4 hac RR4 nd4 fr4=>?_
  ·sleep 39;walk_at "rd";refine ⟨_,E6.of hr,λq0 hq0=>?_⟩;have:=q' q0 hq0;rw[D1g (by rw[qk,hl z hz];have:=Oi.bl;obtain ⟨c,hc⟩:∃ c,B[0]?=some c:=⟨_,zd (by rw[Oi.len];exact Oi.n0)⟩;have:=Oi.bl c (zx hc);lia),<-List.map_take];exact this
  refine ⟨⟨_,E6.of (sm4 _ _ e3)⟩,λacc2 hacc2=>?_⟩;refine D8o (λz=>z.drop wd) (sm4 _ _ e3) (RR.same sm4) hlen hacc2 (λr z H' Q hr hz q'=>?_) λσ2 H5 us2 sm5 hac2 RR5 nd5 fr5=>?_
  ·sleep 39;walk_at "rd";refine ⟨_,E6.of hr,λq0 hq0=>?_⟩;have:=q' q0 hq0;rw[B4t (by lia) (by rw[qk,hl z hz];obtain ⟨c,hc⟩:∃ c,B[0]?=some c:=⟨_,zd (by rw[Oi.len];exact Oi.n0)⟩;have:=Oi.bl c (zx hc);lia),Int.toNat_natCast,<-map_drop];exact this
  refine ⟨zk (Q1 (show 2 < 1000000 by decide)),λp6 hp6=>?_⟩;have sm6:A8 H5 (E5 H5 p6 (.tup [.ref acc,.ref acc2])):=A8.new hp6;refine q _ p6 acc acc2 us us2 Ui Z ((((sm.trans sm3).trans sm4).trans sm5).trans sm6) (SqT.of B7) (sm6 _ _ (sm5 _ _ hac)) (sm6 _ _ hac2) (RR4.same (sm5.trans sm6)) (RR5.same sm6) hl ?_ ?_ S
  ·refine nodup_append.mpr ⟨nd4,nd5,λx hx y hy e=>?_⟩;subst e;have h4:H4 x≠none:=by
    rcases zn.mp hx with rfl|hx
    ·rw[hac];exact λz=>by cases z
    ·obtain ⟨k,hk⟩:=List.getElem?_of_mem hx;obtain ⟨y,hy'⟩:∃ y,((Ui++Z).map λz=>z.take wd)[k]?=some y:=⟨_,zd (by rw[<-RR4.len];exact (ql.mp hk).1)⟩;obtain ⟨r3,g1,g2⟩:=RR4.get hy';rw[hk] at g1;cases g1;rw[g2];exact λz=>by cases z
   exact h4 (fr5 x hy)
  ·intro x hx;have up:∀ {H':Hp},A8 H H'->H' x=none->H x=none:=λ{H'} sm h=>by
    cases e:H x with
    | none=>rfl
    | some o=>rw[sm _ _ e] at h;cases h
   sleep 18
   ·exact up (sm.trans sm3) (fr4 x hx)
   ·exact up ((sm.trans sm3).trans sm4) (fr5 x hx)
open M06 (Bt Shr Ch CI two)
def gm (T:List (List Int)):MDet.Mat:=λi=>gv (T.getD i [])
structure Tri (n m:Nat) (H:Hp) (a l r:Addr) (ms ls rs:List Addr) (M L R:List (List Int)):Prop where
 ha:H a=some (.lst (ms.map V.ref))
 hl:H l=some (.lst (ls.map V.ref))
 hr:H r=some (.lst (rs.map V.ref))
 RM:L7 H ms M
 RL:L7 H ls L
 RR:L7 H rs R
 nd:(a::l::r::(ms++(ls++rs))).Nodup
 n0:1<=n/\n<=8
 m0:1<=m/\m<=8
 lM:M.length=n/\∀ z∈M,z.length=m
 lL:L.length=n/\∀ z∈L,z.length=n
 lR:R.length=m/\∀ z∈R,z.length=m
theorem T5 {i:Nat} {z:List Int} (h:T[i]?=some z):gm T i=gv z:=by unfold gm;rw[getD_eq_getElem?_getD,h];rfl
theorem A5b {i:Nat} {z:List Int} (h:i < T.length) (p:Nat):gm (T.set i z) p=if p=i then gv z else gm T p:=by
 unfold gm;rw[getD_eq_getElem?_getD,List.getElem?_set];split
 ·rename_i e;subst e;rw[qr rfl];rfl
 ·rw[qs (by lia),getD_eq_getElem?_getD]
theorem C1p {z:List Int} {i:Nat} {x:Int} (h:i < z.length) (p:Nat):gv (z.set i x) p=if p=i then x else gv z p:=by
 unfold gv;rw[getD_eq_getElem?_getD,List.getElem?_set];split
 ·rename_i e;subst e;rw[qr rfl];rfl
 ·rw[qs (by lia),getD_eq_getElem?_getD]
theorem L7.mem (R:L7 H ts T) {p:Addr} (h:p∈ts):∃ o,H p=some o:=by
 induction R with
 | nil=>cases h
 | cons h1 _ ih =>
  rcases zn.mp h with rfl|h
  ·exact ⟨_,h1⟩
  ·exact ih h
theorem L7.put (R:L7 H ts T) (nd:ts.Nodup) {i:Nat} {p:Addr} (hp:ts[i]?=some p) (z:List Int):L7 (E5 H p (.lst (z.map V.int))) ts (T.set i z):=by
 induction R generalizing i with
 | nil=>cases hp
 | @cons r z0 ts T h1 h2 ih =>
  obtain ⟨n1,n2⟩:=nodup_cons.mp nd;cases i with
  | zero =>
   have:r=p:=by simpa using hp
   subst this;exact .cons B7 (h2.keep λb hb o h=>by rw[B4 (show b≠r from λe=>n1 (by rw[<-e];exact hb))];exact h)
  | succ i =>
   have hp':ts[i]?=some p:=by simpa using hp
   exact .cons (by rw[B4 (show r≠p from λe=>n1 (by rw[e];exact zx hp'))];exact h1) (ih n2 hp')
section
variable {n m:Nat} {H:Hp} {a l r p:Addr} {ms ls rs:List Addr} {M L R:List (List Int)} {z:List Int} {i:Nat}
theorem Tri.some (Z:Tri n m H a l r ms ls rs M L R) {x:Addr} (h:x∈a::l::r::(ms++(ls++rs))):∃ o,H x=some o:=by
 rcases zn.mp h with rfl|h
 ·exact ⟨_,Z.ha⟩
 rcases zn.mp h with rfl|h
 ·exact ⟨_,Z.hl⟩
 rcases zn.mp h with rfl|h
 ·exact ⟨_,Z.hr⟩
 rcases zm.mp h with h|h
 ·exact Z.RM.mem h
 rcases zm.mp h with h|h
 ·exact Z.RL.mem h
 ·exact Z.RR.mem h
theorem Tri.no (Z:Tri n m H a l r ms ls rs M L R) {x:Addr} (h:H x=none):x∉a::l::r::(ms++(ls++rs)):=λz=>by
 obtain ⟨o,e⟩:=Z.some z;rw[h] at e;cases e
theorem Tri.same {H':Hp} (Z:Tri n m H a l r ms ls rs M L R) (s:A8 H H'):Tri n m H' a l r ms ls rs M L R :=
 ⟨s _ _ Z.ha,s _ _ Z.hl,s _ _ Z.hr,Z.RM.same s,Z.RL.same s,Z.RR.same s,Z.nd,Z.n0,Z.m0,Z.lM,Z.lL,Z.lR⟩
theorem S8 {α:Type} {l:List α} {i:Nat} {x y:α} (h:x∈l.set i y):x∈l\/x=y:=mem_or_eq_of_mem_set h
theorem B8t {l:List Addr} {p:Addr} (h:l.Nodup) (hp:p∉l) (i:Nat):(l.set i p).Nodup:=by
 induction l generalizing i with
 | nil=>exact .nil
 | cons x l ih =>
  obtain ⟨h1,h2⟩:=nodup_cons.mp h;cases i with
  | zero=>exact nodup_cons.mpr ⟨λz=>hp (qy _ z),h2⟩
  | succ i =>
   refine nodup_cons.mpr ⟨λz=>?_,ih h2 (λz=>hp (qy _ z)) i⟩;rcases S8 z with z|z
   ·exact h1 z
   ·exact hp (z ▸ qx)
theorem C2m {B C:List Addr} (h:(A++(B++C)).Nodup) (hp:p∉A++(B++C)) (i:Nat):(A++(B.set i p++C)).Nodup:=by
 rw[nodup_append,nodup_append] at *;obtain ⟨h1,⟨h2,h3,h4⟩,h5⟩:=h;simp only[zm,not_or] at hp;refine ⟨h1,⟨B8t h2 hp.2.1 i,h3,λx hx y hy e=>?_⟩,λx hx y hy e=>?_⟩
 ·rcases S8 hx with hx|hx
  ·exact h4 x hx y hy e
  ·exact hp.2.2 (by rw[<-hx,e];exact hy)
 ·sleep 14
  ·rcases S8 hy with hy|hy
   ·exact h5 x hx y (za _ hy) e
   ·exact hp.1 (by rw[<-hy,<-e];exact hx)
  ·exact h5 x hx y (qz _ hy) e
theorem B1r (h:∀ z∈T,z.length=c) (hz:z.length=c):∀ y∈T.set i z,y.length=c:=λy hy=>by
 rcases S8 hy with hy|rfl
 ·exact h y hy
 ·exact hz
theorem Tri.setL (Z:Tri n m H a l r ms ls rs M L R) (hp:H p=.some (.lst (z.map V.int))) (hn:p∉a::l::r::(ms++(ls++rs))) (hz:z.length=n) (i:Nat):Tri n m (E5 H l (.lst ((ls.map V.ref).set i (.ref p)))) a l r ms (ls.set i p) rs M (L.set i z) R:=by
 have nd:=Z.nd;have out:∀ b o,b≠l->H b=.some o->E5 H l (.lst ((ls.map V.ref).set i (.ref p))) b=.some o:=λb o hb h=>by rw[B4 hb];exact h
 have nl:l∉r::(ms++(ls++rs)):=(nodup_cons.mp (nodup_cons.mp nd).2).1;simp only[zn,zm,not_or] at nl hn;refine ⟨out _ _ (λe=>(nodup_cons.mp nd).1 (e ▸ qx)) Z.ha,by rw[B7,map_set],out _ _ (λe=>nl.1 e.symm) Z.hr,Z.RM.keep λb hb o h=>out _ _ (λe=>nl.2.1 (e ▸ hb)) h,(Z.RL.set hp i).keep λb hb o h=>out _ _ (λe=>?_) h,Z.RR.keep λb hb o h=>out _ _ (λe=>nl.2.2.2 (e ▸ hb)) h,?_,Z.n0,Z.m0,Z.lM,⟨by rw[length_set];exact Z.lL.1,B1r Z.lL.2 hz⟩,Z.lR⟩
 ·subst e;rcases S8 hb with hb|hb
  ·exact nl.2.2.1 hb
  ·exact hn.2.1 hb.symm
 ·have:=C2m (A:=a::l::r::ms) (B:=ls) (C:=rs) nd (by simp only[zn,zm,not_or];exact ⟨⟨hn.1,hn.2.1,hn.2.2.1,hn.2.2.2.1⟩,hn.2.2.2.2⟩) i;exact this
theorem Tri.setR (Z:Tri n m H a l r ms ls rs M L R) (hp:H p=.some (.lst (z.map V.int))) (hn:p∉a::l::r::(ms++(ls++rs))) (hz:z.length=m) (i:Nat):Tri n m (E5 H r (.lst ((rs.map V.ref).set i (.ref p)))) a l r ms ls (rs.set i p) M L (R.set i z):=by
 have nd:=Z.nd;have out:∀ b o,b≠r->H b=.some o->E5 H r (.lst ((rs.map V.ref).set i (.ref p))) b=.some o:=λb o hb h=>by rw[B4 hb];exact h
 have nl:r∉ms++(ls++rs):=(nodup_cons.mp (nodup_cons.mp (nodup_cons.mp nd).2).2).1;simp only[zn,zm,not_or] at nl hn;refine ⟨out _ _ (λe=>(nodup_cons.mp nd).1 (e ▸ qy _ qx)) Z.ha,out _ _ (λe=>(nodup_cons.mp (nodup_cons.mp nd).2).1 (e ▸ qx)) Z.hl,by rw[B7,map_set],Z.RM.keep λb hb o h=>out _ _ (λe=>nl.1 (e ▸ hb)) h,Z.RL.keep λb hb o h=>out _ _ (λe=>nl.2.1 (e ▸ hb)) h,(Z.RR.set hp i).keep λb hb o h=>out _ _ (λe=>?_) h,?_,Z.n0,Z.m0,Z.lM,Z.lL,⟨by rw[length_set];exact Z.lR.1,B1r Z.lR.2 hz⟩⟩
 ·subst e;rcases S8 hb with hb|hb
  ·exact nl.2.2 hb
  ·exact hn.2.2.1 hb.symm
 ·have:=C2m (A:=a::l::r::(ms++ls)) (B:=rs) (C:=[]) (by rw[append_nil];simpa using nd) (by simp only[zn,zm,not_or];exact ⟨⟨hn.1,hn.2.1,hn.2.2.1,hn.2.2.2.1,hn.2.2.2.2.1⟩,hn.2.2.2.2.2,by simp⟩) i;rw[append_nil] at this;simpa using this
theorem Tri.setM (Z:Tri n m H a l r ms ls rs M L R) (hp:ms[i]?=.some p) (hz:z.length=m):Tri n m (E5 H p (.lst (z.map V.int))) a l r ms ls rs (M.set i z) L R:=by
 have nd:=Z.nd;have hm:=zx hp;have out:∀ b o,b≠p->H b=.some o->E5 H p (.lst (z.map V.int)) b=.some o:=λb o hb h=>by rw[B4 hb];exact h
 have n1:=nodup_cons.mp nd;have n2:=nodup_cons.mp n1.2;have n3:=nodup_cons.mp n2.2;obtain ⟨n4,n5,n6⟩:=nodup_append.mp n3.2;refine ⟨out _ _ (λe=>n1.1 ?_) Z.ha,out _ _ (λe=>n2.1 ?_) Z.hl,out _ _ (λe=>n3.1 ?_) Z.hr,Z.RM.put n4 hp z,Z.RL.keep λb hb o h=>out _ _ (λe=>?_) h,Z.RR.keep λb hb o h=>out _ _ (λe=>?_) h,nd,Z.n0,Z.m0,⟨by rw[length_set];exact Z.lM.1,B1r Z.lM.2 hz⟩,Z.lL,Z.lR⟩
 ·rw[e];exact qy _ (qy _ (za _ hm))
 ·rw[e];exact qy _ (za _ hm)
 ·rw[e];exact za _ hm
 ·exact n6 p hm b (za _ hb) e.symm
 ·exact n6 p hm b (qz _ hb) e.symm
end
theorem no4 {l r x:Addr} (h:x∉a::l::r::A):x≠l/\x≠r/\x∉A:=by
 simp only[zn,not_or] at h;exact h.2
theorem B1g {T t u:TS} {D:V0} (e:T=C59 t u) (h:∀ T':TS,T'=u->t { D with nx:=T' D } U H):T D U H:=by subst e;exact h u rfl
abbrev A0x:Stmt:=top 30
theorem M6:C2 ["middle","left","turned_right","i","j","one","other","common","s","t","up","down"] ["middle","left","turned_right","i","j"] (B1 A0x):=by walk_at "sc"
def B1l:Sp:=λvs H Q _=>∃ (a l r:Addr) (i j n m k D e:Nat) (ms ls rs:List Addr) (M L R:List (List Int)) (G:MDet.Mat) (d:Nat->Int),vs=[.ref a,.ref l,.ref r,.int i,.int j]/\Tri n m H a l r ms ls rs M L R/\i < j/\j < k/\Ch n m k D G (gm M) (gm L) (gm R) d e/\2*(e+2*D+6)+1000<=134217728 /\
 ∀ (H':Hp) (ls' rs':List Addr) (M' L' R':List (List Int)) (g s t:Int),(∀ b o,b∉a::l::r::ms->H b=some o->H' b=some o)->(∀ x∈ls'++rs',x∈ls++rs\/H x=none)->Tri n m H' a l r ms ls' rs' M' L' R'->Shr (d i) (d j) g s t->Ch n m k D G (gm M') (gm L') (gm R') (λk=>if k=i then g else if k=j then d i / g*d j else d k) (e+2*D+6)->Q .non H'
theorem A8w (F:W5 K "chain_pair" "chain_pair" A0x f fd) (T:Blt mg) (hT:P.given.tree=none) (D_blended:Df P w K mg base "blended" ["one","s","other","t"] 41 (G3 K A3a)) (D_common_shares:Df P w K mg base "common_shares" ["one","other"] 41 (G3 K A8k)):J5 P w K mg base CX0 42 f fd ["middle","left","turned_right","i","j"] B1l:=by
 refine F.ok M6 (λvs H Q E h=>?_) (λcdv A outer s H vs Q E hr h=>?_)
 ·obtain ⟨a,l,r,i,j,n,m,k,D,e,ms,ls,rs,M,L,R,G,d,rfl,_⟩:=h;rfl
 obtain ⟨a,l,r,i,j,n,m,k,D,e,ms,ls,rs,M,L,R,G,d,rfl,Z,hij,hj,C,hb,q⟩:=h;refine qmk (B3 (A6c (i:=5) (j:=6) rfl M6.nd rfl rfl (by decide) rfl rfl (A2 (G7 (C9 K (by rfl)) (G7 (C9 K (by rfl)) (D1 0) (D1 3) (λ_ _=>rfl)) (D1 3) (λ_ _=>rfl)) (A2 (G7 (C9 K (by rfl)) (G7 (C9 K (by rfl)) (D1 0) (D1 4) (λ_ _=>rfl)) (D1 4) (λ_ _=>rfl)) B5)) (by rfl))
   (B3 (O7 (J1 (by exact D_common_shares) (by exact hr.mono (by decide)) (A2 (D1 5) (A2 (D1 6) B5))) (X2 K 3 (by rfl) (by rfl) (D8 (U8 7 M6.nd) (D8 (U8 8 M6.nd) (D8 (U8 9 M6.nd) T1))) (by rfl) (by rfl)))
   (B3 (A6c (i:=10) (j:=11) rfl M6.nd rfl rfl (by decide) rfl rfl (A2 (G7 (C9 K (by rfl)) (D1 1) (D1 3) (λ_ _=>rfl)) (A2 (G7 (C9 K (by rfl)) (D1 1) (D1 4) (λ_ _=>rfl)) B5)) (by rfl))
   (B3 (O7 (J1 (by exact D_blended) (by exact hr.mono (by decide)) (A2 (D1 10) (A2 (D1 8) (A2 (D1 11) (A2 (D1 9) B5))))) (V5 (D1 1) (D1 3) Q2))
   (B3 (O7 (J1 (by exact D_blended) (by exact hr.mono (by decide)) (A2 (D1 10) (A2 (A7r A83 (P8 (V9 ⟨⟨_,_,rfl,rfl,rfl,rfl,rfl⟩⟩ (by exact hT) (by exact hr.pyl)) (D1 6) (D1 7))) (A2 (D1 11) (A2 (P8 (V9 ⟨⟨_,_,rfl,rfl,rfl,rfl,rfl⟩⟩ (by exact hT) (by exact hr.pyl)) (D1 5) (D1 7)) B5))))) (V5 (D1 1) (D1 4) Q2))
   (B3 (A6c (i:=10) (j:=11) rfl M6.nd rfl rfl (by decide) rfl rfl (A2 (G7 (C9 K (by rfl)) (D1 2) (D1 3) (λ_ _=>rfl)) (A2 (G7 (C9 K (by rfl)) (D1 2) (D1 4) (λ_ _=>rfl)) B5)) (by rfl))
   (B3 (O7 (J1 (by exact D_blended) (by exact hr.mono (by decide)) (A2 (D1 10) (A2 N2 (A2 (D1 11) (A2 N2 B5))))) (V5 (D1 2) (D1 3) Q2))
   (B3 (O7 (J1 (by exact D_blended) (by exact hr.mono (by decide)) (A2 (D1 10) (A2 (P8 A6h (A7r A83 (D1 9)) (P8 (V9 ⟨⟨_,_,rfl,rfl,rfl,rfl,rfl⟩⟩ (by exact hT) (by exact hr.pyl)) (D1 6) (D1 7))) (A2 (D1 11) (A2 (P8 A6h (D1 8) (P8 (V9 ⟨⟨_,_,rfl,rfl,rfl,rfl,rfl⟩⟩ (by exact hT) (by exact hr.pyl)) (D1 5) (D1 7))) B5))))) (V5 (D1 2) (D1 4) Q2))
   (B3 (O7 (D1 7) (V5 (G7 (C9 K (by rfl)) (D1 0) (D1 3) (λ_ _=>rfl)) (D1 3) Q2))
   (J8 (O7 (P8 A6h (P8 (V9 ⟨⟨_,_,rfl,rfl,rfl,rfl,rfl⟩⟩ (by exact hT) (by exact hr.pyl)) (D1 5) (D1 7)) (D1 6)) (V5 (G7 (C9 K (by rfl)) (D1 0) (D1 4) (λ_ _=>rfl)) (D1 4) Q2)))))))))))) ?_
 show (_:TS) _ [some (.ref a),some (.ref l),some (.ref r),some (.int i),some (.int j),none,none,none,none,none,none,none] H;refine B1g rfl λTT eT=>?_;simp only[L2.C18];walk_at "rd";have O1:=Z.n0.2;have O2:=Z.m0.2;have kn:=C.rn;have km:=C.rm;have rowM:∀ {i:Nat},i < k->∃ p z,ms[i]?=some p/\M[i]?=some z/\H p=some (.lst (z.map V.int))/\z.length=m/\gv z i=d i:=λ{i} hi=>by
  obtain ⟨z,hz⟩:∃ z,M[i]?=some z:=⟨_,zd (by rw[Z.lM.1];lia)⟩;obtain ⟨p,h1,h2⟩:=Z.RM.get hz;refine ⟨p,z,h1,hz,h2,Z.lM.2 z (zx hz),?_⟩;rw[<-T5 hz,C.cell i i (by lia) (by lia),qr ⟨rfl,hi⟩]
 obtain ⟨pi,zi,mi,Mi,hpi,zil,zid⟩:=rowM (i:=i) (by lia);obtain ⟨pj,zj,mj,Mj,hpj,zjl,zjd⟩:=rowM hj;have dD:=C.dD (i:=i) (by lia);have dD2:=C.dD hj;refine ⟨_,E6.of Z.ha,_,B9 (by rw[qp,mi];rfl),pi,rfl,_,E6.of hpi,_,A0b (by lia),_,E6.of Z.ha,_,B9 (by rw[qp,mj];rfl),pj,rfl,_,E6.of hpj,_,A0b (by lia),?_⟩;rw[zid,zjd];refine ⟨_,_,⟨rfl,rfl⟩,?_⟩;refine B1g eT λTT eT=>?_;walk_at "rd";refine C92 (C.pos i (by lia)) dD dD2 (by lia) λg s t pt H1 S sm1 hpt=>⟨pt,rfl,_,hpt,rfl,_,_,rfl,_,_,rfl,_,_,rfl,rfl,?_⟩;have Z1:=Z.same sm1;obtain ⟨ui,hui⟩:∃ z,L[i]?=some z:=⟨_,zd (by rw[Z.lL.1];lia)⟩;obtain ⟨uj,huj⟩:∃ z,L[j]?=some z:=⟨_,zd (by rw[Z.lL.1];lia)⟩;obtain ⟨vi,hvi⟩:∃ z,R[i]?=some z:=⟨_,zd (by rw[Z.lR.1];lia)⟩;obtain ⟨vj,hvj⟩:∃ z,R[j]?=some z:=⟨_,zd (by rw[Z.lR.1];lia)⟩;obtain ⟨qi,lsi,hqi⟩:=Z1.RL.get hui;obtain ⟨qj,lsj,hqj⟩:=Z1.RL.get huj;have uil:=Z.lL.2 ui (zx hui);have ujl:=Z.lL.2 uj (zx huj);have vil:=Z.lR.2 vi (zx hvi);have vjl:=Z.lR.2 vj (zx hvj);have hs:=S.s1;have ht:=S.t1;have g0:=S.g0;have e2:2 ^ (D+2)=4*2 ^ D:=by rw[Nat.pow_add,Nat.mul_comm]
 have e1:2 ^ (D+1)=2*2 ^ D:=by rw[Nat.pow_add,Nat.mul_comm]
 have s1:Bt (D+1) s:=by unfold Bt at *;lia
 have t1:Bt (D+2) t:=by unfold Bt at *;lia
 have qa:=dD.quo g0 S.da;have qb:=dD2.quo g0 S.db;have bu:∀ x,x < n->Bt e (gv ui x):=λx hx=>by rw[<-T5 hui];exact C.bl i x (by lia) hx
 have bu2:∀ x,x < n->Bt e (gv uj x):=λx hx=>by rw[<-T5 huj];exact C.bl j x (by lia) hx
 have bv:∀ x,x < m->Bt e (gv vi x):=λx hx=>by rw[<-T5 hvi];exact C.br i x (by lia) hx
 have bv2:∀ x,x < m->Bt e (gv vj x):=λx hx=>by rw[<-T5 hvj];exact C.br j x (by lia) hx
 have lsl:=Z.RL.len;have rsl:=Z.RR.len;have msl:=Z.RM.len;have lL:=Z.lL.1;have lR:=Z.lR.1;have lM:=Z.lM.1;refine B1g eT λTT eT=>?_;simp only[L2.C18];walk_at "rd";refine ⟨_,E6.of Z1.hl,_,B9 (by rw[qp,lsi];rfl),_,E6.of Z1.hl,_,B9 (by rw[qp,lsj];rfl),?_⟩;refine ⟨_,_,⟨rfl,rfl⟩,?_⟩;refine B1g eT λTT eT=>?_;walk_at "rd";refine A8g hqi hqj (by lia) (by lia) (λx hx=>⟨A1l s1 (bu x (by lia)) (by lia),A1l t1 (bu2 x (by lia)) (by lia)⟩) λp1 H2 sm2 fr1 hp1=>?_;have n1:=(Z1.no fr1);have Z2:=(Z1.same sm2).setL hp1 n1 (by rw[W6 (by lia)];exact uil) i;have k2:Sm1 l H2 (E5 H2 l (.lst ((ls.map V.ref).set i (.ref p1)))):=λb o hb h=>by rw[B4 hb];exact h
 have nn:=Z.nd;have lq:∀ {x:Addr},x∈ls->x≠l:=λ{x} h e=>(nodup_cons.mp (nodup_cons.mp nn).2).1 (by rw[<-e];exact qy _ (qz _ (za _ h)));have hqi2:=k2 _ _ (lq (zx lsi)) (sm2 _ _ hqi);have hqj2:=k2 _ _ (lq (zx lsj)) (sm2 _ _ hqj);refine ⟨_,sm2 _ _ Z1.hl,i,J6 (by rw[qk];lia),?_⟩;generalize E5 H2 l (.lst ((ls.map V.ref).set i (.ref p1)))=H3 at *;refine B1g eT λTT eT=>?_;walk_at "rd";rw[Int.fdiv_eq_ediv_of_nonneg _ (Int.le_of_lt g0),Int.fdiv_eq_ediv_of_nonneg _ (Int.le_of_lt g0)];have gn:g≠0:=by lia
 refine ⟨gn,gn,A8g hqi2 hqj2 (by lia) (by lia) (λx hx=>⟨A1l qb.neg (bu x (by lia)) (by lia),A1l qa (bu2 x (by lia)) (by lia)⟩) λp2 H4 sm4 fr2 hp2=>?_⟩;have n2:=Z2.no fr2;have Z4:=(Z2.same sm4).setL hp2 n2 (by rw[W6 (by lia)];exact uil) j;have k4:Sm1 l H4 (E5 H4 l (.lst (((ls.set i p1).map V.ref).set j (.ref p2)))):=λb o hb h=>by rw[B4 hb];exact h
 refine ⟨_,sm4 _ _ Z2.hl,j,J6 (by rw[qk,length_set];lia),?_⟩;generalize E5 H4 l (.lst (((ls.set i p1).map V.ref).set j (.ref p2)))=H5 at *;refine B1g eT λTT eT=>?_;simp only[L2.C18];walk_at "rd";obtain ⟨ri,rsi,hri⟩:=Z4.RR.get hvi;obtain ⟨rj,rsj,hrj⟩:=Z4.RR.get hvj;refine ⟨_,E6.of Z4.hr,_,B9 (by rw[qp,rsi];rfl),_,E6.of Z4.hr,_,B9 (by rw[qp,rsj];rfl),?_⟩;refine ⟨_,_,⟨rfl,rfl⟩,?_⟩;refine B1g eT λTT eT=>?_;walk_at "rd";refine A8g hri hrj (by lia) (by lia) (λx _=>⟨A5z.ok (.inl ⟨by decide,by decide⟩),A5z.ok (.inl ⟨by decide,by decide⟩)⟩) λp3 H6 sm6 fr3 hp3=>?_;have n3:=Z4.no fr3;have Z6:=(Z4.same sm6).setR hp3 n3 (by rw[W6 (by lia)];exact vil) i;have k6:Sm1 r H6 (E5 H6 r (.lst ((rs.map V.ref).set i (.ref p3)))):=λb o hb h=>by rw[B4 hb];exact h
 have rq:∀ {x:Addr},x∈rs->x≠r:=λ{x} h e=>(nodup_cons.mp (nodup_cons.mp (nodup_cons.mp nn).2).2).1 (by rw[<-e];exact qz _ (qz _ h));have hri2:=k6 _ _ (rq (zx rsi)) (sm6 _ _ hri);have hrj2:=k6 _ _ (rq (zx rsj)) (sm6 _ _ hrj);refine ⟨_,sm6 _ _ Z4.hr,i,J6 (by rw[qk];lia),?_⟩;generalize E5 H6 r (.lst ((rs.map V.ref).set i (.ref p3)))=H7 at *;refine B1g eT λTT eT=>?_;walk_at "rd";rw[Int.fdiv_eq_ediv_of_nonneg _ (Int.le_of_lt g0),Int.fdiv_eq_ediv_of_nonneg _ (Int.le_of_lt g0)];refine ⟨gn,A1l t1.neg qb (by lia),gn,A1l s1 qa (by lia),A8g hri2 hrj2 (by lia) (by lia) (λx hx=>⟨A1l (t1.neg.mul qb) (bv x (by lia)) (by lia),A1l (s1.mul qa) (bv2 x (by lia)) (by lia)⟩) λp4 H8 sm8 fr4 hp4=>?_⟩;have n4:=Z6.no fr4;have Z8:=(Z6.same sm8).setR hp4 n4 (by rw[W6 (by lia)];exact vil) j;have k8:Sm1 r H8 (E5 H8 r (.lst (((rs.set i p3).map V.ref).set j (.ref p4)))):=λb o hb h=>by rw[B4 hb];exact h
 refine ⟨_,sm8 _ _ Z6.hr,j,J6 (by rw[qk,length_set];lia),?_⟩;generalize E5 H8 r (.lst (((rs.set i p3).map V.ref).set j (.ref p4)))=H9 at *;refine B1g eT λTT eT=>?_;walk_at "rd";obtain ⟨pi',mi',hpi'⟩:=Z8.RM.get Mi;rw[mi] at mi';cases mi';refine ⟨_,E6.of Z8.ha,_,B9 (by rw[qp,mi];rfl),_,rfl,_,hpi',i,J6 (by rw[qk];lia),?_⟩;subst eT;walk_at "rd";rw[Int.fdiv_eq_ediv_of_nonneg _ (Int.le_of_lt g0)];refine ⟨gn,A1l qa dD2 (by lia),?_⟩;have Z9:=Z8.setM (z:=zi.set i g) mi (by rw[length_set];exact zil);have k9:Sm1 pi H9 (E5 H9 pi (.lst ((zi.map V.int).set i (.int g)))):=λb o hb h=>by rw[B4 hb];exact h
 rw[map_set] at Z9;generalize E5 H9 pi (.lst ((zi.map V.int).set i (.int g)))=H10 at *;obtain ⟨pj',mj',hpj'⟩:=Z9.RM.get (i:=j) (z:=zj) (by rw[List.getElem?_set_ne (by lia)];exact Mj);rw[mj] at mj';cases mj';refine ⟨_,E6.of Z9.ha,_,B9 (by rw[qp,mj];rfl),_,rfl,_,hpj',j,J6 (by rw[qk];lia),?_⟩;have Z10:=Z9.setM (z:=zj.set j (d i / g*d j)) mj (by rw[length_set];exact zjl);have k10:Sm1 pj H10 (E5 H10 pj (.lst ((zj.map V.int).set j (.int (d i / g*d j))))):=λb o hb h=>by rw[B4 hb];exact h
 rw[map_set] at Z10;generalize E5 H10 pj (.lst ((zj.map V.int).set j (.int (d i / g*d j))))=H11 at *;have f3:∀ b o,b≠l->H b=some o->H3 b=some o:=λb o hb h=>k2 _ _ hb (sm2 _ _ (sm1 _ _ h));have f5:∀ b o,b≠l->H b=some o->H5 b=some o:=λb o hb h=>k4 _ _ hb (sm4 _ _ (f3 b o hb h));have f7:∀ b o,b≠l->b≠r->H b=some o->H7 b=some o:=λb o hb hc h=>k6 _ _ hc (sm6 _ _ (f5 b o hb h));have f9:∀ b o,b≠l->b≠r->H b=some o->H9 b=some o:=λb o hb hc h=>k8 _ _ hc (sm8 _ _ (f7 b o hb hc h));have fresh:∀ {H':Hp} {x:Addr},(∀ o,H x=some o->H' x=some o)->H' x=none->H x=none:=λ{H' x} f h=>by
  cases e:H x with
  | none=>rfl
  | some o=>rw[f o e] at h;cases h
 have hin:i≠j:=by lia
 have Cp:=C.pair hij hj S (M':=gm ((M.set i (zi.set i g)).set j (zj.set j (d i / g*d j)))) λp y hp hy=>by
  rw[A5b (by rw[length_set];lia),A5b (by lia)];by_cases e1:p=j
  ·subst e1;rw[qr rfl,C1p (by lia),qs (c:=p=i/\y=i) (by lia)];by_cases e2:y=p
   ·rw[qr e2,qr ⟨rfl,e2⟩]
   ·rw[qs e2,qs (by lia),T5 Mj]
  ·rw[qs e1];by_cases e2:p=i
   ·subst e2;rw[qr rfl,C1p (by lia)];by_cases e3:y=p
    ·rw[qr e3,qr ⟨rfl,e3⟩]
    ·rw[qs e3,qs (by lia),qs (by lia),T5 Mi]
   ·rw[qs e2,qs (by lia),qs (by lia)]
 have eL:two i j (λq=>s*gm L i q+t*gm L j q) (λq=>-(d j / g)*gm L i q+d i / g*gm L j q) (gm L)=gm ((L.set i (bld ui s uj t)).set j (bld ui (-(d j / g)) uj (d i / g))):=by
  funext p;rw[A5b (by rw[length_set];lia),A5b (by lia),T5 hui,T5 huj];unfold two;by_cases e1:p=i
  ·rw[qr e1,qs (by lia),qr e1];funext x;rw[W4 (by lia)]
  ·rw[qs e1,qs (c:=p=i) e1];split
   ·funext x;rw[W4 (by lia)]
   ·rfl
 have eR:two i j (λq=>1*gm R i q+1*gm R j q) (λq=>-t*(d j / g)*gm R i q+s*(d i / g)*gm R j q) (gm R)=gm ((R.set i (bld vi 1 vj 1)).set j (bld vi (-t*(d j / g)) vj (s*(d i / g)))):=by
  funext p;rw[A5b (by rw[length_set];lia),A5b (by lia),T5 hvi,T5 hvj];unfold two;by_cases e1:p=i
  ·rw[qr e1,qs (by lia),qr e1];funext x;rw[W4 (by lia)]
  ·rw[qs e1,qs (c:=p=i) e1];split
   ·funext x;rw[W4 (by lia)]
   ·rfl
 rw[eL,eR] at Cp;refine q H11 _ _ _ _ _ g s t (λb o hb h=>?_) (λx hx=>?_) Z10 S Cp
 ·have hb:=no4 hb;exact k10 _ _ (λe=>hb.2.2 (e ▸ zx mj)) (k9 _ _ (λe=>hb.2.2 (e ▸ zx mi)) (f9 b o hb.1 hb.2.1 h))
 ·sleep 18
  ·rcases S8 hx with hx|rfl
   ·rcases S8 hx with hx|rfl
    ·exact .inl (za _ hx)
    ·exact .inr (fresh (λo h=>sm1 _ _ h) fr1)
   ·exact .inr (fresh (λo h=>f3 _ o (no4 n2).1 h) fr2)
  ·rcases S8 hx with hx|rfl
   ·rcases S8 hx with hx|rfl
    ·exact .inl (qz _ hx)
    ·exact .inr (fresh (λo h=>f5 _ o (no4 n3).1 h) fr3)
   ·exact .inr (fresh (λo h=>f7 _ o (no4 n4).1 (no4 n4).2.1 h) fr4)
open M06 (Bt Shr Ch CI two)
abbrev W2:Stmt:=top 29
theorem Q6:C2 ["middle","left","turned_right","many","i","j"] ["middle","left","turned_right"] (B1 W2):=by walk_at "sc"
def A4a:Sp:=λvs H Q _=>∃ (a l r:Addr) (n m k D e:Nat) (ms ls rs:List Addr) (M L R:List (List Int)) (G:MDet.Mat) (d:Nat->Int),vs=[.ref a,.ref l,.ref r]/\Tri n m H a l r ms ls rs M L R/\Ch n m k D G (gm M) (gm L) (gm R) d e/\2*(e+73*(2*D+6))+1000<=134217728 /\
 ∀ (H':Hp) (ls' rs':List Addr) (M' L' R':List (List Int)) (d':Nat->Int),(∀ b o,b∉a::l::r::ms->H b=some o->H' b=some o)->(∀ x∈ls'++rs',x∈ls++rs\/H x=none)->Tri n m H' a l r ms ls' rs' M' L' R'->Ch n m k D G (gm M') (gm L') (gm R') d' (e+72*(2*D+6))->CI k k k d'->Q .non H'
theorem A4v (F:W5 K "chain_corners" "chain_corners" W2 f fd) (T:Blt mg) (hT:P.given.tree=none) (D_chain_pair:Df P w K mg base "chain_pair" ["middle","left","turned_right","i","j"] 42 (B1l)):J5 P w K mg base CX0 43 f fd ["middle","left","turned_right"] A4a:=by
 refine F.ok Q6 (λvs H Q E h=>?_) (λcdv A outer s H vs Q E hr h=>?_)
 ·obtain ⟨a,l,r,n,m,k,D,e,ms,ls,rs,M,L,R,G,d,rfl,_⟩:=h;rfl
 obtain ⟨a,l,r,n,m,k,D,e,ms,ls,rs,M,L,R,G,d,rfl,Z,C,hb,q⟩:=h;refine qmk (B3 (S7 3 Q6.nd (K6 (P4 K (by rfl)) (by rfl) (by exact T.len) (by decide +kernel) (A2 (B0s ["at"] [("middle",0)] rfl (C7.of (by kernel_rfl)) (A3h (by rfl) (by exact T.range) (A2 (K6 (B03 (by rfl)) (by rfl) (by exact T.min) (by decide +kernel) (A2 (K6 (P4 K (by rfl)) (by rfl) (by exact T.len) (by decide +kernel) (A2 (D1 0) B5)) (A2 (K6 (P4 K (by rfl)) (by rfl) (by exact T.len) (by decide +kernel) (A2 (G7 (C9 K (by rfl)) (D1 0) N2 (λ_ _=>rfl)) B5)) B5))) B5)) (λ_ _ _ _=>⟨(U8 0 (I0 (by kernel_rfl))),(B3j (S9 C93 (G7 (C9 K (by rfl)) (G7 (C9 K (by rfl)) (D1 1) (D1 0) (λ_ _=>rfl)) (D1 0) (λ_ _=>rfl)) N2 (B6 _))),(A3y (by rfl) (by rfl) (D1 0))⟩)) B5)))
   (J8 (A3x PassesOwn.never rfl (A3h (by rfl) (by exact T.range) (A2 (D1 3) B5)) (U8 4 Q6.nd) (J8 (A3x PassesOwn.never rfl (A6v (by rfl) (by exact T.range) (A2 (P8 B1n (D1 4) N2) (A2 (D1 3) B5))) (U8 5 Q6.nd) (J8 (B1b (S9 C93 (P8 B72 (G7 (C9 K (by rfl)) (G7 (C9 K (by rfl)) (D1 0) (D1 5) (λ_ _=>rfl)) (D1 5) (λ_ _=>rfl)) (G7 (C9 K (by rfl)) (G7 (C9 K (by rfl)) (D1 0) (D1 4) (λ_ _=>rfl)) (D1 4) (λ_ _=>rfl))) N2 (B6 _)) (J8 (X4 (J1 (by exact D_chain_pair) (by exact hr.mono (by decide)) (A2 (D1 0) (A2 (D1 1) (A2 (D1 2) (A2 (D1 4) (A2 (D1 5) B5)))))))) A4f))))))) ?_
 show (_:TS) _ [some (.ref a),some (.ref l),some (.ref r),none,none,none] H;walk_at "rd";have O1:=Z.n0;have O2:=Z.m0;have kn:=C.rn;have km:=C.rm;have msl:=Z.RM.len;have lM:=Z.lM.1;have rowM:∀ {H':Hp} {ls rs:List Addr} {M L R:List (List Int)} {d:Nat->Int} {e i:Nat},Tri n m H' a l r ms ls rs M L R->Ch n m k D G (gm M) (gm L) (gm R) d e->i < n->i < m->∃ p z,ms[i]?=some p/\M[i]?=some z/\H' p=some (.lst (z.map V.int))/\z.length=m/\gv z i=if i < k then d i else 0:=λ{H' ls rs M L R d e i} Z C hn hm=>by
  obtain ⟨z,hz⟩:∃ z,M[i]?=some z:=⟨_,zd (by rw[Z.lM.1];lia)⟩;obtain ⟨p,h1,h2⟩:=Z.RM.get hz;refine ⟨p,z,h1,hz,h2,Z.lM.2 z (zx hz),?_⟩;rw[<-T5 hz,C.cell i i (by lia) (by lia)];by_cases h:i < k
  ·rw[qr ⟨rfl,h⟩,qr h]
  ·rw[qs (λz=>h z.2),qs h]
 obtain ⟨p0,z0,m0,M0,hp0,z0l,_⟩:=rowM Z C O1.1 O2.1;refine ⟨_,.inl (E6.of Z.ha),_,E6.of Z.ha,_,show atI _ ((0:Nat):Int)=_ from B9 (by rw[qp,m0];rfl),p0,rfl,_,.inl (E6.of hp0),_,_,⟨rfl,rfl⟩,?_⟩;rw[qk,qk,msl,lM,z0l];obtain ⟨mn,hmn,h1,h2,h3⟩:∃ mn:Nat,(if (m:Int) < (n:Int) then (m:Int) else n)=mn/\mn<=n/\mn<=m/\k<=mn:=by
  split
  ·exact ⟨m,rfl,by lia,by lia,by lia⟩
  ·exact ⟨n,rfl,by lia,by lia,by lia⟩
 rw[hmn];refine ⟨by lia,by lia,λacc hacc=>?_⟩;have sm0:A8 H (E5 H acc (.lst [])):=A8.new hacc;have e0:E5 H acc (.lst []) acc=some (.lst []):=B7;have hbn:∀ {b o},H b=some o->b≠acc:=λh e=>by rw[e,hacc] at h;cases h
 generalize E5 H acc (.lst [])=H0 at *;refine A3e (λi U H2=>∃ x:Option V,U=[x,some (.ref a)]/\A8 H H2/\H2 acc=some (.lst ((List.range (min i k)).map λx=>V.int (x:Nat)))) ⟨_,rfl,sm0,by rw[Nat.zero_min];exact e0⟩ (λi U H2 hi ⟨x,e,sm,ha⟩=>?_) ?_
 ·subst e;rw[Int.toNat_natCast] at hi;rw[show (0:Int)+(i:Int)=((i:Nat):Int) by lia];obtain ⟨p,z,g1,g2,g3,g4,g5⟩:=rowM Z C (i:=i) (by lia) (by lia);walk_at "rd";refine ⟨_,E6.of (sm _ _ Z.ha),_,B9 (by rw[qp,g1];rfl),_,rfl,_,E6.of (sm _ _ g3),_,A0b (by lia),?_⟩;rw[g5];refine ⟨rfl,?_⟩;by_cases hk:i < k
  ·rw[qr hk];have:=C.pos i hk;rw[qr (by simp;lia)];refine ⟨_,ha,Q1 (by rw[qk,length_range];lia),λb o h=>by rw[B4 (hbn h)];exact sm _ _ h,?_⟩;rw[B7,show min i k=i by lia,show min (i+1) k=i+1 by lia,List.range_succ,map_append];rfl
  ·rw[qs hk,qs (by simp)];exact ⟨sm,by rw[ha,show min (i+1) k=min i k by lia]⟩
 rintro U H2 ⟨x,rfl,sm,ha⟩;rw[Int.toNat_natCast,show min mn k=k by lia] at ha;refine ⟨_,.inl (E6.of ha),?_⟩;rw[qk,length_range];refine ⟨by lia,by lia,?_⟩;refine A3e (λi U H3=>∃ (ls' rs':List Addr) (M' L' R':List (List Int)) (d':Nat->Int) (x:Option V) (y:Option V),U=[some (.ref a),some (.ref l),some (.ref r),some (.int k),x,y]/\(∀ b o,b∉a::l::r::ms->H b=some o->H3 b=some o)/\(∀ x∈ls'++rs',x∈ls++rs\/H x=none)/\Tri n m H3 a l r ms ls' rs' M' L' R'/\Ch n m k D G (gm M') (gm L') (gm R') d' (e+8*i*(2*D+6))/\CI k i (i+1) d')
  ⟨ls,rs,M,L,R,d,_,_,rfl,λb o _ h=>sm _ _ h,λx hx=>.inl hx,Z.same sm,by rw[Nat.mul_zero,Nat.zero_mul];exact C,λp q h1 h2 h3=>by lia⟩ (λi U H3 hi ⟨ls',rs',M',L',R',d',x,y,e',fr,mr,Z3,C3,I⟩=>?_) ?_
 ·subst e';rw[Int.toNat_natCast] at hi;rw[show (0:Int)+(i:Int)=((i:Nat):Int) by lia];walk_at "rd";refine ⟨_,_,⟨rfl,rfl⟩,⟨by lia,by lia,by lia,by lia⟩,?_⟩;refine A3e (λc U H4=>∃ (ls' rs':List Addr) (M' L' R':List (List Int)) (d':Nat->Int) (y:Option V),U=[some (.ref a),some (.ref l),some (.ref r),some (.int k),some (.int i),y]/\(∀ b o,b∉a::l::r::ms->H b=some o->H4 b=some o)/\(∀ x∈ls'++rs',x∈ls++rs\/H x=none)/\Tri n m H4 a l r ms ls' rs' M' L' R'/\Ch n m k D G (gm M') (gm L') (gm R') d' (e+(8*i+c)*(2*D+6))/\CI k i (i+1+c) d')
   ⟨ls',rs',M',L',R',d',_,rfl,fr,mr,Z3,C3,I⟩ (λc U H4 hc ⟨ls',rs',M',L',R',d',y,e',fr,mr,Z4,C4,I⟩=>?_) ?_
  ·subst e';have hc':i+1+c < k:=by lia
   rw[show ((i:Int)+1+(c:Int))=((i+1+c:Nat):Int) by lia];have hcm:=Nat.mul_le_mul_right (2*D+6) (show 8*i+c+1<=72 by lia);rw[Nat.add_mul,Nat.one_mul] at hcm;generalize hj:i+1+c=j at *;obtain ⟨p,z,g1,g2,g3,g4,g5⟩:=rowM Z4 C4 (i:=j) (by lia) (by lia);obtain ⟨p',z',f1,f2,f3,f4,f5⟩:=rowM Z4 C4 (i:=i) (by lia) (by lia);rw[qr (by lia)] at g5 f5;have di:=C4.pos i (by lia);walk_at "rd";refine ⟨_,E6.of Z4.ha,_,B9 (by rw[qp,g1];rfl),_,rfl,_,E6.of g3,_,A0b (by lia),_,E6.of Z4.ha,_,B9 (by rw[qp,f1];rfl),_,rfl,_,E6.of f3,_,A0b (by lia),?_⟩;rw[g5,f5];refine ⟨_,rfl,_,rfl,by lia,?_⟩;rw[Int.fmod_eq_emod_of_nonneg _ (Int.le_of_lt di),show i+1+(c+1)=j+1 by lia,show 8*i+(c+1)=8*i+c+1 by lia];have ee:(8*i+c+1)*(2*D+6)=(8*i+c)*(2*D+6)+(2*D+6):=by rw[Nat.add_mul,Nat.one_mul]
   by_cases hd:d' j % d' i=0
   ·rw[qs (by simpa using hd)];exact ⟨fr,ls',rs',mr,M',L',R',Z4,d',⟨C4.rel,C4.gl,C4.gr,C4.rn,C4.rm,C4.cell,C4.pos,C4.pD,λi' j hi' hj=>(C4.bl i' j hi' hj).up (by lia),λi' j hi' hj=>(C4.br i' j hi' hj).up (by lia)⟩,I.one (Int.dvd_of_emod_eq_zero hd)⟩
   ·rw[qr (by simpa using hd)];refine ⟨a,l,r,i,j,n,m,k,D,e+(8*i+c)*(2*D+6),ms,ls',rs',M',L',R',G,d',rfl,Z4,by lia,hc',C4,by lia,λH5 ls5 rs5 M5 L5 R5 g s t fr5 mr5 Z5 S C5=>⟨λb o hb h=>fr5 b o hb (fr b o hb h),ls5,rs5,λx hx=>?_,M5,L5,R5,Z5,_,⟨C5.rel,C5.gl,C5.gr,C5.rn,C5.rm,C5.cell,C5.pos,C5.pD,λi' j hi' hj=>(C5.bl i' j hi' hj).up (by lia),λi' j hi' hj=>(C5.br i' j hi' hj).up (by lia)⟩,I.pair (by lia) hc' S⟩⟩;rcases mr5 x hx with h|h
    ·exact mr x h
    ·refine .inr ?_;cases e':H x with
     | none=>rfl
     | some o =>
      by_cases hb:x∈a::l::r::ms
      ·obtain ⟨o',h'⟩:=Z4.some (x:=x) (by
        simp only[zn,zm] at hb ⊢;rcases hb with h|h|h|h
        ·exact .inl h
        ·exact .inr (.inl h)
        ·exact .inr (.inr (.inl h))
        ·exact .inr (.inr (.inr (.inl h))))
       rw[h] at h';cases h'
      ·rw[fr x o hb e'] at h;cases h
  ·rintro U H4 ⟨ls',rs',M',L',R',d',y,rfl,fr,mr,Z4,C4,I⟩;rw[show ((k:Int) - ((i:Int)+1)).toNat=k - (i+1) by lia] at C4 I;rw[show i+1+(k - (i+1))=k by lia] at I;refine ⟨ls',rs',M',L',R',d',_,_,rfl,fr,mr,Z4,⟨C4.rel,C4.gl,C4.gr,C4.rn,C4.rm,C4.cell,C4.pos,C4.pD,λi' j hi' hj=>(C4.bl i' j hi' hj).up ?_,λi' j hi' hj=>(C4.br i' j hi' hj).up ?_⟩,I.next⟩
   ·have:=Nat.mul_le_mul_right (2*D+6) (show 8*i+(k - (i+1))<=8*(i+1) by lia);lia
   ·have:=Nat.mul_le_mul_right (2*D+6) (show 8*i+(k - (i+1))<=8*(i+1) by lia);lia
 ·rintro U H3 ⟨ls',rs',M',L',R',d',x,y,rfl,fr,mr,Z3,C3,I⟩;rw[Int.toNat_natCast] at C3 I;refine q H3 ls' rs' M' L' R' d' fr mr Z3 ⟨C3.rel,C3.gl,C3.gr,C3.rn,C3.rm,C3.cell,C3.pos,C3.pD,λi j hi hj=>(C3.bl i j hi hj).up ?_,λi j hi hj=>(C3.br i j hi hj).up ?_⟩ λp q h1 h2 h3=>I p q h1 h2 (by lia)
  ·have:=Nat.mul_le_mul_right (2*D+6) (show 8*k<=72 by lia);lia
  ·have:=Nat.mul_le_mul_right (2*D+6) (show 8*k<=72 by lia);lia
def Sh (n m:Nat) (g:List (List Int)):Prop:=g.length=n/\∀ r∈g,r.length=m
def N0 (R:List (List Int)):MDet.Mat:=λi j=>(R.getD i []).getD j 0
theorem A2q {i:Nat} {x:Int} (h:R[i]?=some r) (h':r[j]?=some x):N0 R i j=x:=by
 unfold N0;rw[getD_eq_getElem?_getD,getD_eq_getElem?_getD,h,Option.getD_some,h'];rfl
theorem Sh.row (h:Sh n m R) {i:Nat} (hi:i < n):∃ r,R[i]?=some r/\r.length=m/\r∈R:=by
 have hi':i < R.length:=by rw[h.1];exact hi
 exact ⟨R[i],zd hi',h.2 _ (List.getElem_mem hi'),List.getElem_mem hi'⟩
theorem Sh.cell (h:Sh n m R) {i:Nat} (hi:i < n) (hj:j < m):∃ r,R[i]?=some r/\r[j]?=some (N0 R i j)/\r∈R/\N0 R i j∈r:=by
 obtain ⟨r,h1,h2,h3⟩:=h.row hi;have hj':j < r.length:=by rw[h2];exact hj
 have h4:r[j]?=some r[j]:=zd hj';have h5:=A2q h1 h4;exact ⟨r,h1,by rw[h5];exact h4,h3,by rw[h5];exact List.getElem_mem hj'⟩
def N1 (n m:Nat) (M:MDet.Mat):List (List Int):=(List.range n).map λi=>(List.range m).map λj=>M i j
theorem N4 (n m:Nat) (M:MDet.Mat):Sh n m (N1 n m M):=⟨by simp[N1],λr hr=>by
 obtain ⟨i,_,rfl⟩:=zg.mp hr;simp⟩
theorem K7 {α:Type} {i:Nat} (f:Nat->α) (h:i < n):((List.range n).map f)[i]?=some (f i):=by
 rw[qp,List.getElem?_range h];rfl
theorem Q7 {M:MDet.Mat} {i:Nat} (hi:i < n) (hj:j < m):N0 (N1 n m M) i j=M i j:=A2q (K7 _ hi) (K7 _ hj)
theorem B5r {M:MDet.Mat} (sh:Sh n m R) (h:∀ i j,i < n->j < m->N0 R i j=M i j):R=N1 n m M:=by
 refine List.ext_getElem? λi=>?_;by_cases hi:i < n
 ·obtain ⟨r,r1,r2,r3⟩:=sh.row hi;rw[r1];unfold N1;rw[K7 _ hi];congr 1;refine List.ext_getElem? λj=>?_;by_cases hj:j < m
  ·obtain ⟨r',a1,a2,_⟩:=sh.cell hi hj;rw[r1] at a1;injection a1 with a1
   subst a1;rw[a2,K7 _ hj,h i j hi hj]
  ·rw[List.getElem?_eq_none (by lia),List.getElem?_eq_none (by simp;lia)]
 ·rw[List.getElem?_eq_none (by rw[sh.1];lia),List.getElem?_eq_none (by rw[(N4 n m M).1];lia)]
theorem D3k {i:Nat} (sh:Sh n m g) (hi':i < m):PyData.list (g.map λr=>PyData.int (r.getD i 0))=iD ((List.range n).map λj=>N0 g j i):=by
 have hgl:=sh.1;unfold iD;rw[map_map];congr 1;refine List.ext_getElem? λj=>?_;by_cases hj:j < n
 ·obtain ⟨r,b1,b2,_⟩:=sh.cell hj hi';rw[qp,b1,K7 _ hj];show some (PyData.int (r.getD i 0))=_;rw[getD_eq_getElem?_getD,b2];rfl
 ·rw[List.getElem?_eq_none (by rw[qk];lia),List.getElem?_eq_none (by simp;lia)]
abbrev A13:Stmt:=top 5
theorem A8x:C2 ["n"] ["n"] (B1 A13):=by walk_at "sc"
def Y2:SpD:=λds Q _=>∃ (n:Nat),ds=[.int n]/\n<=8/\Q (gD (N1 n n MDet.idm)) true
theorem A8q (F:W5 K "plain_grid" "plain_grid" A13 f fd) (T:Blt mg):J5 P w K mg base CX0 1 f fd ["n"] (G3 K Y2):=by
 refine ok0 F A8x (λds Q X h=>?_) (λcdv A outer s H E hr=>?_) λds Qd Xd h=>h
 ·obtain ⟨n,rfl,_⟩:=h;rfl
 refine ⟨_,(A7 (C6 (L4 ["i"] [("n",0)] rfl (C7.of (by kernel_rfl)) (K0 (by rfl) (by exact T.range) (A0 (B2 0) A6)) (λ_ _ _ _=>⟨(K5 0 (I0 (by kernel_rfl))),E3,(D5 (by rfl) (by rfl) (L4 ["j"] [("i",0)] rfl (C7.of (by kernel_rfl)) (K0 (by rfl) (by exact T.range) (A0 (B2 1) A6)) (λ_ _ _ _=>⟨(K5 0 (I0 (by kernel_rfl))),E3,(D5 (by rfl) (by rfl) (A55 (B8 (J7 (by rfl) (by exact hr.units)) (B2 1) (B2 0) (B6 _)) A1 A1))⟩)))⟩)))),λds Qd h=>?_⟩;obtain ⟨n,rfl,hn,q⟩:=h;show (_:N5) _ [some (false,.int n)] _;cbv;refine K4 (L:=List.range ((n:Int)).toNat) (λx:Nat=>.int (0+(x:Int))) (λi=>iD ((List.range n).map λj=>MDet.idm i j)) (λi hi es Q' hl q'=>?_) (by rw[length_range];lia) ?_
 ·cbv;refine K4 (L:=List.range ((n:Int)).toNat) (λx:Nat=>.int (0+(x:Int))) (λj=>.int (MDet.idm i j)) (λj hj es Q' hl q'=>?_) (by rw[length_range];lia) ?_
  ·cbv;refine V8 (λe=>?_) λe=>?_
   ·cbv;have e':i=j:=by simp at e;lia
    have:MDet.idm i j=1:=by unfold MDet.idm;rw[qr e']
    rw[this] at q';exact q'
   ·cbv;have e':¬ i=j:=λz=>e (by simp[z]);have:MDet.idm i j=0:=by unfold MDet.idm;rw[qs e']
    rw[this] at q';exact q'
  ·have e:PyData.list ((List.range ((n:Int)).toNat).map λj=>PyData.int (MDet.idm i j))=iD ((List.range n).map λj=>MDet.idm i j):=by
    unfold iD;rw[map_map,Int.toNat_natCast];rfl
   rw[e];cbv;exact q'
 ·have e:PyData.list ((List.range ((n:Int)).toNat).map λi=>iD ((List.range n).map λj=>MDet.idm i j))=gD (N1 n n MDet.idm):=by
   unfold gD N1;rw[map_map,Int.toNat_natCast];rfl
  rw[e];cbv;exact q
abbrev A4u:Stmt:=top 7
theorem B55:C2 ["grid"] ["grid"] (B1 A4u):=by walk_at "sc"
def A2e:SpD:=λds Q _=>∃ (g:List (List Int)) (n m:Nat),ds=[gD g]/\Sh n m g/\1<=n/\n<=8/\m<=8/\Q (gD (N1 m n λi j=>N0 g j i)) true
theorem B5i (F:W5 K "flipped" "flipped" A4u f fd) (T:Blt mg):J5 P w K mg base CX0 1 f fd ["grid"] (G3 K A2e):=by
 refine ok0 F B55 (λds Q X h=>?_) (λcdv A outer s H E hr=>?_) λds Qd Xd h=>h
 ·obtain ⟨g,n,m,rfl,_⟩:=h;rfl
 refine ⟨_,(A7 (C6 (L4 ["at"] [("grid",0)] rfl (C7.of (by kernel_rfl)) (K0 (by rfl) (by exact T.range) (A0 (E8 (Q8 (by rfl)) (by rfl) (by exact T.len) (by decide +kernel) (A0 (E2 (dix (by rfl)) (B2 0) A1 (λ_ _=>rfl)) A6)) A6)) (λ_ _ _ _=>⟨(K5 0 (I0 (by kernel_rfl))),E3,(D5 (by rfl) (by rfl) (L4 ["row"] [("at",0)] rfl (C7.of (by kernel_rfl)) (O9 (by rfl) (B2 1)) (λ_ _ _ _=>⟨(K5 0 (I0 (by kernel_rfl))),E3,(D5 (by rfl) (by rfl) (E2 (dix (by rfl)) (B2 0) (B2 1) (λ_ _=>rfl)))⟩)))⟩)))),λds Qd h=>?_⟩;obtain ⟨g,n,m,rfl,sh,hn1,hn,hm,q⟩:=h;sleep 15;have hgl:=sh.1;obtain ⟨r0,a1,a2,a3⟩:=sh.row (show 0 < n by lia);cbv;refine ⟨iD r0,B9 (j:=0) (by rw[qp,a1];rfl),?_⟩;cbv;rw[a2,Int.toNat_natCast];refine K4 (L:=List.range m) (λx:Nat=>.int (0+(x:Int))) (λi=>iD ((List.range n).map λj=>N0 g j i)) (λi hi es Q' hl q'=>?_) (by rw[length_range];lia) ?_
 ·have hi':=mem_range.mp hi;cbv;refine K4 (L:=g) iD (λr=>.int (r.getD i 0)) (λr hr es Q' hl q'=>?_) (by lia) ?_
  ·have hrl:=sh.2 r hr;cbv;refine ⟨.int (r.getD i 0),by rw[Int.zero_add];exact B9 (by rw[qp,zd (by lia),getD_eq_getElem?_getD,zd (by lia)];rfl),?_⟩;cbv;exact q'
  ·rw[D3k sh hi'];cbv;exact q'
 ·have e:PyData.list ((List.range m).map λi=>iD ((List.range n).map λj=>N0 g j i))=gD (N1 m n λi j=>N0 g j i):=by
   unfold gD N1;rw[map_map];rfl
  rw[e];cbv;exact q
section
variable {α:Type}
theorem C6p {f:D->R0->(R0->Prop)->Prop} {Q:R0->Prop} (F G:α->D) (L:List α) (es:R0) (hs:∀ a∈L,∀ es (Q':R0->Prop),es.length < 1000000->Q' (es++[(G a,true)])->f (F a) es Q') (hm:es.length+L.length<=1000000) (q:Q (es++(L.map G).map λd=>(d,true))):go f (L.map F) es Q :=
 B0p F G (λ_=>true) L es hs hm (by rw[List.filter_eq_self.mpr λ_ _=>rfl];rw[map_map] at q;exact q)
theorem B3o {f:D->R0->(R0->Prop)->Prop} {Q:R0->Prop} (F:α->D) (G:α->List D):∀ (L:List α) (es:R0),(∀ a∈L,∀ es (Q':R0->Prop),es.length+(G a).length<=1000000->Q' (es++(G a).map λd=>(d,true))->f (F a) es Q')->es.length+(L.flatMap G).length<=1000000->Q (es++(L.flatMap G).map λd=>(d,true))->go f (L.map F) es Q
 | [],es,_,_,q=>by
  show Q es;simpa using q
 | a::r,es,hs,hm,q=>by
  rw[List.flatMap_cons,length_append] at hm;rw[List.flatMap_cons,map_append,<-append_assoc] at q;refine hs a qx es _ (by lia) ?_;exact B3o F G r _ (λb hb=>hs b (qy _ hb)) (by rw[length_append,qk];lia) q
theorem C1x {f:D->R0->(R0->Prop)->Prop} {ok:Bool} {Q:QD} {L:List α} (F:α->D) (G:α->List D) (hs:∀ a∈L,∀ es (Q':R0->Prop),es.length+(G a).length<=1000000->Q' (es++(G a).map λd=>(d,true))->f (F a) es Q') (hm:(L.flatMap G).length<=1000000) (q:Q (.list (L.flatMap G)) (.own [])):LcD f (L.map F) ok Q:=by
 refine B3o F G L [] hs (by simpa using hm) ?_;have e1:((((L.flatMap G).map λd=>(d,true)):R0).map (·.1))=L.flatMap G:=by rw[map_map];exact List.map_id _
 have e2:((((L.flatMap G).map λd=>(d,true)):R0).all (·.2))=true:=by rw[List.all_map];exact all_eq_true.mpr λ_ _=>rfl
 rw[nil_append,e1,qr e2];exact q
end
theorem B38 {α β:Type} {f:α->List β} (h:∀ a,(f a).length<=m):∀ L:List α,(L.flatMap f).length<=L.length*m
 | []=>jb _
 | a::L=>by
  rw[List.flatMap_cons,length_append,length_cons,Nat.succ_mul];have:=B38 h L;have:=h a;lia
theorem A6g:∀ (ds:List D) (s:Nat),Y9 s ds=(List.range ds.length).map λi=>.tuple [.int ((s+i:Nat):Int),ds.getD i (.int 0)]
 | [],_=>rfl
 | d::r,s=>by
  rw[length_cons,List.range_succ_eq_map,map_cons,map_map,Y9,A6g r (s+1)];rw[show (List.range r.length).map (λi=>PyData.tuple [.int ((s+1+i:Nat):Int),r.getD i (.int 0)])=(List.range r.length).map ((λi=>PyData.tuple [.int ((s+i:Nat):Int),(d::r).getD i (.int 0)]) ∘ Nat.succ) from map_congr_left λi _=>by
   show _=PyData.tuple [.int ((s+(i+1):Nat):Int),_];rw[show s+1+i=s+(i+1) by lia];rfl]
  rfl
abbrev A0d:Stmt:=top 22
theorem A82:C2 ["grid"] ["grid"] (B1 A0d):=by walk_at "sc"
def A25:SpD:=λds Q _=>∃ (g:List (List Int)) (n m:Nat) (b:Bool),ds=[gD g]/\Sh n m g/\n<=8/\m<=8/\(b=true ↔ ∀ i j,i < n->j < m->i≠j->N0 g i j=0)/\Q (.bool b) true
theorem A85 (F:W5 K "is_diagonal" "is_diagonal" A0d f fd) (T:Blt mg):J5 P w K mg base CX0 1 f fd ["grid"] (G3 K A25):=by
 refine ok0 F A82 (λds Q X h=>?_) (λcdv A outer s H E hr=>?_) λds Qd Xd h=>h
 ·obtain ⟨g,n,m,b,rfl,_⟩:=h;rfl
 refine ⟨_,(A7 (C6 (E8 (C5y (by rfl) (by rfl)) (by rfl) (by exact T.all) (by decide +kernel) (A0 (L4 ["i","row","j","x"] [] rfl (C7.of (by kernel_rfl)) (A48 (by rfl) (by rfl) (by exact T.enumerate) (A0 (B2 0) A6) (by rfl)) (λ_ _ _ _=>⟨(U0 2 (by rfl) (by rfl) (D6 (K5 0 (I0 (by kernel_rfl))) (D6 (K5 1 (I0 (by kernel_rfl))) P9)) (by rfl) (by rfl)),E3,(C80 (by rfl) (by rfl) (by rfl) (by exact λ_=>rfl) (A48 (by rfl) (by rfl) (by exact T.enumerate) (A0 (B2 1) A6) (by rfl)) (U0 2 (by rfl) (by rfl) (D6 (K5 2 (I0 (by kernel_rfl))) (D6 (K5 3 (I0 (by kernel_rfl))) P9)) (by rfl) (by rfl)) E3 (D5 (by rfl) (by rfl) (D0l (U1 (J7 (by rfl) (by exact hr.units)) (B2 3) A1 (B6 _)) (B1q (U1 (J7 (by rfl) (by exact hr.units)) (B2 0) (B2 2) (B6 _))))))⟩)) A6)))),λds Qd h=>?_⟩;obtain ⟨g,n,m,b,rfl,sh,hn,hm,hb,q⟩:=h;sleep 15;have hgl:=sh.1;cbv;rw[A6g,qk,hgl];refine C1x (L:=List.range n) (λi=>.tuple [.int ((0+i:Nat):Int),(g.map iD).getD i (.int 0)]) (λi=>(List.range m).map λj=>.bool (N0 g i j==0||i==j)) (λi hi es Q' hl q'=>?_) ?_ ?_
 ·have hi':=mem_range.mp hi;obtain ⟨r,r1,r2,r3⟩:=sh.row hi';rw[show (g.map iD).getD i (.int 0)=iD r by rw[getD_eq_getElem?_getD,qp,r1];rfl];rw[qk,length_range] at hl;cbv;rw[A6g,qk,r2];refine C6p (λj:Nat=>.tuple [.int ((0+j:Nat):Int),(r.map PyData.int).getD j (.int 0)]) (λj=>.bool (N0 g i j==0||i==j)) (List.range m) es (λj hj es Q' hl q'=>?_) (by rw[length_range];lia) q';have hj':=mem_range.mp hj;rw[show (r.map PyData.int).getD j (.int 0)=.int (N0 g i j) by
   rw[getD_eq_getElem?_getD,qp];obtain ⟨r',c1,c2,_⟩:=sh.cell hi' hj';rw[r1] at c1;cases c1;rw[c2];rfl]
  cbv;by_cases e:N0 g i j=0
  ·rw[qr (by simpa using e)];have q2:Q' (es++[(PyData.bool true,true)]):=by
    have:(N0 g i j==0||i==j)=true:=by simp[e]
    rw[this] at q';exact q'
   exact ⟨hl,trivial,q2⟩
  ·rw[qs (by simpa using e)];cbv;have q2:Q' (es++[(PyData.bool (((0+i:Nat):Int)==((0+j:Nat):Int)),true)]):=by
    have:(N0 g i j==0||i==j)=(((0+i:Nat):Int)==((0+j:Nat):Int)):=by
     rw[zz];simp[e];lia
    rw[this] at q';exact q'
   exact q2
 ·refine zq (B38 (m:=8) (λi=>by rw[qk,length_range];exact hm) _) ?_;rw[length_range];lia
 ·have eb:((List.range n).flatMap λi=>(List.range m).map λj=>PyData.bool (N0 g i j==0||i==j))=((List.range n).flatMap λi=>(List.range m).map λj=>(N0 g i j==0||i==j)).map λb=>PyData.bool b:=by
   rw[List.map_flatMap];congr 1;funext r;rw[map_map];rfl
  rw[eb];cbv;refine ⟨_,A27 (λb=>b) _,?_⟩;rw[show (((List.range n).flatMap λi=>(List.range m).map λj=>(N0 g i j==0||i==j)).map λb=>b)=((List.range n).flatMap λi=>(List.range m).map λj=>(N0 g i j==0||i==j)) from List.map_id _];cbv;have:((List.range n).flatMap λi=>(List.range m).map λj=>(N0 g i j==0||i==j)).all id=b:=by
   refine zz.mpr (Iff.trans ?_ hb.symm);rw[all_eq_true];refine ⟨λh i j hi hj hij=>?_,λh x hx=>?_⟩
   ·have:=h _ (List.mem_flatMap.mpr ⟨i,mem_range.mpr hi,zg.mpr ⟨j,mem_range.mpr hj,rfl⟩⟩);simp[hij] at this;exact this
   ·obtain ⟨i,hi,hx⟩:=List.mem_flatMap.mp hx;obtain ⟨j,hj,rfl⟩:=zg.mp hx;by_cases e:i=j
    ·simp[e]
    ·simp[h i j (mem_range.mp hi) (mem_range.mp hj) e]
  rw[this];exact q
open M06 (Bt Shr Ch CI two SI Reg Out M9 ext Ph Fi Sm)
theorem B7d:∀ {r:List Int} {us:List V} {ms:List Addr},Ows K H us (r.map PyData.int) ms->us=r.map V.int/\ms=[]
 | [],_,_,h=>by cases h;exact ⟨rfl,rfl⟩
 | x::r,_,_,h=>by
  cases h with
  | cons h1 h2 =>
   cases h1;obtain ⟨e1,e2⟩:=B7d h2;subst e1;subst e2;exact ⟨rfl,rfl⟩
theorem D37 (h:Ow K H v (iD r) ms):∃ a,v=.ref a/\ms=[a]/\H a=some (.lst (r.map V.int)):=by
 unfold iD at h;cases h with
 | lst h1 h2 =>
  obtain ⟨e1,e2⟩:=B7d h2;subst e1;subst e2;exact ⟨_,rfl,rfl,h1⟩
theorem B73:∀ {g:List (List Int)} {us:List V} {ms:List Addr},Ows K H us (g.map iD) ms->us=ms.map V.ref/\L7 H ms g
 | [],_,_,h=>by cases h;exact ⟨rfl,.nil⟩
 | x::g,_,_,h=>by
  cases h with
  | cons h1 h2 =>
   obtain ⟨a,rfl,rfl,ha⟩:=D37 h1;obtain ⟨e1,e2⟩:=B73 h2;subst e1;exact ⟨rfl,.cons ha e2⟩
theorem B6o (h:Ow K H v (gD g) ms):∃ (a:Addr) (rs:List Addr),v=.ref a/\ms=a::rs/\H a=some (.lst (rs.map V.ref))/\L7 H rs g:=by
 unfold gD at h;cases h with
 | lst h1 h2 =>
  obtain ⟨e1,e2⟩:=B73 h2;subst e1;exact ⟨_,_,rfl,rfl,h1,e2⟩
theorem B6z {rs:List Addr} (h:H a=some (.lst (rs.map V.ref))) (R:L7 H rs g):Dn K H (.ref a) (gD g):=.lst h R.dns
theorem B6s {E:XK} (hn:n<=8) (q:∀ a rs H',A8 H H'->(a::rs).Nodup->(∀ x∈a::rs,H x=none)->H' a=some (.lst (rs.map V.ref))->L7 H' rs (N1 n n MDet.idm)->Q (.ref a) H'):G3 K Y2 [.int n] H Q E:=by
 refine ⟨[.int n],λd o=>d=gD (N1 n n MDet.idm)/\o=true,Xf,.cons (.int _) .nil,⟨n,rfl,hn,rfl,rfl⟩,λd o v H' e sm r=>?_,λ_ _ z _=>z.elim⟩;obtain ⟨rfl,rfl⟩:=e;obtain ⟨ms,ow,nd,fr⟩:=r;obtain ⟨a,rs,rfl,rfl,h1,h2⟩:=B6o ow;exact q a rs H' sm nd fr h1 h2
theorem B1u {p:Addr} {ps:List Addr} {E:XK} (hp:H p=some (.lst (ps.map V.ref))) (R:L7 H ps g) (sh:Sh n m g) (h1:1<=n) (h8:n<=8) (hm:m<=8) (q:∀ a rs H',A8 H H'->(a::rs).Nodup->(∀ x∈a::rs,H x=none)->H' a=some (.lst (rs.map V.ref))->L7 H' rs (N1 m n λi j=>gm g j i)->Q (.ref a) H'):G3 K A2e [.ref p] H Q E:=by
 refine ⟨[gD g],λd o=>d=gD (N1 m n λi j=>gm g j i)/\o=true,Xf,.cons (B6z hp R) .nil,⟨g,n,m,rfl,sh,h1,h8,hm,rfl,rfl⟩,λd o v H' e sm r=>?_,λ_ _ z _=>z.elim⟩;obtain ⟨rfl,rfl⟩:=e;obtain ⟨ms,ow,nd,fr⟩:=r;obtain ⟨a,rs,rfl,rfl,h1,h2⟩:=B6o ow;exact q a rs H' sm nd fr h1 h2
theorem D2m {p:Addr} {ps:List Addr} {E:XK} (hp:H p=some (.lst (ps.map V.ref))) (R:L7 H ps g) (sh:Sh n m g) (h8:n<=8) (hm:m<=8) (q:∀ (b:Bool) H',A8 H H'->(b=true ↔ ∀ i j,i < n->j < m->i≠j->gm g i j=0)->Q (.bl b) H'):G3 K A25 [.ref p] H Q E:=by
 obtain ⟨b,hb⟩:∃ b:Bool,(b=true ↔ ∀ i j,i < n->j < m->i≠j->gm g i j=0):=by
  by_cases h:∀ i j,i < n->j < m->i≠j->gm g i j=0
  ·exact ⟨true,⟨λ_=>h,λ_=>rfl⟩⟩
  ·exact ⟨false,⟨λz=>by simp at z,λz=>absurd z h⟩⟩
 refine ⟨[gD g],λd o=>d=.bool b,Xf,.cons (B6z hp R) .nil,⟨g,n,m,b,rfl,sh,h8,hm,hb,rfl⟩,λd o v H' e sm r=>?_,λ_ _ z _=>z.elim⟩;subst e;have hv:Dn K H' v (.bool b):=by
  cases o with
  | true=>obtain ⟨ms,h1,_⟩:=r;exact h1.den
  | false=>exact r
 cases hv;exact q b H' sm hb
theorem C3h {f:List Int->List Int} {i:Nat} {z:List Int} (h:T[i]?=some z):gm (T.map f) i=gv (f z):=T5 (by rw[qp,h];rfl)
theorem C2q {a b:List Int}:gv (a++b)=ext a.length (gv a) (gv b):=by
 funext j;unfold gv ext;split
 ·rename_i h;rw[getD_eq_getElem?_getD,List.getElem?_append_left h,<-getD_eq_getElem?_getD]
 ·rename_i h;rw[getD_eq_getElem?_getD,List.getElem?_append_right (by lia),<-getD_eq_getElem?_getD]
theorem C1l {z:List Int} (h:m<=z.length):gv z=ext m (gv (z.take m)) (gv (z.drop m)):=by
 have:=@C2q (z.take m) (z.drop m);rw[List.take_append_drop,jc,Nat.min_eq_left h] at this;exact this
theorem B14 {n m:Nat} {Ui Z:List (List Int)} (hl:∀ z∈Ui++Z,z.length=m+n) (hn:(Ui++Z).length=n):Out n m (Ui.map gv) (Z.map gv) (gm ((Ui++Z).map λz=>z.take m)) (gm ((Ui++Z).map λz=>z.drop m)):=by
 refine ⟨by rw[<-map_append,qk,hn],λi hi j hj=>?_⟩;obtain ⟨z,hz⟩:∃ z,(Ui++Z)[i]?=some z:=⟨_,zd (by lia)⟩;rw[C3h hz,C3h hz,<-map_append,getD_eq_getElem?_getD,qp,hz,<-C1l (by have:=hl z (zx hz);lia)];rfl
theorem A67 {g b:Addr} {gs bs:List Addr} {G B:List (List Int)} {Y X C D E K1:Nat} {Ex:XK} (hg:H g=some (.lst (gs.map V.ref))) (hb:H b=some (.lst (bs.map V.ref))) (RG:L7 H gs G) (RB:L7 H bs B) (sG:Sh n m G) (sB:Sh n n B) (n0:1<=n/\n<=8) (m0:1<=m/\m<=8)
  (Rg:Reg m (M9 n m (gm G) (gm B)) Y X C D) (bG:∀ i j,i < n->j < m->Bt E (gm G i j)) (bB:∀ i j,i < n->j < n->Bt E (gm B i j)) (hK:2*Y+9*X+40<=K1) (hKK:16*K1<=KK) (bits:2*(E+9*KK)+1000<=134217728)
  (q:∀ (H':Hp) (p p1 p2:Addr) (ts us:List Addr) (M L:List (List Int)) (Ui Z:List M06.V),A8 H H'->SqT K H' p [.ref p1,.ref p2]->H' p1=some (.lst (ts.map V.ref))->H' p2=some (.lst (us.map V.ref))->L7 H' ts M->L7 H' us L->Sh n m M->Sh n n L->(p1::ts++p2::us).Nodup->(∀ x∈p1::ts++p2::us,H x=none)->SI m (m+n) (M9 n m (gm G) (gm B)) X E KK n Ui Z->Out n m Ui Z (gm M) (gm L)->Q (.ref p) H'):Y4 (K:=K) [.ref g,.ref b] H Q Ex:=by
 refine ⟨g,b,m+n,m,Y,X,C,D,E,K1,KK,G,B,gs,bs,M9 n m (gm G) (gm B),rfl,hg,hb,RG,RB,⟨sG.2,λz hz=>by rw[sB.2 z hz];lia,by rw[sG.1,sB.1],⟨by rw[M06.A28,sG.1],λi a c ha hc=>?_⟩,by rw[sG.1];exact n0.1,by rw[sG.1];exact n0.2,m0.1,by lia,Rg,M06.B3a rfl bG bB,hK,hKK,bits⟩,λH' p p1 p2 ts us Ui Z sm hp h1 h2 R1 R2 hl nd fr S=>?_⟩
 ·have hi:i < n:=by rw[<-sG.1];exact (ql.mp ha).1
  rw[M06.A9p hi,T5 ha,T5 hc,C2q,sG.2 a (zx ha)]
 ·rw[sG.1] at S;have hn:(Ui++Z).length=n:=by have:=S.len;rw[qk,qk] at this;rw[length_append];exact this
  refine q H' p p1 p2 ts us _ _ _ _ sm hp h1 h2 R1 R2 ⟨by rw[qk,hn],λr hr=>?_⟩ ⟨by rw[qk,hn],λr hr=>?_⟩ nd fr S (B14 hl hn)
  ·obtain ⟨z,hz,rfl⟩:=zg.mp hr;rw[jc,hl z hz];lia
  ·obtain ⟨z,hz,rfl⟩:=zg.mp hr;rw[length_drop,hl z hz];lia
theorem B3z:N0=gm:=rfl
section
variable {a l r:Addr} {ms ls rs:List Addr}
theorem A7f {B:List Addr} (h1:A.Nodup) (h2:B.Nodup) (h:∀ x∈A,x∉B):(A++B).Nodup:=nodup_append.mpr ⟨h1,h2,λx hx y hy e=>h x hx (e ▸ hy)⟩
theorem B3i:List.Perm (a::l::r::(ms++(ls++rs))) (l::ls++(r::rs++a::ms)):=by
 refine List.perm_iff_count.mpr λx=>?_;simp only[List.count_cons,List.count_append];lia
theorem C44:(a::l::r::(ms++(ls++rs))).Nodup ↔ (l::ls++(r::rs++a::ms)).Nodup:=B3i.nodup_iff
theorem B81 {x:Addr}:x∈a::l::r::(ms++(ls++rs)) ↔ x∈l::ls++(r::rs++a::ms):=B3i.mem_iff
theorem A2p {p:Addr} (hp:H p=some (.lst (ts.map V.ref))) (R:L7 H ts T):∀ x∈p::ts,H x≠none:=λx hx=>by
 rcases zn.mp hx with rfl|hx
 ·rw[hp];exact λz=>by cases z
 ·obtain ⟨o,e⟩:=R.mem hx;rw[e];exact λz=>by cases z
theorem A5p {H':Hp} {x:Addr} (sm:A8 H H') (h:H' x=none):H x=none:=by
 cases e:H x with
 | none=>rfl
 | some o=>rw[sm _ _ e] at h;cases h
end
abbrev V6:Stmt:=top 21
theorem E4:C2 ["grid","middle","left","turned_right","settled","turned"] ["grid"] (B1 V6):=by walk_at "sc"
structure D7t (n m:Nat) (G:List (List Int)):Prop where
 sh:Sh n m G
 n0:1<=n/\n<=8
 m0:1<=m/\m<=8
 bt:∀ i j,i < n->j < m->Bt 126 (gm G i j)
 few:n<=5/\m<=5
structure D6a (n m:Nat) (G:List (List Int)) (H H':Hp) (p:Addr) (pl pm pr:Addr) (ls ms rs:List Addr) (L C R:List (List Int)):Prop where
 sm:A8 H H'
 tp:H' p=some (.tup [.ref pl,.ref pm,.ref pr])
 hl:H' pl=some (.lst (ls.map V.ref))
 hm:H' pm=some (.lst (ms.map V.ref))
 hr:H' pr=some (.lst (rs.map V.ref))
 RL:L7 H' ls L
 RC:L7 H' ms C
 RR:L7 H' rs R
 nd:(pl::ls++(pm::ms++pr::rs)).Nodup
 fr:∀ x∈p::(pl::ls++(pm::ms++pr::rs)),H x=none
 sL:Sh n n L
 sC:Sh n m C
 sR:Sh m m R
 sm6:Sm n m (gm G) (gm L) (gm C) (λi j=>gm R j i)
 bL:∀ i j,i < n->j < n->Bt 20000000 (gm L i j)
 bC:∀ i j,i < n->j < m->Bt 646 (gm C i j)
 bR:∀ i j,i < m->j < m->Bt 20000000 (gm R i j)
def C4v:Sp:=λvs H Q _=>∃ (g:Addr) (n m:Nat) (G:List (List Int)) (gs:List Addr),vs=[.ref g]/\H g=some (.lst (gs.map V.ref))/\L7 H gs G/\D7t n m G/\∀ (H':Hp) (p pl pm pr:Addr) (ls ms rs:List Addr) (L C R:List (List Int)),D6a n m G H H' p pl pm pr ls ms rs L C R->Q (.ref p) H'
abbrev CF (g:Addr) (n m:Nat) (G:List (List Int)) (H:Hp):Nat->L2.St->Hp->Prop:=λμ U H3=>∃ (a l r:Addr) (ms ls rs:List Addr) (M L R:List (List Int)) (b:Bool) (x5:Option V),U=[some (.ref g),some (.ref a),some (.ref l),some (.ref r),some (.bl b),x5]/\A8 H H3/\H3 a=some (.lst (ms.map V.ref))/\H3 l=some (.lst (ls.map V.ref))/\H3 r=some (.lst (rs.map V.ref))/\L7 H3 ms M/\L7 H3 ls L/\L7 H3 rs R/\Sh n m M/\Sh n n L/\Sh m m R /\
  ((b=false/\μ=9*647+2/\M=G/\L=N1 n n MDet.idm/\R=N1 m m MDet.idm)\/(∃ (k:Nat) (T:List M06.V) (s lv:Nat),Ph n m k 646 126 (gm G) (gm M) (gm L) (gm R) T s lv/\(b=true ↔ ∀ i j,i < n->j < m->i≠j->gm M i j=0)/\μ=(k - s)*647+lv+1/\(a::l::r::(ms++(ls++rs))).Nodup/\∀ x∈a::l::r::(ms++(ls++rs)),H x=none))
theorem A7h (F:W5 K "corner_form" "corner_form" V6 f fd) (T:Blt mg) (D_plain_grid:Df P w K mg base "plain_grid" ["n"] 1 (G3 K Y2)) (D_flipped:Df P w K mg base "flipped" ["grid"] 1 (G3 K A2e)) (D_is_diagonal:Df P w K mg base "is_diagonal" ["grid"] 1 (G3 K A25)) (D_staired:Df P w K mg base "staired" ["grid","beside"] 44 (Y4 (K:=K))) (D_chain_corners:Df P w K mg base "chain_corners" ["middle","left","turned_right"] 43 A4a):J5 P w K mg base CX0 45 f fd ["grid"] C4v:=by
 refine F.ok E4 (λvs H Q E h=>?_) (λcdv A outer s H vs Q E hr h=>?_)
 ·obtain ⟨g,n,m,G,gs,rfl,_⟩:=h;rfl
 obtain ⟨g,n,m,G,gs,rfl,hg,RG,Oi,q⟩:=h;refine qmk (B3 (S7 1 E4.nd (D1 0))
   (B3 (S7 2 E4.nd (J1 (by exact D_plain_grid) (by exact hr.mono (by decide)) (A2 (K6 (P4 K (by rfl)) (by rfl) (by exact T.len) (by decide +kernel) (A2 (D1 0) B5)) B5)))
   (B3 (S7 3 E4.nd (J1 (by exact D_plain_grid) (by exact hr.mono (by decide)) (A2 (K6 (P4 K (by rfl)) (by rfl) (by exact T.len) (by decide +kernel) (A2 (G7 (C9 K (by rfl)) (D1 0) N2 (λ_ _=>rfl)) B5)) B5)))
   (B3 (S7 4 E4.nd C0m)
   (B3 (A2n PassesOwn.never (B7z (B6t (D1 4))) (B3 (O7 (J1 (by exact D_staired) (by exact hr.mono (by decide)) (A2 (D1 1) (A2 (D1 2) B5))) (X2 K 2 (by rfl) (by rfl) (D8 (U8 1 E4.nd) (D8 (U8 2 E4.nd) T1)) (by rfl) (by rfl)))
   (B3 (O7 (J1 (by exact D_staired) (by exact hr.mono (by decide)) (A2 (J1 (by exact D_flipped) (by exact hr.mono (by decide)) (A2 (D1 1) B5)) (A2 (D1 3) B5))) (X2 K 2 (by rfl) (by rfl) (D8 (U8 5 E4.nd) (D8 (U8 3 E4.nd) T1)) (by rfl) (by rfl)))
   (B3 (S7 1 E4.nd (J1 (by exact D_flipped) (by exact hr.mono (by decide)) (A2 (D1 5) B5)))
   (J8 (S7 4 E4.nd (J1 (by exact D_is_diagonal) (by exact hr.mono (by decide)) (A2 (D1 1) B5))))))))
   (B3 (X4 (J1 (by exact D_chain_corners) (by exact hr.mono (by decide)) (A2 (D1 1) (A2 (D1 2) (A2 (D1 3) B5)))))
   (J8 (A41 (B0q (A2 (D1 2) (A2 (D1 1) (A2 (J1 (by exact D_flipped) (by exact hr.mono (by decide)) (A2 (D1 3) B5)) B5)))))))))))) ?_
 show (_:TS) _ [some (.ref g),none,none,none,none,none] H;walk_at "rd";have n0:=Oi.n0;have m0:=Oi.m0;have shG:=Oi.sh;have gsl:=RG.len;have Gl:=Oi.sh.1;obtain ⟨z0,G0⟩:∃ z,G[0]?=some z:=⟨_,zd (by lia)⟩;obtain ⟨p0,g0,hp0⟩:=RG.get G0;have z0l:=Oi.sh.2 z0 (zx G0);refine ⟨_,.inl (E6.of hg),?_⟩;rw[qk,gsl,Gl];refine B6s n0.2 λl0 ls0 H1 sm1 nd1 fr1 hl0 RL0=>?_;refine ⟨_,E6.of (sm1 _ _ hg),_,show atI _ ((0:Nat):Int)=_ from B9 (by rw[qp,g0];rfl),p0,rfl,_,.inl (E6.of (sm1 _ _ hp0)),?_⟩;rw[qk,z0l];refine B6s m0.2 λr0 rs0 H2 sm2 nd2 fr2 hr0 RR0=>?_;refine ⟨CF g n m G H,
  ⟨_,g,l0,r0,gs,ls0,rs0,G,_,_,false,_,rfl,sm1.trans sm2,sm2 _ _ (sm1 _ _ hg),sm2 _ _ hl0,hr0,RG.same (sm1.trans sm2),RL0.same sm2,RR0,Oi.sh,N4 _ _ _,N4 _ _ _,.inl ⟨rfl,rfl,rfl,rfl,rfl⟩⟩,?_⟩
 rintro μ U H3 ⟨a,l,r,ms,ls,rs,M,L,R,b,x5,rfl,sm3,ha,hl,hr,RM,RL,RR,sM,sL,sR,st⟩;walk_at "rd";have bid:∀ {i j e:Nat},1<=e->Bt e (MDet.idm i j):=λ{i j e} he=>by
  refine Bt.up (b:=1) ?_ he;unfold MDet.idm;split
  ·show (1:Int).natAbs < 2 ^ 1;decide
  ·show (0:Int).natAbs < 2 ^ 1;decide
 have gid:∀ {n i j:Nat},i < n->j < n->gm (N1 n n MDet.idm) i j=MDet.idm i j:=λhi hj=>by rw[<-B3z];exact Q7 hi hj
 have gtr:∀ {n m i j:Nat} {F:List (List Int)},i < m->j < n->gm (N1 m n λi j=>gm F j i) i j=gm F j i:=λhi hj=>by rw[<-B3z];exact Q7 hi hj
 cases b with
 | false =>
  rw[qr (by rfl)];refine ⟨_,λU' H' h=>h,?_⟩;have tail:∀ (H5:Hp) (pl:Addr) (us:List Addr) (L1:List (List Int)) (q1:Addr) (ts2:List Addr) (M2:List (List Int)) (pr:Addr) (us2:List Addr) (R2:List (List Int)) (k:Nat) (T:List M06.V) (s lv:Nat),A8 H H5->H5 pl=some (.lst (us.map V.ref))->L7 H5 us L1->Sh n n L1->H5 q1=some (.lst (ts2.map V.ref))->L7 H5 ts2 M2->Sh m n M2->H5 pr=some (.lst (us2.map V.ref))->L7 H5 us2 R2->Sh m m R2->(pl::us++pr::us2).Nodup->(∀ x∈pl::us++pr::us2,H x=none)->Ph n m k 646 126 (gm G) (λi j=>gm M2 j i) (gm L1) (gm R2) T s lv->(k - s)*647+lv+1 < μ ->
   G3 K A2e [V.ref q1] H5 (λx H1=>G3 K A25 [x] H1 (λx_1 H'=>∃ m',m' < μ/\CF g n m G H m' [some (V.ref g),some x,some (.ref pl),some (.ref pr),some x_1,some (.ref q1)] H') E0) E0:=λH5 pl us L1 q1 ts2 M2 pr us2 R2 k T s lv sm5 h1 h2 h3 h4 h5 h6 h7 h8 h9 nd fr P hμ=>by
   refine B1u h4 h5 h6 m0.1 m0.2 n0.2 λa6 rs6 H6 sm6 nd6 fr6 ha6 R6=>?_;have sN:=N4 n m λi j=>gm M2 j i;refine D2m ha6 R6 sN n0.2 m0.2 λb H7 sm7 hb=>?_;have P':=P.congr (N:=gm (N1 n m λi j=>gm M2 j i)) λi j hi hj=>(gtr hi hj).symm;refine ⟨_,hμ,a6,pl,pr,rs6,us,us2,_,L1,R2,b,_,rfl,(sm5.trans sm6).trans sm7,sm7 _ _ ha6,sm7 _ _ (sm6 _ _ h1),sm7 _ _ (sm6 _ _ h7),R6.same sm7,h2.same (sm6.trans sm7),h8.same (sm6.trans sm7),sN,h3,h9,.inr ⟨k,T,s,lv,P',hb,rfl,C44.mpr ?_,λx hx=>?_⟩⟩
   ·rw[<-append_assoc];refine A7f nd nd6 λx hx hy=>?_;have:=fr6 x hy;rcases zm.mp hx with hx|hx
    ·exact A2p h1 h2 x hx this
    ·exact A2p h7 h8 x hx this
   ·have hx:=B81.mp hx;rw[<-append_assoc] at hx;sleep 18
    ·exact fr x hx
    ·exact A5p sm5 (fr6 x hx)
  have hEF2:∀ x,M06.E1 646 126+(9*(646+1) - x)*(646+11)<=M06.EF 646 126:=λx=>by
   have:=Nat.mul_le_mul_right (646+11) (show 9*(646+1) - x<=9*(646+1) by lia);unfold M06.EF;lia
  rcases st with ⟨_,rfl,rfl,rfl,rfl⟩|⟨k,T,s,lv,P,hb,rfl,_,_⟩
  ·have Rg:Reg m (M9 n m _ (gm (N1 n n MDet.idm))) 646 (M06.X1 646 126) (2*646+2) 646:=M72.B4r (L:=gm (N1 n n MDet.idm)) n0.2 m0.2 Oi.bt Oi.few;refine A67 ha hl RM RL sM sL n0 m0 Rg (λi j hi hj=>(Oi.bt i j hi hj).up (by decide)) (λi j hi hj=>by rw[gid hi hj];exact bid (by decide)) (E:=M06.X1 646 126) (K1:=(M06.K1 646 126)) (KK:=16*(M06.K1 646 126)) (by decide) (qt _) (by decide) λH4 p p1 p2 ts us M1 L1 Ui Z sm4 hp h1 h2 R1 R2 s1 s2 nd4 fr4 I O1=>⟨p,rfl,_,hp,rfl,_,_,rfl,_,_,rfl,rfl,?_⟩;refine B1u h1 R1 s1 n0.1 n0.2 m0.2 λf1 fs H5 sm5 nd5 fr5 hf Rf=>?_;have Fi1:=M06.B4m (D:=646) (b:=126) n0.2 Rg (M06.Rel.start (λi j hi hj=>gid hi hj) λi j hi hj=>gid hi hj) (M06.Gen.id λi j hi hj=>gid hi hj) (M06.Gen.id λi j hi hj=>gid hi hj) (λi j hi hj=>by rw[gid hi hj];exact bid (by decide)) I O1;have er:=M06.B3e (n:=m) (m:=n) (M:=gm (N1 m n λi j=>gm M1 j i)) (N:=λi j=>gm M1 j i) (L:=gm (N1 m m MDet.idm)) λi j hi hj=>gtr hi hj;have Rg2:=Fi1.reg;rw[<-er] at Rg2;refine A67 hf (sm5 _ _ (sm4 _ _ hr)) Rf (RR.same (sm4.trans sm5)) (N4 m n _) sR m0 n0 Rg2 (λi j hi hj=>by rw[gtr hi hj];exact Fi1.cB j i hj hi) (λi j hi hj=>(Fi1.br i j hi hj).up (by decide)) (E:=M06.X1 646 126) (K1:=(M06.K2 646 126)) (KK:=16*(M06.K2 646 126)) (by decide) (qt _) (by decide) λH6 q' q1 q2 ts2 us2 M2 R2' U2 Z2 sm6 hq k1 k2 R6 R7 s6 s7 nd6 fr6 I2 O2=>⟨q',rfl,_,hq,rfl,_,_,rfl,_,_,rfl,rfl,?_⟩;have nda:=(nodup_append.mp nd4).2.1;have ndb:=(nodup_append.mp nd6).2.1;have hp25:=sm5 _ _ h2;have R25:=R2.same sm5;have ndc:(p2::us++q2::us2).Nodup:=A7f nda ndb λx hx hy=>A2p hp25 R25 x hx (fr6 x (qz _ hy));have frc:∀ x∈p2::us++q2::us2,H x=none:=λx hx=>by
    sleep 18
    ·exact A5p sm3 (fr4 x (qz _ hx))
    ·exact A5p ((sm3.trans sm4).trans sm5) (fr6 x (qz _ hx))
   rw[er] at I2;have P:=Fi1.half m0.2 I2 O2;exact tail H6 p2 us L1 q1 ts2 M2 q2 us2 R2' _ _ _ _ (((sm3.trans sm4).trans sm5).trans sm6) (sm6 _ _ hp25) (R25.same sm6) s2 k1 R6 s6 k2 R7 s7 ndc frc P (by have:=Fi1.len.1;lia)
  ·have Rg:=P.reg;have hsk:s < k:=Nat.lt_of_le_of_ne P.ms.sr λe=>by
    have:=hb.mpr λi j hi hj hij=>P.diag e hi hj hij;simp at this
   have hEF:=hEF2 ((k - s)*(646+1)+lv);refine A67 ha hl RM RL sM sL n0 m0 Rg (λi j hi hj=>(P.cB hi hj).up (by decide)) (λi j hi hj=>(P.bl i j hi hj).up hEF) (E:=M06.EF 646 126) (K1:=(M06.K3 646)) (KK:=16*(M06.K3 646)) (by decide) (qt _) (by decide) λH4 p p1 p2 ts us M1 L1 Ui Z sm4 hp h1 h2 R1 R2 s1 s2 nd4 fr4 I O1=>⟨p,rfl,_,hp,rfl,_,_,rfl,_,_,rfl,rfl,?_⟩;refine B1u h1 R1 s1 n0.1 n0.2 m0.2 λf1 fs H5 sm5 nd5 fr5 hf Rf=>?_;obtain ⟨s',l',P1,hμ1,hd1⟩:=P.half (by decide) (.inl hsk) I O1;have hl1:s' < k\/1<=l':=by lia
   have P2:=P1.congr (N:=gm (N1 m n λi j=>gm M1 j i)) λi j hi hj=>(gtr hi hj).symm;have Rg2:=P2.reg;refine A67 hf (sm5 _ _ (sm4 _ _ hr)) Rf (RR.same (sm4.trans sm5)) (N4 m n _) sR m0 n0 Rg2 (λi j hi hj=>(P2.cB hi hj).up (by decide)) (λi j hi hj=>(P2.bl i j hi hj).up (hEF2 _)) (E:=M06.EF 646 126) (K1:=(M06.K3 646)) (KK:=16*(M06.K3 646)) (by decide) (qt _) (by decide) λH6 q' q1 q2 ts2 us2 M2 R2' U2 Z2 sm6 hq k1 k2 R6 R7 s6 s7 nd6 fr6 I2 O2=>⟨q',rfl,_,hq,rfl,_,_,rfl,_,_,rfl,rfl,?_⟩;have nda:=(nodup_append.mp nd4).2.1;have ndb:=(nodup_append.mp nd6).2.1;have hp25:=sm5 _ _ h2;have R25:=R2.same sm5;have ndc:(p2::us++q2::us2).Nodup:=A7f nda ndb λx hx hy=>A2p hp25 R25 x hx (fr6 x (qz _ hy));have frc:∀ x∈p2::us++q2::us2,H x=none:=λx hx=>by
    sleep 18
    ·exact A5p sm3 (fr4 x (qz _ hx))
    ·exact A5p ((sm3.trans sm4).trans sm5) (fr6 x (qz _ hx))
   obtain ⟨s'',l'',P3,hμ3,_⟩:=P2.half (by decide) hl1 I2 O2;exact tail H6 p2 us L1 q1 ts2 M2 q2 us2 R2' _ _ _ _ (((sm3.trans sm4).trans sm5).trans sm6) (sm6 _ _ hp25) (R25.same sm6) s2 k1 R6 s6 k2 R7 s7 ndc frc P3 (by lia)
 | true =>
  rw[qs (by simp)];rcases st with ⟨z,_⟩|⟨k,T,s,lv,P,hb,_,nd,fr⟩
  ·cases z
  have C:=P.ch (hb.mp rfl);have Z:Tri n m H3 a l r ms ls rs M L R:=⟨ha,hl,hr,RM,RL,RR,nd,n0,m0,sM,sL,sR⟩;refine ⟨a,l,r,n,m,k,646,_,ms,ls,rs,M,L,R,gm G,_,rfl,Z,C,by decide,λH4 ls' rs' M' L' R' d' fr4 mem4 Z4 C4 ci=>?_⟩;have sm4:A8 H H4:=λx o h=>by
   refine fr4 x o (λhx=>?_) (sm3 x o h);have:=fr x (by
    simp only[zn,zm] at hx ⊢;rcases hx with h|h|h|h
    ·exact .inl h
    ·exact .inr (.inl h)
    ·exact .inr (.inr (.inl h))
    ·exact .inr (.inr (.inr (.inl h))))
   rw[this] at h;cases h
  refine B1u Z4.hr Z4.RR Z4.lR m0.1 m0.2 m0.2 λa5 rs5 H5 sm5 nd5 fr5 ha5 R5=>?_;refine ⟨zk (Q1 (show 3 < 1000000 by decide)),λp hp=>?_⟩;have sm6:A8 H5 (E5 H5 p (.tup [.ref l,.ref a,.ref a5])):=A8.new hp;have nd4:=C44.mp Z4.nd;have ex:∀ x∈l::ls'++a::ms,H4 x≠none:=λx hx=>by
   sleep 18
   ·exact A2p Z4.hl Z4.RL x hx
   ·exact A2p Z4.ha Z4.RM x hx
  obtain ⟨q1,q2,q3⟩:=nodup_append.mp nd4;have ndA:(l::ls'++a::ms).Nodup:=A7f q1 (nodup_append.mp q2).2.1 λx hx hy=>q3 x hx x (qz _ hy) rfl;have frA:∀ x∈l::ls'++a::ms,H x=none:=λx hx=>by
   have up:∀ {x},x∈l::ls++(r::rs++a::ms)->H x=none:=λh=>fr _ (B81.mpr h);rcases zm.mp hx with hx|hx
   ·rcases zn.mp hx with rfl|hx
    ·exact up (za _ qx)
    ·rcases mem4 x (za _ hx) with h|h
     ·refine up ?_;rcases zm.mp h with h|h
      ·exact za _ (qy _ h)
      ·exact qz _ (za _ (qy _ h))
     ·exact A5p sm3 h
   ·exact up (qz _ (qz _ hx))
  refine q _ p l a a5 ls' ms rs5 L' M' _ ⟨(sm4.trans sm5).trans sm6,B7,sm6 _ _ (sm5 _ _ Z4.hl),sm6 _ _ (sm5 _ _ Z4.ha),sm6 _ _ ha5,Z4.RL.same (sm5.trans sm6),Z4.RM.same (sm5.trans sm6),R5.same sm6,?_,λx hx=>?_,Z4.lL,Z4.lM,N4 _ _ _,(C4.sm ci).congr λi j hi hj=>(gtr hj hi).symm,λi j hi hj=>(C4.bl i j hi hj).up (by decide),λi j hi hj=>?_,λi j hi hj=>by rw[gtr hi hj];exact (C4.br j i hj hi).up (by decide)⟩
  ·rw[<-append_assoc];exact A7f ndA nd5 λx hx hy=>ex x hx (fr5 x hy)
  ·rcases zn.mp hx with rfl|hx
   ·exact A5p (sm4.trans sm5) hp
   rw[<-append_assoc] at hx;sleep 18
   ·exact frA x hx
   ·exact A5p sm4 (fr5 x hx)
  ·rw[C4.cell i j hi hj];split
   ·rename_i z;exact C4.dD z.2
   ·exact .zero
def scr (ns:List Int):D:=.dict [(.none,.list (ns.map .int))]
abbrev A24:Stmt:=top 37
theorem B13:C2 ["_law_script","_law_k"] ["_law_script","_law_k"] (B1 A24):=by walk_at "sc"
def B0d:SpD:=λds Q _=>∃ (ns:List Int) (k:Int),ds=[scr ns,.int k]/\0<=k/\∀ z:Int,Q (.int z) true
theorem B08 (F:W5 K "_law_cell_at" "_law_cell_at" A24 f fd) (T:Blt mg):J5 P w K mg base CX0 1 f fd ["_law_script","_law_k"] (G3 K B0d):=by
 refine ok0 F B13 (λds Q X h=>?_) (λcdv A outer s H E hr=>?_) λds Qd Xd h=>h
 ·obtain ⟨ns,k,rfl,_⟩:=h;rfl
 refine ⟨_,(A4 (G9 (B8 A58 (B2 1) (E8 (Q8 (by rfl)) (by rfl) (by exact T.len) (by decide +kernel) (A0 (B2 0) A6)) (B6 _)) (A7 (C6 (E2 (dix (by rfl)) (B2 0) (B2 1) (λ_ _=>rfl)))) D0)
   (A7 (C6 A1))),λds Qd h=>?_⟩
 obtain ⟨ns,k,rfl,hk,q⟩:=h;show (_:N5) _ [some (false,.dict [(.none,.list (ns.map .int))]),some (false,.int k)] _;cbv;refine V8 (λh1=>?_) λ_=>?_
 ·cbv;have hlt:k.toNat < ns.length:=by simp at h1;lia
  refine ⟨.int ns[k.toNat],?_,?_⟩
  ·have:=B9 (xs:=ns.map PyData.int) (j:=k.toNat) (v:=PyData.int ns[k.toNat]) (by simp[hlt]);rw[show ((k.toNat:Nat):Int)=k from Int.toNat_of_nonneg hk] at this;exact this
  ·exact q _
 ·cbv;exact q _
abbrev B0k:Stmt:=top 38
theorem X3:C2 ["_law_script","_law_at","_law_cell","_law_primes","_law_big_here","_law_k","_law_one"] ["_law_script","_law_at"] (B1 B0k):=by walk_at "sc"
def B4d:SpD:=λds Q _=>∃ (ns:List Int) (k:Int),ds=[scr ns,.int k]/\0<=k/\∀ z:Int,0<=z->Q (.int z) true
theorem C41 (F:W5 K "_law_big" "_law_big" B0k f fd) (T:Blt mg) (D_l_cell_at:Df P w K mg base "_law_cell_at" ["_law_script","_law_k"] 1 (G3 K B0d)):J5 P w K mg base CX0 2 f fd ["_law_script","_law_at"] (G3 K B4d):=by
 refine ok0 F X3 (λds Q X h=>?_) (λcdv A outer s H E hr=>?_) λds Qd Xd h=>h
 ·obtain ⟨ns,k,rfl,_⟩:=h;rfl
 refine ⟨_,(A4 (G5 2 X3.nd (M8 (by exact D_l_cell_at) (by exact hr.mono (by lia)) (A0 (B2 0) (A0 (B2 1) A6))))
   (A4 (G9 (B8 D40 (B2 2) (A9 A47 A1 A1) (B6 _)) (A7 (C6 (B2 2))) D0)
   (A4 (G5 3 X3.nd (T4 (C4l (by rfl))))
   (A4 (G5 4 X3.nd A1)
   (A4 (V7 PassesOwn.never rfl (K0 (by rfl) (by exact T.range) (A0 A1 A6)) (K5 5 X3.nd) (A4 (G5 6 X3.nd (A9 M3 (A9 M3 (A9 J4 (M8 (by exact D_l_cell_at) (by exact hr.mono (by lia)) (A0 (B2 0) (A0 (A9 M3 (B2 1) (A9 J4 (B2 5) A1)) A6))) (A9 A47 A1 A1)) (A9 N8 A1 (B2 5))) A1))
   (A7 (G5 4 X3.nd (A9 M3 (A9 N8 (B2 4) A1) (A9 J4 (A9 N8 (A9 J4 (A9 M3 (A9 N8 (B2 6) (B2 6)) (A9 N8 A1 (B2 5))) (E2 (dix (by rfl)) (B2 3) (A9 J4 (B2 5) A1) (λ_ _=>rfl))) (A9 M3 (B2 5) A1)) A1))))))
   (A7 (C6 (B2 4)))))))),λds Qd h=>?_⟩
 obtain ⟨ns,k,rfl,hk,q⟩:=h;show (_:N5) _ [some (false,scr ns),some (false,.int k),none,none,none,none,none] _;cbv;refine ⟨ns,k,rfl,hk,λz=>?_⟩;cbv;sleep 8
 ·cbv;refine q z ?_;have:(0:Int)<=10 ^ Int.toNat 18:=by decide
  simp at h1;lia
 cbv;refine A1k (λi O=>∃ (b:Int) (x y:Option (Bool × D)),O=[some (false,scr ns),some (false,.int k),some (false,.int z),some (false,.tuple [.int 99989,.int 99971,.int 99961,.int 99929,.int 99923,.int 99907,.int 99901,.int 99881,.int 99877]),some (false,.int b),x,y]/\0<=b) ⟨0,_,_,rfl,by decide⟩ ?_ ?_
 ·rintro i O hi ⟨b,x,y,rfl,hb⟩;cbv;have h9:=Int.emod_nonneg (0+(i:Int)) (show (9:Int)≠0 by decide);have h9':=Int.emod_lt_of_pos (0+(i:Int)) (show (0:Int) < 9 by decide);refine ⟨ns,_,rfl,by lia,λc=>?_⟩;cbv;have c1:(10:Int) ^ Int.toNat 18=1000000000000000000:=by decide
  rw[c1];have hi':i < 64:=hi;have h0:=Int.emod_nonneg c (show (1000000000000000000:Int)≠0 by decide);have h1:=Int.emod_lt_of_pos c (show (0:Int) < 1000000000000000000 by decide);refine ⟨A5z.ok (.inl ⟨by lia,by lia⟩),?_⟩;cbv;obtain ⟨m,hm,em⟩:∃ m:Nat,m < 9/\(0+(i:Int)) % 9=(m:Int):=⟨((0+(i:Int)) % 9).toNat,by lia,by lia⟩;obtain ⟨pr,hpr,hpp⟩:∃ pr:Int,[PyData.int 99989,.int 99971,.int 99961,.int 99929,.int 99923,.int 99907,.int 99901,.int 99881,.int 99877][m]?=some (PyData.int pr)/\0 < pr/\pr < 100000:=by
   match m,hm with
   | 0,_=>exact ⟨_,rfl,by decide,by decide⟩
   | 1,_=>exact ⟨_,rfl,by decide,by decide⟩
   | 2,_=>exact ⟨_,rfl,by decide,by decide⟩
   | 3,_=>exact ⟨_,rfl,by decide,by decide⟩
   | 4,_=>exact ⟨_,rfl,by decide,by decide⟩
   | 5,_=>exact ⟨_,rfl,by decide,by decide⟩
   | 6,_=>exact ⟨_,rfl,by decide,by decide⟩
   | 7,_=>exact ⟨_,rfl,by decide,by decide⟩
   | 8,_=>exact ⟨_,rfl,by decide,by decide⟩
  refine ⟨.int pr,by rw[em];exact B9 hpr,?_⟩;cbv;refine ⟨A5z.ok (.inr ⟨by lia,by lia⟩),?_⟩;cbv;refine ⟨_,_,_,rfl,?_⟩;have:=Int.emod_nonneg (((c % 1000000000000000000+7*(0+(i:Int))+1)*(c % 1000000000000000000+7*(0+(i:Int))+1)+31*(0+(i:Int))) % pr*(0+(i:Int)+3)) (show (8191:Int)≠0 by decide);lia
 ·rintro O ⟨b,x,y,rfl,hb⟩;cbv;exact q b hb
abbrev A6x:Stmt:=top 39
theorem B90:C2 ["_law_grid"] ["_law_grid"] (B1 A6x):=by walk_at "sc"
def Bd (m:Nat) (x:Int):Prop:=-(2 ^ m) < x/\x < 2 ^ m
def Bg (m:Nat) (g:List (List Int)):Prop:=∀ r∈g,∀ x∈r,Bd m x
def A2d:SpD:=λds Q _=>∃ (g:List (List Int)),ds=[gD g]/\g.length<=1000/\Q (gD g) true
theorem B8d (F:W5 K "_law_copy" "_law_copy" A6x f fd) (T:Blt mg):J5 P w K mg base CX0 1 f fd ["_law_grid"] (G3 K A2d):=by
 refine ok0 F B90 (λds Q X h=>?_) (λcdv A outer s H E hr=>?_) λds Qd Xd h=>h
 ·obtain ⟨b,rfl,_⟩:=h;rfl
 refine ⟨_,(A7 (C6 (L4 ["_law_row"] [] rfl (C7.of (by kernel_rfl)) (O9 (by rfl) (B2 0)) (λ_ _ _ _=>⟨(K5 0 (I0 (by kernel_rfl))),E3,(D5 (by rfl) (by rfl) (A3d (A7j (by rfl)) (by rfl) (by exact T.list) (by decide +kernel) (A0 (B2 0) A6)))⟩)))),λds Qd h=>?_⟩;obtain ⟨g,rfl,hg,q⟩:=h;sleep 15;cbv;refine B5o id (λd hd es Q' hl q'=>?_) (by rw[qk];lia) ?_
 ·obtain ⟨r,hr',rfl⟩:=zg.mp hd;cbv;exact q'
 ·cbv;rw[List.map_id];exact q
theorem Bd.iff {x:Int}:Bd m x ↔ x.natAbs < 2 ^ m:=by
 have e:((2 ^ m:Nat):Int)=(2:Int) ^ m:=by simp
 unfold Bd;rw[<-e]
 omega
theorem Bd.mono {x:Int} (h:Bd m x) (l:m<=n):Bd n x :=
 Bd.iff.mpr (qv (Bd.iff.mp h) (Nat.pow_le_pow_right (by decide) l))
theorem Bd.sub {x:Int} (h:Bd m x) (h':Bd m y):Bd (m+1) (x - y):=by
 have h1:=Bd.iff.mp h;have h2:=Bd.iff.mp h';rw[Bd.iff,Nat.pow_succ]
 omega
theorem Bd.mulOk {x:Int} (h:Bd m x) (h':Bd n y) (l:m+n<=134217728):IntMulOk x y:=D8j h.1 h.2 h'.1 h'.2 l
open M06 (Bt Sm)
theorem B62:∀ {us:List V} {g:List (List Int)},Dns K H us (g.map iD)->∃ rs:List Addr,us=rs.map V.ref/\L7 H rs g
 | [],[],_=>⟨[],rfl,.nil⟩
 | _::_,x::g,.cons h t=>by
  obtain ⟨a,rfl,ha⟩:=B5c h;obtain ⟨rs,rfl,e2⟩:=B62 t;exact ⟨a::rs,rfl,.cons ha e2⟩
theorem D2r (h:Dn K H v (gD g)):∃ (a:Addr) (rs:List Addr),v=.ref a/\H a=some (.lst (rs.map V.ref))/\L7 H rs g:=by
 obtain ⟨a,us,rfl,h1,h2⟩:=D9 h;obtain ⟨rs,rfl,e⟩:=B62 h2;exact ⟨a,rs,rfl,h1,e⟩
theorem B2l:∀ (r:List Int),Ows K H (r.map V.int) (r.map PyData.int) []
 | []=>.nil
 | x::r=>.cons (ns:=[]) (ms:=[]) (.int x) (B2l r)
theorem L7.ows {rs:List Addr} (R:L7 H rs g):Ows K H (rs.map V.ref) (g.map iD) rs:=by
 induction R with
 | nil=>exact .nil
 | cons h _ ih=>exact .cons (ns:=[_]) (.lst h (B2l _)) ih
theorem L7.ow {rs:List Addr} (ha:H a=some (.lst (rs.map V.ref))) (R:L7 H rs g):Ow K H (.ref a) (gD g) (a::rs):=.lst ha R.ows
structure D0a (n m:Nat) (G L C R:List (List Int)):Prop where
 sL:Sh n n L
 sC:Sh n m C
 sR:Sh m m R
 sm6:Sm n m (gm G) (gm L) (gm C) (λi j=>gm R j i)
 bL:∀ i j,i < n->j < n->Bt 20000000 (gm L i j)
 bC:∀ i j,i < n->j < m->Bt 646 (gm C i j)
 bR:∀ i j,i < m->j < m->Bt 20000000 (gm R i j)
def A8d:SpD:=λds Q _=>∃ (n m:Nat) (G:List (List Int)),ds=[gD G]/\D7t n m G/\∀ L C R,D0a n m G L C R->Q (.tuple [gD L,gD C,gD R]) true
theorem D8k {vs:List V} {E:XK} (h:G3 K A8d vs H Q E):C4v vs H Q E:=by
 obtain ⟨ds,Qd,Xd,hd,⟨n,m,G,rfl,Oi,q⟩,r,_⟩:=h;obtain ⟨v,rfl,hv⟩:=A61 hd;obtain ⟨g,gs,rfl,hg,RG⟩:=D2r hv;refine ⟨g,n,m,G,gs,rfl,hg,RG,Oi,λH' p pl pm pr ls ms rs L C R Z=>?_⟩;refine r _ true _ _ (q L C R ⟨Z.sL,Z.sC,Z.sR,Z.sm6,Z.bL,Z.bC,Z.bR⟩) Z.sm ⟨pl::ls++(pm::ms++(pr::rs++[])),.tup (SqT.of Z.tp) (.cons (Z.RL.ow Z.hl) (.cons (Z.RC.ow Z.hm) (.cons (Z.RR.ow Z.hr) .nil))),?_,λx hx=>?_⟩
 ·rw[append_nil];exact Z.nd
 ·rw[append_nil] at hx;exact Z.fr x (qy _ hx)
theorem A63 (h:J5 P w K mg base CX0 45 f fd ["grid"] C4v):J5 P w K mg base CX0 45 f fd ["grid"] (G3 K A8d):=h.imp λ_ _ _ _ h=>D8k h
theorem B5h:∀ (x y:List (List Int)),A1u (x.map iD) (y.map iD)=(x.zip y).map λp=>PyData.tuple [iD p.1,iD p.2]
 | [],_=>rfl
 | _::_,[]=>rfl
 | a::x,b::y=>by
  show PyData.tuple [iD a,iD b]::A1u _ _=_;rw[B5h x y];rfl
theorem B7v {x y:List (List Int)} {f:List D->List D->Prop} (h:f (x.map iD) (y.map iD)):C72 [gD x,gD y] f:=h
abbrev R8:Stmt:=top 9
theorem A1w:C2 ["one","other"] ["one","other"] (B1 R8):=by walk_at "sc"
def A4i:SpD:=λds Q _=>∃ (g h:List (List Int)) (n:Nat),ds=[gD g,gD h]/\Sh n n g/\Sh n n h/\n<=8/\Q .none true
theorem A1j (F:W5 K "require_one_shape" "require_one_shape" R8 f fd) (T:Blt mg) (C_NoGrid:ExC K mg "NoGrid" cG):J5 P w K mg base (CXE P w base) 1 f fd ["one","other"] (G3 K A4i):=by
 refine okE F A1w (λds Q X h=>?_) (λcdv A outer s H E hr=>?_)
 ·obtain ⟨g,h,n,rfl,_⟩:=h;rfl
 refine ⟨_,(A7 (G9 (dnT (B8 (P6 (by rfl) (by exact hr.units)) (L4 ["row"] [] rfl (C7.of (by kernel_rfl)) (O9 (by rfl) (B2 0)) (λ_ _ _ _=>⟨(K5 0 (I0 (by kernel_rfl))),E3,(D5 (by rfl) (by rfl) (E8 (Q8 (by rfl)) (by rfl) (by exact T.len) (by decide +kernel) (A0 (B2 0) A6)))⟩)) (L4 ["row"] [] rfl (C7.of (by kernel_rfl)) (O9 (by rfl) (B2 1)) (λ_ _ _ _=>⟨(K5 0 (I0 (by kernel_rfl))),E3,(D5 (by rfl) (by rfl) (E8 (Q8 (by rfl)) (by rfl) (by exact T.len) (by decide +kernel) (A0 (B2 0) A6)))⟩)) (B6 _))) (A7 (X0 U9 (by rfl) (by exact C_NoGrid) (by rfl) (A0 A2g A6))) D0)),λds Qd Xd h=>?_⟩;obtain ⟨g,h,n,rfl,shg,shh,hn,q⟩:=h;show (_:N5) _ [some (false,gD g),some (false,gD h)] _;have hgl:=shg.1;have hhl:=shh.1;cbv;refine K4 iD (λr=>.int (r.length:Int)) (λr hr es Q' hl q'=>?_) (by lia) ?_
 ·cbv;exact q'
 cbv;refine K4 iD (λr=>.int (r.length:Int)) (λr hr es Q' hl q'=>?_) (by lia) ?_
 ·cbv;exact q'
 have eq1:∀ {g:List (List Int)},Sh n n g->PyData.list (g.map λr=>PyData.int (r.length:Int))=iD (List.replicate n (n:Int)):=λ{g} sh=>by
  unfold iD;rw[List.map_replicate];congr 1;refine List.eq_replicate_iff.mpr ⟨by rw[qk,sh.1],λb hb=>?_⟩;obtain ⟨r,hr,rfl⟩:=zg.mp hb;rw[sh.2 r hr]
 rw[eq1 shg,eq1 shh];cbv;refine ⟨⟨T7 _,T7 _,A1z _⟩,?_⟩;rw[D2i];cbv;exact q
abbrev A1m:Stmt:=top 11
theorem B10:C2 ["one","other"] ["one","other"] (B1 A1m):=by walk_at "sc"
def B48:SpD:=λds Q _=>∃ (g h:List (List Int)) (n:Nat),ds=[gD g,gD h]/\Sh n n g/\Sh n n h/\n<=8/\Q (gD (N1 n n λi j=>N0 g i j - N0 h i j)) true
theorem B1f (F:W5 K "taken_off" "taken_off" A1m f fd) (T:Blt mg) (D_require_one_shape:DfE P w K mg base "require_one_shape" ["one","other"] 1 (G3 K A4i)):J5 P w K mg base (CXE P w base) 2 f fd ["one","other"] (G3 K B48):=by
 refine okE F B10 (λds Q X h=>?_) (λcdv A outer s H E hr=>?_)
 ·obtain ⟨g,h,n,rfl,_⟩:=h;rfl
 refine ⟨_,(A4 (A4h (T9 (by exact D_require_one_shape) A5j (by exact hr.mono (by lia)) (A0 (B2 0) (A0 (B2 1) A6))))
   (A7 (dnS (C6 (L4 ["row","beside"] [] rfl (C7.of (by kernel_rfl)) (A10 (by rfl) (by rfl) (by exact T.zip) (A0 (B2 0) (A0 (B2 1) A6))) (λ_ _ _ _=>⟨(U0 2 (by rfl) (by rfl) (D6 (K5 0 (I0 (by kernel_rfl))) (D6 (K5 1 (I0 (by kernel_rfl))) P9)) (by rfl) (by rfl)),E3,(D5 (by rfl) (by rfl) (L4 ["x","y"] [] rfl (C7.of (by kernel_rfl)) (A10 (by rfl) (by rfl) (by exact T.zip) (A0 (B2 0) (A0 (B2 1) A6))) (λ_ _ _ _=>⟨(U0 2 (by rfl) (by rfl) (D6 (K5 0 (I0 (by kernel_rfl))) (D6 (K5 1 (I0 (by kernel_rfl))) P9)) (by rfl) (by rfl)),E3,(D5 (by rfl) (by rfl) (A9 J2 (B2 0) (B2 1)))⟩)))⟩)))))),λds Qd Xd h=>?_⟩
 obtain ⟨g,h,n,rfl,shg,shh,hn,q⟩:=h;show (_:N5) _ [some (false,gD g),some (false,gD h)] _;have hgl:=shg.1;have hhl:=shh.1;cbv;refine ⟨g,h,n,rfl,shg,shh,hn,?_⟩;cbv;refine B7v ?_;rw[B5h];refine K4 (L:=g.zip h) (λp=>.tuple [iD p.1,iD p.2]) (λp=>iD ((p.1.zip p.2).map λz=>z.1 - z.2)) (λp hp es Q' hl q'=>?_) (by simp;lia) ?_
 ·obtain ⟨r,s⟩:=p;have hr:=shg.2 r (of_mem_zip hp).1;cbv;rw[A0i];refine K4 (L:=r.zip s) (λp=>.tuple [.int p.1,.int p.2]) (λp=>.int (p.1 - p.2)) (λp hp es Q' hl q'=>?_) (by simp;lia) ?_
  ·obtain ⟨x,y⟩:=p;cbv;exact q'
  ·have e:PyData.list ((r.zip s).map λp=>PyData.int (p.1 - p.2))=iD ((r.zip s).map λz=>z.1 - z.2):=by unfold iD;rw[map_map];rfl
   rw[e];cbv;exact q'
 ·have e:PyData.list ((g.zip h).map λp=>iD ((p.1.zip p.2).map λz=>z.1 - z.2))=gD (N1 n n λi j=>N0 g i j - N0 h i j):=by
   rw[<-B5r (R:=(g.zip h).map λp=>(p.1.zip p.2).map λz=>z.1 - z.2) ⟨by simp[hgl,hhl],λr hr=>by
    obtain ⟨⟨a,b⟩,hp,rfl⟩:=zg.mp hr;have:=shg.2 a (of_mem_zip hp).1;have:=shh.2 b (of_mem_zip hp).2;simp;lia⟩ λi j hi hj=>by
    obtain ⟨a,a1,a2,_⟩:=shg.cell hi hj;obtain ⟨b,b1,b2,_⟩:=shh.cell hi hj;refine A2q (r:=(a.zip b).map λz=>z.1 - z.2) ?_ ?_
    ·rw[qp,List.getElem?_zip_eq_some (z:=(a,b)) |>.mpr ⟨a1,b1⟩];rfl
    ·rw[qp,List.getElem?_zip_eq_some (z:=(N0 g i j,N0 h i j)) |>.mpr ⟨a2,b2⟩];rfl]
   unfold gD;rw[map_map];rfl
  rw[e];cbv;exact q
abbrev A1t:Stmt:=top 32
theorem B0m:C2 ["table"] ["table"] (B1 A1t):=by walk_at "sc"
def A6f:SpD:=λds Q _=>∃ (g:List (List Int)) (n:Nat),ds=[gD g]/\Sh n n g/\n<=8/\Q (gD (N1 n n λi j=>MDet.idm i j - N0 g i j)) true
theorem B0x (F:W5 K "less_grid" "less_grid" A1t f fd) (T:Blt mg) (D_plain_grid:Df P w K mg base "plain_grid" ["n"] 1 (G3 K Y2)) (D_taken_off:DfE P w K mg base "taken_off" ["one","other"] 2 (G3 K B48)):J5 P w K mg base (CXE P w base) 3 f fd ["table"] (G3 K A6f):=by
 refine okE F B0m (λds Q X h=>?_) (λcdv A outer s H E hr=>?_)
 ·obtain ⟨g,n,rfl,_⟩:=h;rfl
 refine ⟨_,(A7 (C6 (T9 (by exact D_taken_off) A5j (by exact hr.mono (by lia)) (A0 (M8 (by exact D_plain_grid) (by exact hr.mono (by lia)) (A0 (E8 (Q8 (by rfl)) (by rfl) (by exact T.len) (by decide +kernel) (A0 (B2 0) A6)) A6)) (A0 (B2 0) A6))))),λds Qd Xd h=>?_⟩;obtain ⟨g,n,rfl,shg,hn,q⟩:=h;sleep 15;have hgl:=shg.1;cbv;refine ⟨n,by rw[hgl],hn,?_⟩;cbv;refine ⟨_,g,n,rfl,N4 _ _ _,shg,hn,?_⟩;cbv;have e:(N1 n n λi j=>N0 (N1 n n MDet.idm) i j - N0 g i j)=N1 n n λi j=>MDet.idm i j - N0 g i j:=by
  unfold N1;refine map_congr_left λi hi=>map_congr_left λj hj=>?_;have:=Q7 (M:=MDet.idm) (mem_range.mp hi) (mem_range.mp hj);show N0 (N1 n n MDet.idm) i j - N0 g i j=_;rw[this]
 rw[e];exact q
abbrev A7k:Stmt:=top 6
theorem B8w:C2 ["grid"] ["grid"] (B1 A7k):=by walk_at "sc"
theorem B8q (F:W5 K "copied" "copied" A7k f fd) (T:Blt mg):J5 P w K mg base CX0 1 f fd ["grid"] (G3 K A2d):=by
 refine ok0 F B8w (λds Q X h=>?_) (λcdv A outer s H E hr=>?_) λds Qd Xd h=>h
 ·obtain ⟨b,rfl,_⟩:=h;rfl
 refine ⟨_,(A7 (C6 (L4 ["row"] [] rfl (C7.of (by kernel_rfl)) (O9 (by rfl) (B2 0)) (λ_ _ _ _=>⟨(K5 0 (I0 (by kernel_rfl))),E3,(D5 (by rfl) (by rfl) (A3d (A7j (by rfl)) (by rfl) (by exact T.list) (by decide +kernel) (A0 (B2 0) A6)))⟩)))),λds Qd h=>?_⟩;obtain ⟨g,rfl,hg,q⟩:=h;sleep 15;cbv;refine B5o id (λd hd es Q' hl q'=>?_) (by rw[qk];lia) ?_
 ·obtain ⟨r,hr',rfl⟩:=zg.mp hd;cbv;exact q'
 ·cbv;rw[List.map_id];exact q
theorem Bd.divX {a p:Int} (h:Bd m p) (l:m < 9000) (hp:p≠0):C9j a p:=⟨hp,by
 have h1:=Bd.iff.mp h;have:p.natAbs.log2 < m:=(Nat.log2_lt (by lia)).mpr h1;lia⟩
abbrev A0e:Stmt:=top 20
theorem A80:C2 ["top","row","ahead"] ["top","row","ahead"] (B1 A0e):=by walk_at "sc"
def B40 (t r p:Int) (ts rs:List Int):List Int:=(ts.zip rs).map λz=>(t*z.2 - r*z.1).fdiv p
def A6k:SpD:=λds Q _=>∃ (t r p:Int) (ts rs:List Int) (m:Nat),ds=[iD (t::ts),iD (r::rs),.int p]/\ts.length<=1000/\p≠0/\Bd 4000 p/\m<=4000/\Bd m t/\Bd m r/\(∀ x∈ts,Bd m x)/\(∀ x∈rs,Bd m x)/\Q (iD (B40 t r p ts rs)) true
theorem A7i (F:W5 K "bareiss_row" "bareiss_row" A0e f fd) (T:Blt mg):J5 P w K mg base CX0 1 f fd ["top","row","ahead"] (G3 K A6k):=by
 refine ok0 F A80 (λds Q X h=>?_) (λcdv A outer s H E hr=>?_) λds Qd Xd h=>h
 ·obtain ⟨t,r,p,ts,rs,m,rfl,_⟩:=h;rfl
 refine ⟨_,(A7 (C6 (L4 ["x","y"] [("top",0),("row",1),("ahead",2)] rfl (C7.of (by kernel_rfl)) (A10 (by rfl) (by rfl) (by exact T.zip) (A0 (A2j (by rfl) (B2 0) (A43 A1) A44) (A0 (A2j (by rfl) (B2 1) (A43 A1) A44) A6))) (λ_ _ _ _=>⟨(U0 2 (by rfl) (by rfl) (D6 (K5 0 (I0 (by kernel_rfl))) (D6 (K5 1 (I0 (by kernel_rfl))) P9)) (by rfl) (by rfl)),E3,(D5 (by rfl) (by rfl) (A9 B9x (A9 J2 (A9 N8 (E2 (dix (by rfl)) (B2 2) A1 (λ_ _=>rfl)) (B2 1)) (A9 N8 (E2 (dix (by rfl)) (B2 3) A1 (λ_ _=>rfl)) (B2 0))) (B2 4)))⟩)))),λds Qd h=>?_⟩;obtain ⟨t,r,p,ts,rs,m,rfl,hl,hp,hpb,hm,h1,h2,h3,h4,q⟩:=h;show (_:N5) _ [some (false,iD (t::ts)),some (false,iD (r::rs)),some (false,.int p)] _;cbv;rw[A4k (j:=1) (z:=1) rfl,A4k (j:=1) (z:=1) rfl,List.drop_succ_cons,List.drop_succ_cons,List.drop_zero,List.drop_zero,A0i];refine B5o (λd=>match d with|.tuple [.int x,.int y]=>.int ((t*y - r*x).fdiv p)|d=>d) (λd hd es Q' hl q'=>?_) (by simp;lia) ?_
 ·obtain ⟨⟨x,y⟩,hxy,rfl⟩:=zg.mp hd;cbv;have hx:=h3 x (of_mem_zip hxy).1;have hy:=h4 y (of_mem_zip hxy).2;refine ⟨.int t,at0,?_⟩;cbv;refine ⟨Bd.mulOk h1 hy (by lia),?_⟩;cbv;refine ⟨.int r,at0,?_⟩;cbv;refine ⟨Bd.mulOk h2 hx (by lia),?_⟩;cbv;refine ⟨Bd.divX hpb (by decide) hp,?_⟩;cbv;exact q'
 ·cbv;rw[map_map];have e:iD (B40 t r p ts rs)=PyData.list ((ts.zip rs).map λz=>PyData.int ((t*z.2 - r*z.1).fdiv p)):=by
   unfold iD B40;rw[map_map];rfl
  rw[e] at q;exact q
abbrev Q0:Stmt:=top 19
theorem C8:C2 ["grid","rows","sign","ahead","firsts","top"] ["grid"] (B1 Q0):=by walk_at "sc"
def C4e:SpD:=λds Q _=>∃ (g:List (List Int)) (n:Nat),ds=[gD g]/\Sh n n g/\n<=8/\Bg 207 g/\Q (.int (MDet.det n (N0 g))) true
structure SqW (g:List (List Int)) (n m:Nat) (R:List (List Int)) (sgn p:Int):Prop where
 sh:Sh m m R
 p0:p≠0
 pb:Bd 4000 p
 sg:sgn=1\/sgn=-1
 n8:n<=8
 bd:∃ k,k+m=n/\MDet.Pb (λr q=>q.natAbs<=2 ^ (210*(k+r+1))) m (N0 R) p
 pi:MDet.Pi m (N0 R) p
 j0:m=0->sgn*p=MDet.det n (N0 g)
 j1:∀ k,m=k+1->∀ b,b*p ^ k=MDet.det (k+1) (N0 R)->sgn*b=MDet.det n (N0 g)
def B5u (R:List (List Int)):List Int:=(R.zipIdx.filter λz=>z.1.headD 0 != 0).map λz=>(z.2:Int)
theorem A2i {i:Nat} (h:R[i]?=some r):r.headD 0=N0 R i 0:=by
 unfold N0;rw[getD_eq_getElem?_getD,getD_eq_getElem?_getD,h,Option.getD_some];cases r<;>rfl
def isP:D->Bool
 | .tuple [_,.list (.int x::_)]=>x != 0
 | _=>false
def D6f:D->D
 | .tuple [z,_]=>z
 | d=>d
theorem A9k {α β:Type} (f:α->β):∀ (l:List α) (i:Nat),(l.map f).eraseIdx i=(l.eraseIdx i).map f
 | [],_=>rfl
 | _::_,0=>rfl
 | a::l,i+1=>by
  show f a::(l.map f).eraseIdx i=f a::(l.eraseIdx i).map f;rw[A9k f l i]
theorem B8j (R:List (List Int)):PyData.list (((R.zipIdx.map λp=>PyData.tuple [.int (p.2:Int),iD p.1]).filter isP).map D6f)=iD (B5u R):=by
 unfold iD B5u;rw[List.filter_map,map_map,map_map];have:(isP ∘ λp:List Int × Nat=>PyData.tuple [.int (p.2:Int),iD p.1])=λz=>z.1.headD 0 != 0:=funext λ⟨r,i⟩=>by cases r<;>rfl
 show PyData.list (List.map _ (List.filter (isP ∘ λp:List Int × Nat=>PyData.tuple [.int (p.2:Int),iD p.1]) _))=_;rw[this];rfl
theorem C7o (h:B5u R=[]) {i:Nat} (hi:i < R.length):N0 R i 0=0:=by
 have hr:R[i]?=some R[i]:=zd hi;have h1:=List.map_eq_nil_iff.mp h;have h2:=List.filter_eq_nil_iff.mp h1 (R[i],i) (List.mem_zipIdx_iff_getElem?.mpr hr);have h3:=A2i hr;simp at h2;rw[<-h3];simpa using h2
theorem C35 {a:Int} {l:List Int} (h:B5u R=a::l):∃ f:Nat,a=f/\f < R.length/\N0 R f 0≠0:=by
 have h1:a∈B5u R:=by rw[h];exact qx
 obtain ⟨⟨r,f⟩,h2,rfl⟩:=zg.mp h1;obtain ⟨h3,h4⟩:=List.mem_filter.mp h2;have h5:=List.mem_zipIdx_iff_getElem?.mp h3;have h6:=A2i h5;refine ⟨f,rfl,(ql.mp h5).1,?_⟩;rw[<-h6];simpa using h4
def nxr (top row:List Int) (p:Int):List Int:=B40 (top.headD 0) (row.headD 0) p top.tail row.tail
def nx (R:List (List Int)) (f:Nat) (p:Int):List (List Int):=(R.eraseIdx f).map λrow=>nxr (R.getD f []) row p
theorem C12 {t r p x:Int} {ts rs:List Int} (h:ts[j]?=some x) (h':rs[j]?=some y):(B40 t r p ts rs)[j]?=some ((t*y - r*x).fdiv p):=by
 unfold B40;rw[qp,List.getElem?_zip_eq_some (z:=(x,y)) |>.mpr ⟨h,h'⟩];rfl
theorem C0u {f i:Nat}:(R.eraseIdx f)[i]?=R[MDet.skip f i]?:=by
 rw[List.getElem?_eraseIdx];unfold MDet.skip;split<;>rfl
theorem D2g {p:Int} (sh:Sh (m+1) (m+1) R) (pi:MDet.Pi (m+1) (N0 R) p) (p0:p≠0) {f i:Nat} (hf:f < m+1) (hi:i < m) (hj:j < m):∃ row,(nx R f p)[i]?=some row/\row[j]?=some (MDet.nxt (N0 R) f p i j):=by
 have hs:=MDet.skip_lt (i:=f) hi;obtain ⟨t,e1,e2,_⟩:=sh.cell hf (show j+1 < m+1 by lia);obtain ⟨r,d1,d2,_⟩:=sh.cell hs (show j+1 < m+1 by lia);have ht:=A2i e1;have hr:=A2i d1;have ex:=MDet.nxt_exact pi hf hi hj;refine ⟨nxr t r p,?_,?_⟩
 ·unfold nx;rw[qp,C0u,d1,getD_eq_getElem?_getD,e1];rfl
 ·unfold nxr;have:=C12 (t:=t.headD 0) (r:=r.headD 0) (p:=p) (ts:=t.tail) (rs:=r.tail) (j:=j) (by rw[List.getElem?_tail];exact e2) (by rw[List.getElem?_tail];exact d2);rw[this,ht,hr,<-ex,Int.mul_fdiv_cancel_left _ p0]
theorem D0d {p:Int} (sh:Sh (m+1) (m+1) R) (pi:MDet.Pi (m+1) (N0 R) p) (p0:p≠0) {f i:Nat} (hf:f < m+1) (hi:i < m) (hj:j < m):N0 (nx R f p) i j=MDet.nxt (N0 R) f p i j:=by
 obtain ⟨row,h1,h2⟩:=D2g sh pi p0 hf hi hj;exact A2q h1 h2
theorem D7d {p:Int} (sh:Sh (m+1) (m+1) R) {f:Nat} (hf:f < m+1):Sh m m (nx R f p):=by
 constructor
 ·unfold nx;rw[qk,List.length_eraseIdx,qr (by rw[sh.1];exact hf),sh.1];rfl
 ·intro r hr;obtain ⟨row,h1,rfl⟩:=zg.mp hr;have h2:=sh.2 row (List.mem_of_mem_eraseIdx h1);obtain ⟨t,e1,e2,_⟩:=sh.row hf;rw[getD_eq_getElem?_getD,e1];unfold nxr B40;simp[e2,h2]
theorem Pi.congr {M:MDet.Mat} {p:Int} (h:MDet.Pi m M p) (e:∀ i j,i < m->j < m->N i j=M i j):MDet.Pi m N p:=λr O γ h1 h2=>by
 have:=h r O γ h1 h2;rw[MDet.det_congr (b:=λi j=>M (O i) (γ j)) λi j hi hj=>e _ _ (h1 i hi) (h2 j hj)];exact this
theorem W9:∀ f,(f % 2=1->MDet.alt f=-1)/\(f % 2=0->MDet.alt f=1)
 | 0=>⟨λh=>by lia,λ_=>rfl⟩
 | f+1=>⟨λh=>by show - MDet.alt f=-1;rw[(W9 f).2 (by lia)],λh=>by show - MDet.alt f=1;rw[(W9 f).1 (by lia)];rfl⟩
theorem Pb.congr {V:Nat->Int->Prop} {M:MDet.Mat} {p:Int} (h:MDet.Pb V m M p) (e:∀ i j,i < m->j < m->N i j=M i j):MDet.Pb V m N p:=λr O γ hr h1 h2 q hq=>by
 refine h r O γ hr h1 h2 q ?_;rw[<-hq];exact (MDet.det_congr λi j hi hj=>e _ _ (h1 i hi) (h2 j hj)).symm
theorem SqW.cellB {sgn p:Int} (W:SqW g n m R sgn p) {i:Nat} (hi:i < m) (hj:j < m):Bd 1681 (N0 R i j):=by
 obtain ⟨k,hk,b⟩:=W.bd;have h1:=b.cell hi hj;have h8:=W.n8;refine Bd.iff.mpr (qu h1 (Nat.pow_lt_pow_right (by decide) ?_));lia
theorem SqW.bgB {sgn p:Int} (W:SqW g n m R sgn p):Bg 1681 R:=by
 intro r hr x hx;obtain ⟨i,hi⟩:=List.mem_iff_getElem?.mp hr;obtain ⟨j,hj⟩:=List.mem_iff_getElem?.mp hx;have hi':i < m:=by have:=(ql.mp hi).1;rw[W.sh.1] at this;exact this
 have hj':j < m:=by have:=(ql.mp hj).1;rw[W.sh.2 r hr] at this;exact this
 rw[<-A2q hi hj];exact W.cellB hi' hj'
theorem SqW.next {sgn p:Int} (W:SqW g n (m+1) R sgn p) {f:Nat} (hf:f < m+1) (hq:N0 R f 0≠0):SqW g n m (nx R f p) (MDet.alt f*sgn) (N0 R f 0):=by
 have nm:=λi j (hi:i < m) (hj:j < m)=>D0d W.sh W.pi W.p0 hf hi hj;refine ⟨D7d W.sh hf,hq,(W.cellB hf (by lia)).mono (by decide),?_,W.n8,?_,?_,?_,?_⟩
 ·rcases Nat.mod_two_eq_zero_or_one f with h|h
  ·rw[(W9 f).2 h,Int.one_mul];exact W.sg
  ·rw[(W9 f).1 h];rcases W.sg with h|h<;>rw[h]<;>decide
 ·obtain ⟨k,hk,b⟩:=W.bd;refine ⟨k+1,by lia,?_⟩;have:=Pb.congr (b.step W.pi W.p0 hf hq) nm;intro r O γ hr h1 h2 q hq';have h3:=this r O γ hr h1 h2 q hq';rw[show k+1+r+1=k+(r+1)+1 by lia];exact h3
 ·exact Pi.congr (W.pi.step W.p0 hf hq) nm
 ·intro h;subst h;obtain rfl:f=0:=by lia
  have:=W.j1 0 rfl (N0 R 0 0) (by rw[MDet.det1,Int.pow_zero,Int.mul_one]);rw[<-this];show (1:Int)*sgn*N0 R 0 0=_;rw[Int.one_mul]
 ·intro k hk b hb';subst hk;rw[MDet.det_congr (b:=MDet.nxt (N0 R) f p) nm] at hb';have h1:=MDet.bar_step W.pi hf hq hb';have h2:=W.j1 (k+1) rfl (MDet.alt f*b) h1;rw[<-h2,Int.mul_comm (MDet.alt f) sgn,Int.mul_assoc]
theorem SqW.call {sgn p:Int} (W:SqW g n (m+1) R sgn p) {f:Nat} {hf:f < R.length} {row:List Int} (hr:row∈R.eraseIdx f) {Q:D->Bool->Prop} (q:Q (iD (nxr R[f] row p)) true):A6k [iD R[f],iD row,.int p] Q X:=by
 have hB:=W.bgB;have h8:=W.n8;obtain ⟨k,hk,_⟩:=W.bd;have m1:R[f]∈R:=List.getElem_mem hf;have m2:=List.mem_of_mem_eraseIdx hr;have l1:=W.sh.2 _ m1;have l2:=W.sh.2 _ m2;have b1:=hB _ m1;have b2:=hB _ m2;generalize R[f]=top at *;cases top with
 | nil=>simp at l1
 | cons t ts =>
  cases row with
  | nil=>simp at l2
  | cons r rs =>
   refine ⟨t,r,p,ts,rs,1681,rfl,by simp at l1;lia,W.p0,W.pb.mono (by decide),by lia,b1 _ qx,b2 _ qx,λx hx=>b1 x (qy _ hx),λx hx=>b2 x (qy _ hx),q⟩
theorem SqW.zero {sgn p:Int} (W:SqW g n (m+1) R sgn p) (h:B5u R=[]):MDet.det n (N0 g)=0:=by
 have h1:=W.j1 m rfl 0 (by rw[MDet.det_col0 λi hi=>C7o h (by rw[W.sh.1];exact hi),Int.zero_mul]);rw[<-h1,Int.mul_zero]
theorem SqW.start (h:Sh n n g) (hn:n<=8) (hb:Bg 207 g):SqW g n n g 1 1:=by
 refine ⟨h,by decide,Bd.iff.mpr ?_,.inl rfl,hn,⟨0,by lia,MDet.Pb.start ?_⟩,MDet.Pi.one,?_,?_⟩
 ·have h1:(1:Int).natAbs=1:=rfl;rw[h1];exact Nat.one_lt_two_pow (Nat.succ_ne_zero 3999)
 ·intro r O γ hr h1 h2;have:=MDet.det_bdc 207 (r+1) (λi j=>N0 g (O i) (γ j)) (by lia) λi j hi hj=>by
   obtain ⟨row,_,_,h3,h4⟩:=h.cell (h1 i hi) (h2 j hj);exact zk (Bd.iff.mp (hb row h3 _ h4))
  rw[show 0+r+1=r+1 by lia];exact this
 ·rintro rfl;rfl
 ·rintro k rfl b e;rw[Int.one_pow,Int.mul_one] at e;rw[Int.one_mul];exact e
theorem A1e (F:W5 K "square_determinant" "square_determinant" Q0 f fd) (T:Blt mg) (D_copied:Df P w K mg base "copied" ["grid"] 1 (G3 K A2d)) (D_bareiss_row:Df P w K mg base "bareiss_row" ["top","row","ahead"] 1 (G3 K A6k)):J5 P w K mg base CX0 2 f fd ["grid"] (G3 K C4e):=by
 refine ok0 F C8 (λds Q X h=>?_) (λcdv A outer s H E hr=>?_) λds Qd Xd h=>h
 ·obtain ⟨g,n,rfl,_⟩:=h;rfl
 refine ⟨_,(A4 (G5 1 C8.nd (M8 (by exact D_copied) (by exact hr.mono (by lia)) (A0 (B2 0) A6)))
   (A4 (G5 2 C8.nd A1)
   (A4 (G5 3 C8.nd A1)
   (A4 (A9y PassesOwn.never (A9q (by rfl) (B2 1)) (A4 (A29 (i:=4) (hN:=C8.nd) (hyi:=rfl) (hy:=rfl) (hc:=rfl) (own:=["at","row"]) (cap:=[]) (L:=C7.of (by kernel_rfl)) (hi:=(A48 (by rfl) (by rfl) (by exact T.enumerate) (A0 (B2 1) A6) (by rfl))) (hin:=(λ_ _ _ _=>⟨(U0 2 (by rfl) (by rfl) (D6 (K5 0 (I0 (by kernel_rfl))) (D6 (K5 1 (I0 (by kernel_rfl))) P9)) (by rfl) (by rfl)),(A3z (B8 (P6 (by rfl) (by exact hr.units)) (E2 (dix (by rfl)) (B2 1) A1 (λ_ _=>rfl)) A1 (B6 _))),(D5 (by rfl) (by rfl) (B2 0))⟩)))
   (A4 (G9 (B1x (A9q (by rfl) (B2 4))) (A7 (C6 A1)) D0)
   (A4 (C6b 5 1 (by rfl) C8.nd (D1 1) (E2 (dix (by rfl)) (B2 4) A1 (λ_ _=>rfl)) (by rfl) (by rfl) (by rfl))
   (A4 (G9 (B8 (J7 (by rfl) (by exact hr.units)) (A9 J4 (E2 (dix (by rfl)) (B2 4) A1 (λ_ _=>rfl)) A1) A1 (B6 _)) (A7 (G5 2 C8.nd (T8 (B2 2)))) D0)
   (A4 (A29 (i:=1) (hN:=C8.nd) (hyi:=rfl) (hy:=rfl) (hc:=rfl) (own:=["row"]) (cap:=[("top",5),("ahead",3)]) (L:=C7.of (by kernel_rfl)) (hi:=(O9 (by rfl) (B2 1))) (hin:=(λ_ _ _ _=>⟨(K5 0 (I0 (by kernel_rfl))),E3,(D5 (by rfl) (by rfl) (M8 (by exact D_bareiss_row) (by exact hr.mono (by lia)) (A0 (B2 1) (A0 (B2 0) (A0 (B2 2) A6)))))⟩)))
   (A7 (G5 3 C8.nd (E2 (dix (by rfl)) (B2 5) A1 (λ_ _=>rfl))))))))))
   (A7 (C6 (A9 N8 (B2 2) (B2 3)))))))),λds Qd h=>?_⟩
 obtain ⟨g,n,rfl,hsh,hn,hb,q⟩:=h;show (_:N5) _ [some (false,gD g),none,none,none,none,none] _;cbv;refine ⟨g,rfl,by have:=hsh.1;lia,?_⟩;cbv;refine ⟨λm O=>∃ (R:List (List Int)) (sgn p:Int) (x4 x5:Option (Bool × D)),O=[some (false,gD g),some (true,gD R),some (false,.int sgn),some (false,.int p),x4,x5]/\SqW g n m R sgn p,⟨n,g,1,1,_,_,rfl,SqW.start hsh hn hb⟩,?_⟩;rintro m O ⟨R,sgn,p,x4,x5,rfl,W⟩;cbv;sleep 8
 ·cbv;obtain ⟨m,rfl⟩:∃ k,m=k+1:=by
   cases m with
   | zero=>have:=W.sh.1;cases R with|nil=>simp at h1|cons a l=>simp at this
   | succ k=>exact ⟨k,rfl⟩
  have hRl:=W.sh.1;have hm5:R.length<=12:=by
   obtain ⟨k,hk,_⟩:=W.bd;have:=W.n8;lia
  rw[B2f];refine C03 isP D6f (λd hd es Q' hl q'=>?_) (by simp;lia) ?_
  ·obtain ⟨⟨r,i⟩,hz,rfl⟩:=zg.mp hd;have hz':=List.mem_zipIdx_iff_getElem?.mp hz;obtain ⟨x,r',rfl⟩:∃ x r',r=x::r':=by
    have:=W.sh.2 r (List.mem_iff_getElem?.mpr ⟨i,hz'⟩);cases r with|nil=>simp at this|cons x r'=>exact ⟨x,r',rfl⟩
   cbv;refine ⟨.int x,at0,?_⟩;cbv;refine V8 (λhx=>?_) λhx=>?_
   ·cbv;have e1:isP (PyData.tuple [PyData.int i,iD (x::r')])=true:=hx;rw[qr e1] at q';exact q'
   ·have e1:¬ isP (PyData.tuple [PyData.int i,iD (x::r')])=true:=hx;rw[qs e1] at q';exact q'
  ·rw[B8j];cbv;refine V8 (λh2=>?_) λh2=>?_
   ·cbv;rw[<-W.zero (by simpa using h2)];exact q
   ·cases h3:B5u R with
    | nil=>simp[h3] at h2
    | cons a l =>
     obtain ⟨f,rfl,hf,hq⟩:=C35 h3;cbv;refine ⟨R.map iD,rfl,by simp;lia,?_⟩;cbv;refine ⟨.int f,at0,?_⟩;cbv;refine ⟨f,f,iD R[f],rfl,J6 (by simp[hf]),by simp[hf],?_⟩;rw[A9k];cbv;refine ⟨.int f,at0,?_⟩;cbv;have hf':f < m+1:=by rw[<-hRl];exact hf
     have W':=W.next hf' hq;refine V8 (λh4=>?_) λh4=>?_
     ·have h5:(f:Int) % 2=1:=by simpa using h4
      rw[(W9 f).1 (by lia),show (-1:Int)*sgn=-sgn by lia] at W';cbv;refine K4 iD (λrow=>iD (nxr R[f] row p)) (λrow hrow es Q' hl q'=>?_) ?_ ?_
      ·cbv;exact W.call hrow ⟨hl,rfl,q'⟩
      ·have:=List.length_eraseIdx_le R f;lia
      ·cbv;have hc:R[f]?=some R[f]:=zd hf;obtain ⟨r0,c1,c2,_⟩:=W.sh.cell hf' (show 0 < m+1 by lia);rw[hc] at c1;injection c1 with c1
       subst c1;refine ⟨.int (N0 R f 0),B9 (j:=0) (by rw[qp,c2];rfl),?_⟩;cbv;have e:PyData.list ((R.eraseIdx f).map λrow=>iD (nxr R[f] row p))=gD (nx R f p):=by
        unfold nx gD;rw[getD_eq_getElem?_getD,hc,Option.getD_some,map_map];rfl
       rw[e];exact ⟨m,Nat.lt_succ_self m,nx R f p,_,_,_,_,rfl,W'⟩
     ·have h5:¬ (f:Int) % 2=1:=by simpa using h4
      rw[(W9 f).2 (by lia),Int.one_mul] at W';cbv;refine K4 iD (λrow=>iD (nxr R[f] row p)) (λrow hrow es Q' hl q'=>?_) ?_ ?_
      ·cbv;exact W.call hrow ⟨hl,rfl,q'⟩
      ·have:=List.length_eraseIdx_le R f;lia
      ·cbv;have hc:R[f]?=some R[f]:=zd hf;obtain ⟨r0,c1,c2,_⟩:=W.sh.cell hf' (show 0 < m+1 by lia);rw[hc] at c1;injection c1 with c1
       subst c1;refine ⟨.int (N0 R f 0),B9 (j:=0) (by rw[qp,c2];rfl),?_⟩;cbv;have e:PyData.list ((R.eraseIdx f).map λrow=>iD (nxr R[f] row p))=gD (nx R f p):=by
        unfold nx gD;rw[getD_eq_getElem?_getD,hc,Option.getD_some,map_map];rfl
       rw[e];exact ⟨m,Nat.lt_succ_self m,nx R f p,_,_,_,_,rfl,W'⟩
 ·cbv;have hR:R=[]:=by simpa using h1
  have hm:=W.sh.1;rw[hR] at hm;refine ⟨A5z.ok (.inl ?_),?_⟩
  ·rcases W.sg with h|h<;>rw[h]<;>decide
  ·rw[W.j0 hm.symm];exact q
abbrev U5:Stmt:=top 8
theorem A3v:C2 ["grid"] ["grid"] (B1 U5):=by walk_at "sc"
def B4f (cG:Addr):SpD:=λds Q X=>∃ (g:List (List Int)),ds=[gD g]/\g.length<=1000/\((∀ r∈g,r.length=g.length)->Q .none true)/\((∃ r∈g,r.length≠g.length)->X cG)
theorem A3w (F:W5 K "require_square" "require_square" U5 f fd) (T:Blt mg) (C_NoGrid:ExC K mg "NoGrid" cG):J5 P w K mg base (CXE P w base) 1 f fd ["grid"] (G3 K (B4f cG)):=by
 refine okE F A3v (λds Q X h=>?_) (λcdv A outer s H E hr=>?_)
 ·obtain ⟨g,rfl,_⟩:=h;rfl
 refine ⟨_,(A7 (G9 (dnT (A6i (E8 (B71 (by rfl) (by rfl)) (by rfl) (by exact T.any) (by decide +kernel) (A0 (L4 ["row"] [("grid",0)] rfl (C7.of (by kernel_rfl)) (O9 (by rfl) (B2 0)) (λ_ _ _ _=>⟨(K5 0 (I0 (by kernel_rfl))),E3,(D5 (by rfl) (by rfl) (U1 (P6 (by rfl) (by exact hr.units)) (E8 (Q8 (by rfl)) (by rfl) (by exact T.len) (by decide +kernel) (A0 (B2 0) A6)) (E8 (Q8 (by rfl)) (by rfl) (by exact T.len) (by decide +kernel) (A0 (B2 1) A6)) (B6 _)))⟩)) A6)))) (A7 (X0 U9 (by rfl) (by exact C_NoGrid) (by rfl) (A0 A2g A6))) D0)),λds Qd Xd h=>?_⟩;obtain ⟨g,rfl,hl,q,x⟩:=h;sleep 15;cbv;refine K4 iD (λr=>.bool (!((r.length:Int)==(g.length:Int)))) (λr hr es Q' hl q'=>?_) (by lia) ?_
 ·cbv;exact q'
 ·cbv;refine ⟨_,A27 _ _,?_⟩;cbv;refine V8 (λh=>?_) λh=>?_
  ·cbv;obtain ⟨r,h1,h2⟩:∃ r∈g,r.length≠g.length:=by
    rw[List.any_map] at h;obtain ⟨r,h1,h2⟩:=List.any_eq_true.mp h;exact ⟨r,h1,λe=>by simp[e] at h2⟩
   exact x ⟨r,h1,h2⟩
  ·cbv;refine q λr hr=>?_;by_cases e:r.length=g.length
   ·exact e
   ·refine absurd ?_ h;rw[List.any_map];exact List.any_eq_true.mpr ⟨r,hr,by simp;lia⟩
abbrev A05:Stmt:=top 18
theorem A86:C2 ["grid"] ["grid"] (B1 A05):=by walk_at "sc"
def B1s (cG:Addr):SpD:=λds Q X=>∃ (g:List (List Int)),ds=[gD g]/\g.length<=8/\Bg 207 g/\((∀ r∈g,r.length=g.length)->Q (.int (MDet.det g.length (N0 g))) true)/\((∃ r∈g,r.length≠g.length)->X cG)
theorem A81 (F:W5 K "determinant" "determinant" A05 f fd) (T:Blt mg) (D_require_square:DfE P w K mg base "require_square" ["grid"] 1 (G3 K (B4f cG))) (D_square_determinant:Df P w K mg base "square_determinant" ["grid"] 2 (G3 K C4e)):J5 P w K mg base (CXE P w base) 3 f fd ["grid"] (G3 K (B1s cG)):=by
 refine okE F A86 (λds Q X h=>?_) (λcdv A outer s H E hr=>?_)
 ·obtain ⟨g,rfl,_⟩:=h;rfl
 refine ⟨_,(A4 (A4h (T9 (by exact D_require_square) A5j (by exact hr.mono (by lia)) (A0 (B2 0) A6)))
   (A7 (dnS (C6 (M8 (by exact D_square_determinant) (by exact hr.mono (by lia)) (A0 (B2 0) A6)))))),λds Qd Xd h=>?_⟩
 obtain ⟨g,rfl,hl,hb,q,x⟩:=h;sleep 15;cbv;refine ⟨g,rfl,by lia,λh=>?_,x⟩;cbv;exact ⟨g,g.length,rfl,⟨rfl,h⟩,hl,hb,q h⟩
theorem C2o {b:Nat} {M:MDet.Mat} (h:∀ i j,i < n->j < m->Bd b (M i j)):Bg b (N1 n m M):=by
 intro r hr x hx;obtain ⟨i,hi,rfl⟩:=zg.mp hr;obtain ⟨j,hj,rfl⟩:=zg.mp hx;exact h i j (mem_range.mp hi) (mem_range.mp hj)
theorem C4o {Q:D->Bool->Prop} (sh:Sh n n g) (hn:n<=8) (b:Bg 207 g) (q:Q (.int (MDet.det n (N0 g))) true):B1s cG [gD g] Q X :=
 ⟨g,rfl,by rw[sh.1];exact hn,b,λ_=>by rw[sh.1];exact q,λ⟨r,h1,h2⟩=>absurd ((sh.2 r h1).trans sh.1.symm) h2⟩
abbrev A4x:Stmt:=top 35
theorem A6z:C2 ["table","whole"] ["table"] (B1 A4x):=by walk_at "sc"
def sgn (x:Int):Int:=if 0 < x then 1 else if x < 0 then -1 else 0
def B0h:SpD:=λds Q _=>∃ (g:List (List Int)) (n:Nat),ds=[gD g]/\Sh n n g/\n<=8/\Bg 200 g/\Q (.int (sgn (MDet.det n λi j=>MDet.idm i j - N0 g i j))) true
theorem B51 (F:W5 K "sign_of" "sign_of" A4x f fd) (T:Blt mg) (D_determinant:DfE P w K mg base "determinant" ["grid"] 3 (G3 K (B1s cG))) (D_less_grid:DfE P w K mg base "less_grid" ["table"] 3 (G3 K A6f)):J5 P w K mg base (CXE P w base) 4 f fd ["table"] (G3 K B0h):=by
 refine okE F A6z (λds Q X h=>?_) (λcdv A outer s H E hr=>?_)
 ·obtain ⟨g,n,rfl,_⟩:=h;rfl
 refine ⟨_,(A4 (G5 1 A6z.nd (T9 (by exact D_determinant) A5j (by exact hr.mono (by lia)) (A0 (T9 (by exact D_less_grid) A5j (by exact hr.mono (by lia)) (A0 (B2 0) A6)) A6)))
   (A4 (dnS (G9 (B8 (J7 (by rfl) (by exact hr.units)) (B2 1) A1 (B6 _)) (A7 (C6 A1)) D0))
   (A7 (dnS (C6 (A55 (B8 A53 (B2 1) A1 (B6 _)) A1 (T8 A1))))))),λds Qd Xd h=>?_⟩
 obtain ⟨g,n,rfl,shg,hn,bg,q⟩:=h;show (_:N5) _ [some (false,gD g),none] _;cbv;refine ⟨g,n,rfl,shg,hn,?_⟩;cbv;refine C4o (N4 _ _ _) hn (C2o λi j hi hj=>?_) ?_
 ·obtain ⟨_,_,_,a3,a4⟩:=shg.cell hi hj;have h1:Bd 200 (MDet.idm i j):=by unfold MDet.idm;split<;>exact Bd.iff.mpr (by decide)
  exact (Bd.sub h1 (bg _ a3 _ a4)).mono (by decide)
 have e:MDet.det n (N0 (N1 n n λi j=>MDet.idm i j - N0 g i j))=MDet.det n λi j=>MDet.idm i j - N0 g i j:=MDet.det_congr λi j hi hj=>Q7 hi hj;rw[e];generalize (MDet.det n λi j=>MDet.idm i j - N0 g i j)=x at *;cbv;refine V8 (λh=>?_) λh=>?_
 ·cbv;have:x=0:=by simpa using h
  subst this;exact q
 ·cbv;have hx:¬ x=0:=by simpa using h
  refine V8 (λh=>?_) λh=>?_
  ·cbv;have:0 < x:=by simpa using h
   have e:sgn x=1:=by unfold sgn;rw[qr this]
   rw[e] at q;exact q
  ·cbv;have h':¬ 0 < x:=by simpa using h
   have e:sgn x=-1:=by unfold sgn;rw[qs h',qr (by lia)]
   rw[e] at q;exact q
open M06 (Bt Sm)
open M72 (crn B53)
def A75 (g:List (List Int)):MDet.Mat:=λi j=>MDet.idm i j - N0 g i j
theorem B59 {f:Nat->Int}:PyData.list ((List.range n).map λi=>PyData.int (f i))=iD ((List.range n).map f):=by unfold iD;rw[map_map];rfl
abbrev A0t:Stmt:=top 33
theorem A35:C2 ["table","corners"] ["table"] (B1 A0t):=by walk_at "sc"
structure Tbl (n:Nat) (g:List (List Int)):Prop where
 sh:Sh n n g
 n1:1<=n/\n<=5
 bt:∀ i j,i < n->j < n->Bt 125 (N0 g i j)
def Cor (n:Nat) (g:List (List Int)) (C:MDet.Mat):Prop:=∃ L R,Sm n n (A75 g) L C R
def B4c:SpD:=λds Q _=>∃ (g:List (List Int)) (n:Nat),ds=[gD g]/\Tbl n g/\∀ C,Cor n g C->Q (iD (crn n C)) true
theorem A8s (F:W5 K "corners_of" "corners_of" A0t f fd) (T:Blt mg) (D_corner_form:Df P w K mg base "corner_form" ["grid"] 45 (G3 K A8d)) (D_less_grid:DfE P w K mg base "less_grid" ["table"] 3 (G3 K A6f)):J5 P w K mg base CX0 46 f fd ["table"] (G3 K B4c):=by
 refine ok0 F A35 (λds Q X h=>?_) (λcdv A outer s H E hr=>?_) λds Qd Xd h=>h
 ·obtain ⟨g,n,rfl,_⟩:=h;rfl
 refine ⟨_,(A4 (G5 1 A35.nd (E2 (dix (by rfl)) (M8 (by exact D_corner_form) (by exact hr.mono (by lia)) (A0 (T9 (by exact D_less_grid) C3i (by exact hr.mono (by lia)) (A0 (B2 0) A6)) A6)) A1 (λ_ _=>rfl)))
   (A7 (C6 (L4 ["at","row"] [] rfl (C7.of (by kernel_rfl)) (A48 (by rfl) (by rfl) (by exact T.enumerate) (A0 (B2 1) A6) (by rfl)) (λ_ _ _ _=>⟨(U0 2 (by rfl) (by rfl) (D6 (K5 0 (I0 (by kernel_rfl))) (D6 (K5 1 (I0 (by kernel_rfl))) P9)) (by rfl) (by rfl)),E3,(D5 (by rfl) (by rfl) (E2 (dix (by rfl)) (B2 1) (B2 0) (λ_ _=>rfl)))⟩))))),λds Qd h=>?_⟩
 obtain ⟨g,n,rfl,⟨sh,⟨n1,n6⟩,le⟩,q⟩:=h;show (_:N5) _ [some (false,gD g),none] _;cbv;refine ⟨g,n,rfl,sh,by lia,?_⟩;cbv;have hl1:∀ i j,i < n->j < n->Bt 126 (A75 g i j):=λi j hi hj=>by
  have h1:Bt 1 (MDet.idm i j):=by unfold MDet.idm;split<;>(show _ < 2 ^ 1;decide)
  have:=(h1.add (le i j hi hj).neg (d:=126) (by decide) (by decide))
  rwa [<-Int.sub_eq_add_neg] at this
 have hgm:∀ i j,i < n->j < n->gm (N1 n n λi j=>MDet.idm i j - N0 g i j) i j=A75 g i j:=λi j hi hj=>by rw[<-B3z,Q7 hi hj];rfl
 refine ⟨n,n,_,rfl,⟨N4 n n _,⟨n1,by lia⟩,⟨n1,by lia⟩,λi j hi hj=>by rw[hgm i j hi hj];exact hl1 i j hi hj,by lia⟩,λL C R Z=>?_⟩;have sm:Sm n n (A75 g) (gm L) (gm C) (λi j=>gm R j i):=⟨⟨λi j hi hj=>by
  rw[Z.sm6.rel.eq i j hi hj];exact MDet.S_congr λa ha=>by rw[MDet.S_congr λb hb=>by rw[hgm a b ha hb]]⟩,Z.sm6.gl,Z.sm6.gr,Z.sm6.off,Z.sm6.nn,Z.sm6.ch⟩
 cbv;refine ⟨gD C,B9 (j:=1) rfl,?_⟩;cbv;rw[A6g,qk,Z.sC.1];refine K4 (L:=List.range n) (λi=>.tuple [.int ((0+i:Nat):Int),(C.map iD).getD i (.int 0)]) (λi=>.int (gm C i i)) (λi hi es Q' hl q'=>?_) (by rw[length_range];lia) ?_
 ·have hi:=mem_range.mp hi;obtain ⟨r,v1,v2,v3,v4⟩:=Z.sC.cell hi hi;rw[Nat.zero_add,show (C.map iD).getD i (.int 0)=iD r from by rw[getD_eq_getElem?_getD,qp,v1];rfl];cbv;refine ⟨.int (N0 C i i),B9 (by rw[qp,v2];rfl),?_⟩;cbv;exact q'
 rw[B59];exact q (gm C) ⟨_,_,sm⟩
abbrev A3m:Stmt:=top 34
theorem A5q:C2 ["table","corners"] ["table"] (B1 A3m):=by walk_at "sc"
def B4b:SpD:=λds Q _=>∃ (g:List (List Int)) (n:Nat),ds=[gD g]/\Tbl n g/\∀ C,Cor n g C->Q (.tuple [iD (B53 n C),.int (((crn n C).filter λx=>x==0).length:Nat)]) true
theorem B29 (F:W5 K "group_of" "group_of" A3m f fd) (T:Blt mg) (D_corners_of:Df P w K mg base "corners_of" ["table"] 46 (G3 K B4c)):J5 P w K mg base CX0 47 f fd ["table"] (G3 K B4b):=by
 refine ok0 F A5q (λds Q X h=>?_) (λcdv A outer s H E hr=>?_) λds Qd Xd h=>h
 ·obtain ⟨g,n,rfl,_⟩:=h;rfl
 refine ⟨_,(A4 (G5 1 A5q.nd (M8 (by exact D_corners_of) (by exact hr.mono (by lia)) (A0 (B2 0) A6)))
   (A7 (C6 (T4 (A0 (L4 ["corner"] [] rfl (C7.of (by kernel_rfl)) (O9 (by rfl) (B2 1)) (λ_ _ _ _=>⟨(K5 0 (I0 (by kernel_rfl))),(A3z (B8 A53 (B2 0) A1 (B6 _))),(D5 (by rfl) (by rfl) (B2 0))⟩)) (A0 (B8e (by rfl) (by exact hr.units) (B2 1) A1) A6)))))),λds Qd h=>?_⟩
 obtain ⟨g,n,rfl,T',q⟩:=h;show (_:N5) _ [some (false,gD g),none] _;cbv;refine ⟨g,n,rfl,T',λC hC=>?_⟩;cbv;refine A65 (L:=crn n C) PyData.int PyData.int (λx=>decide (1 < x)) (λx hx es Q' hl q'=>?_) (by unfold crn;rw[qk,length_range];have:=T'.n1;lia) ?_
 ·cbv;by_cases h1:1 < x
  ·rw[qr (by simpa using h1)] at q' ⊢;cbv;exact q'
  ·rw[qs (by simpa using h1)] at q' ⊢;exact q'
 rw[show PyData.list (((crn n C).filter λx=>decide (1 < x)).map PyData.int)=iD (B53 n C) from rfl];cbv;refine D68 ?_;cbv;refine ⟨⟨rfl,by decide,A40 _⟩,?_⟩;rw[List.countP_map,List.countP_eq_length_filter,show ((λy=>PyData.eqv y (PyData.int 0)) ∘ PyData.int)=λx:Int=>x==0 from rfl];cbv;rw[A2m rfl];exact q C hC
open M06 (Bt Sm)
abbrev B25:Stmt:=top 10
theorem C3x:C2 ["one","other"] ["one","other"] (B1 B25):=by walk_at "sc"
def B4g:SpD:=λds Q _=>∃ (g h:List (List Int)) (n:Nat),ds=[gD g,gD h]/\Sh n n g/\Sh n n h/\n<=8/\Q (gD (N1 n n λi j=>N0 g i j+N0 h i j)) true
theorem C2c (F:W5 K "added" "added" B25 f fd) (T:Blt mg) (D_require_one_shape:DfE P w K mg base "require_one_shape" ["one","other"] 1 (G3 K A4i)):J5 P w K mg base (CXE P w base) 2 f fd ["one","other"] (G3 K B4g):=by
 refine okE F C3x (λds Q X h=>?_) (λcdv A outer s H E hr=>?_)
 ·obtain ⟨g,h,n,rfl,_⟩:=h;rfl
 refine ⟨_,(A4 (A4h (T9 (by exact D_require_one_shape) A5j (by exact hr.mono (by lia)) (A0 (B2 0) (A0 (B2 1) A6))))
   (A7 (dnS (C6 (L4 ["row","beside"] [] rfl (C7.of (by kernel_rfl)) (A10 (by rfl) (by rfl) (by exact T.zip) (A0 (B2 0) (A0 (B2 1) A6))) (λ_ _ _ _=>⟨(U0 2 (by rfl) (by rfl) (D6 (K5 0 (I0 (by kernel_rfl))) (D6 (K5 1 (I0 (by kernel_rfl))) P9)) (by rfl) (by rfl)),E3,(D5 (by rfl) (by rfl) (L4 ["x","y"] [] rfl (C7.of (by kernel_rfl)) (A10 (by rfl) (by rfl) (by exact T.zip) (A0 (B2 0) (A0 (B2 1) A6))) (λ_ _ _ _=>⟨(U0 2 (by rfl) (by rfl) (D6 (K5 0 (I0 (by kernel_rfl))) (D6 (K5 1 (I0 (by kernel_rfl))) P9)) (by rfl) (by rfl)),E3,(D5 (by rfl) (by rfl) (A9 M3 (B2 0) (B2 1)))⟩)))⟩)))))),λds Qd Xd h=>?_⟩
 obtain ⟨g,h,n,rfl,shg,shh,hn,q⟩:=h;show (_:N5) _ [some (false,gD g),some (false,gD h)] _;have hgl:=shg.1;have hhl:=shh.1;cbv;refine ⟨g,h,n,rfl,shg,shh,hn,?_⟩;cbv;refine B7v ?_;rw[B5h];refine K4 (L:=g.zip h) (λp=>.tuple [iD p.1,iD p.2]) (λp=>iD ((p.1.zip p.2).map λz=>z.1+z.2)) (λp hp es Q' hl q'=>?_) (by simp;lia) ?_
 ·obtain ⟨r,s⟩:=p;have hr:=shg.2 r (of_mem_zip hp).1;cbv;rw[A0i];refine K4 (L:=r.zip s) (λp=>.tuple [.int p.1,.int p.2]) (λp=>.int (p.1+p.2)) (λp hp es Q' hl q'=>?_) (by simp;lia) ?_
  ·obtain ⟨x,y⟩:=p;cbv;exact q'
  ·have e:PyData.list ((r.zip s).map λp=>PyData.int (p.1+p.2))=iD ((r.zip s).map λz=>z.1+z.2):=by unfold iD;rw[map_map];rfl
   rw[e];cbv;exact q'
 ·have e:PyData.list ((g.zip h).map λp=>iD ((p.1.zip p.2).map λz=>z.1+z.2))=gD (N1 n n λi j=>N0 g i j+N0 h i j):=by
   rw[<-B5r (R:=(g.zip h).map λp=>(p.1.zip p.2).map λz=>z.1+z.2) ⟨by simp[hgl,hhl],λr hr=>by
    obtain ⟨⟨a,b⟩,hp,rfl⟩:=zg.mp hr;have:=shg.2 a (of_mem_zip hp).1;have:=shh.2 b (of_mem_zip hp).2;simp;lia⟩ λi j hi hj=>by
    obtain ⟨a,a1,a2,_⟩:=shg.cell hi hj;obtain ⟨b,b1,b2,_⟩:=shh.cell hi hj;refine A2q (r:=(a.zip b).map λz=>z.1+z.2) ?_ ?_
    ·rw[qp,List.getElem?_zip_eq_some (z:=(a,b)) |>.mpr ⟨a1,b1⟩];rfl
    ·rw[qp,List.getElem?_zip_eq_some (z:=(N0 g i j,N0 h i j)) |>.mpr ⟨a2,b2⟩];rfl]
   unfold gD;rw[map_map];rfl
  rw[e];cbv;exact q
structure A0n (os:List Int) (p:Nat) (s:Int):Prop where
 len:os.length=p
 one:1<=gv os 0
 nn:∀ x∈os,0<=x
 ch:∀ i,i+1 < p->gv os (i+1)=0\/(gv os i≠0/\gv os i ∣ gv os (i+1))
 sg:s=1\/s=-1\/s=0
 sz:s=0 ↔ gv os (p - 1)=0
theorem I8 (h:j < r.length):r[j]?=some (gv r j):=by unfold gv;rw[getD_eq_getElem?_getD,zd h];rfl
theorem C14 {v:List Int} (h:0 < v.length) (e:v.length=p):atI (v.map PyData.int) (-1)=some (.int (gv v (p - 1))):=by
 subst e;unfold atI ixN;rw[qs (by decide),qk,qr (by lia)];show (v.map PyData.int)[(-1+(v.length:Int)).toNat]?=_;rw[show (-1+(v.length:Int)).toNat=v.length - 1 by lia,qp,I8 (by lia)];rfl
abbrev V4:Stmt:=top 16
theorem T6:C2 ["places","orders","sign","one","other"] ["places","orders","sign"] (B1 V4):=by walk_at "sc"
def C3q (cT:Addr):SpD:=λds Q X=>∃ (p:Nat) (os:List Int) (s:Int),ds=[.int p,iD os,.int s]/\2<=p/\os.length<=100/\(A0n os p s->Q .none true)/\(¬ A0n os p s->X cT)
theorem A4j (F:W5 K "require_orders" "require_orders" V4 f fd) (T:Blt mg) (C_NoTable:ExC K mg "NoTable" cT):J5 P w K mg base (CXE P w base) 1 f fd ["places","orders","sign"] (G3 K (C3q cT)):=by
 refine okE F T6 (λds Q X h=>?_) (λcdv A outer s H E hr=>?_)
 ·obtain ⟨p,os,s,rfl,_⟩:=h;rfl
 refine ⟨_,(A4 (G9 (dnT (B8 (P6 (by rfl) (by exact hr.units)) (E8 (Q8 (by rfl)) (by rfl) (by exact T.len) (by decide +kernel) (A0 (B2 1) A6)) (B2 0) (B6 _))) (A7 (X0 U9 (by rfl) (by exact C_NoTable) (by rfl) (A0 A2g A6))) D0)
   (A4 (G9 (dnT (A17 (X6 (B8 A58 (E2 (dix (by rfl)) (B2 1) A1 (λ_ _=>rfl)) A1 (B6 _)) (A01 (A6i (E8 (B71 (by rfl) (by rfl)) (by rfl) (by exact T.any) (by decide +kernel) (A0 (L4 ["order"] [] rfl (C7.of (by kernel_rfl)) (O9 (by rfl) (B2 1)) (λ_ _ _ _=>⟨(K5 0 (I0 (by kernel_rfl))),E3,(D5 (by rfl) (by rfl) (U1 A58 (B2 0) A1 (B6 _)))⟩)) A6))))))) (A7 (X0 U9 (by rfl) (by exact C_NoTable) (by rfl) (A0 A2g A6))) D0)
   (A4 (B1y 1 (B1y 1 (V7 PassesOwn.leaving rfl (A10 (by rfl) (by rfl) (by exact T.zip) (A0 (B2 1) (A0 (A2j (by rfl) (B2 1) (A43 A1) A44) A6))) (U0 2 (by rfl) (by rfl) (D6 (K5 3 T6.nd) (D6 (K5 4 T6.nd) P9)) (by rfl) (by rfl)) (A7 (G9 (dnT (A17 (A6b (B8 (P6 (by rfl) (by exact hr.units)) (B2 4) A1 (B6 _)) (A42 (A17 (X6 (B8 (J7 (by rfl) (by exact hr.units)) (B2 3) A1 (B6 _)) (A01 (B8 (P6 (by rfl) (by exact hr.units)) (A9 J4 (B2 4) (B2 3)) A1 (B6 _))))))))) (A7 (X0 U9 (by rfl) (by exact C_NoTable) (by rfl) (A0 A2g A6))) D0)))))
   (A7 (G9 (dnT (A17 (X6 (B8 (A9x (by rfl)) (B2 2) (T4 (A0 A1 (A0 (T8 A1) (A0 A1 A6)))) rfl) (A01 (B8 (P6 (by rfl) (by exact hr.units)) (U1 (J7 (by rfl) (by exact hr.units)) (B2 2) A1 (B6 _)) (U1 (J7 (by rfl) (by exact hr.units)) (E2 (dix (by rfl)) (B2 1) (T8 A1) (λ_ _=>rfl)) A1 (B6 _)) (B6 _)))))) (A7 (X0 U9 (by rfl) (by exact C_NoTable) (by rfl) (A0 A2g A6))) D0))))),λds Qd Xd h=>?_⟩
 obtain ⟨p,os,sn,rfl,hp,hl,q,x⟩:=h;show (_:N5) _ [some (false,.int p),some (false,iD os),some (false,.int sn),none,none] _;cbv;refine A2z (λh1=>?_) λh1=>?_
 ·cbv;exact x λg=>by have:=g.len;simp at h1;lia
 have h1:os.length=p:=by simp at h1;lia
 cbv;sleep 11;cbv;refine V8 (λh2=>?_) λh2=>?_
 ·have h2:gv os 0 < 1:=by simpa using h2
  rw[qr trivial];cbv;exact x λg=>by have:=g.one;lia
 have h2:¬ gv os 0 < 1:=by simpa using h2
 cbv;refine K4 (L:=os) PyData.int (λy=>.bool (decide (y < 0))) (λy hy es Q' hl' q'=>?_) (by lia) ?_
 ·cbv;exact q'
 cbv;refine ⟨_,A27 _ _,?_⟩;cbv;refine V8 (λh3=>?_) λh3=>?_
 ·cbv;obtain ⟨y,m1,m2⟩:∃ y∈os,y < 0:=by
   rw[List.any_map] at h3;obtain ⟨y,m1,m2⟩:=List.any_eq_true.mp h3;exact ⟨y,m1,by simpa using m2⟩
  exact x λg=>by have:=g.nn y m1;lia
 have h3:∀ y∈os,0<=y:=λy hy=>by
  rcases Int.lt_or_le y 0 with z|z
  ·refine absurd ?_ h3;rw[List.any_map];exact List.any_eq_true.mpr ⟨y,hy,by simpa using z⟩
  ·exact z
 cbv;rw[A4k (j:=1) (z:=1) rfl,<-map_drop];refine (⟨?_,?_⟩:_/\_)
 ·rw[A99,A2m rfl,nil_append,B02 rfl];rfl
 rw[A0i];have hz:∀ {i:Nat} {d:D},((os.zip (os.drop 1)).map λp=>PyData.tuple [.int p.1,.int p.2])[i]?=some d->i+1 < p/\d=.tuple [.int (gv os i),.int (gv os (i+1))]:=λ{i d} hd=>by
  rw[qp] at hd;by_cases hi:i+1 < p
  ·rw[List.getElem?_zip_eq_some (z:=(gv os i,gv os (i+1))) |>.mpr ⟨I8 (by lia),by rw[List.getElem?_drop,Nat.add_comm 1 i];exact I8 (by lia)⟩] at hd;exact ⟨hi,(zu hd).symm⟩
  ·rw[List.getElem?_eq_none (by rw[List.length_zip,length_drop];lia)] at hd;cases hd
 refine B7q (λi O=>∃ (x3 x4:Option (Bool × D)),O=[some (false,.int p),some (false,iD os),some (false,.int sn),x3,x4]/\∀ k,k < i->k+1 < p->gv os (k+1)=0\/(gv os k≠0/\gv os k ∣ gv os (k+1))) ⟨_,_,rfl,λk hk=>absurd hk (Nat.not_lt_zero k)⟩ ?_ ?_
 ·rintro i d O hd ⟨x3,x4,rfl,hk⟩;obtain ⟨hi,rfl⟩:=hz hd;cbv;refine A2z (λh4=>?_) λh4=>?_
  ·have h4:gv os (i+1)≠0:=by simpa using h4
   cbv;refine V8 (λh5=>?_) λh5=>?_
   ·have h5:gv os i=0:=by simpa using h5
    rw[qr trivial];cbv;exact x λg=>by exact (g.ch i hi).elim h4 λz=>z.1 h5
   ·have h5:gv os i≠0:=by simpa using h5
    cbv;refine (⟨?_,?_⟩:_/\_)
    ·have:=h3 (gv os i) (zx (I8 (by lia)));lia
    cbv;refine A2z (λh6=>?_) λh6=>?_
    ·have h6:gv os (i+1) % gv os i≠0:=by simpa using h6
     cbv;exact x λg=>by exact (g.ch i hi).elim h4 λz=>h6 (Int.emod_eq_zero_of_dvd z.2)
    ·have h6:gv os (i+1) % gv os i=0:=by simpa using h6
     cbv;refine ⟨_,_,rfl,λk h7 h8=>?_⟩;by_cases h9:k=i
     ·subst h9;exact .inr ⟨h5,Int.dvd_of_emod_eq_zero h6⟩
     ·exact hk k (by lia) h8
  ·have h4:gv os (i+1)=0:=by simpa using h4
   cbv;refine ⟨_,_,rfl,λk h7 h8=>?_⟩;by_cases h9:k=i
   ·subst h9;exact .inl h4
   ·exact hk k (by lia) h8
 ·rintro O ⟨x3,x4,rfl,hk⟩;have hk:∀ k,k+1 < p->gv os (k+1)=0\/(gv os k≠0/\gv os k ∣ gv os (k+1)):=λk hk1=>hk k (by rw[qk,List.length_zip,length_drop];lia) hk1;cbv;refine And.intro ⟨rfl,rfl⟩ ?_;cbv;refine V8 (λh4=>?_) λh4=>?_
  ·rw[qr trivial];cbv;exact x λg=>by
    rcases g.sg with rfl|rfl|rfl<;>exact absurd h4 (by decide)
  ·have h4:sn=1\/sn=-1\/sn=0:=by
    have:inD (.int sn) [.int 1,.int (-1),.int 0]=true:=by simpa using h4
    unfold inD at this;obtain ⟨d,hd,he⟩:=List.any_eq_true.mp this;simp only[zn,List.not_mem_nil,or_false] at hd;have h5:∀ z:Int,PyData.eqv (.int z) (.int sn)=true->z=sn:=λz he=>by
     have he:(z==sn)=true:=he;simpa using he
    rcases hd with rfl|rfl|rfl<;>have:=h5 _ he<;>lia
   cbv;refine ⟨.int (gv os (p - 1)),C14 (by lia) h1,?_⟩;cbv;refine And.intro ⟨rfl,rfl,jb 32⟩ ?_;cbv;refine A2z (λh5=>?_) λh5=>?_
   ·cbv;refine x λg=>?_;have e:(sn==0)=(gv os (p - 1)==0):=by rw[zz];simpa using g.sz
    rw[show id (sn==0)=id (gv os (p - 1)==0) from e] at h5;cases h6:(gv os (p - 1)==0)<;>rw[h6] at h5<;>exact absurd h5 (by decide)
   ·cbv;refine q ⟨h1,by lia,h3,hk,h4,?_⟩;have e:(sn==0)=(gv os (p - 1)==0):=by
     cases h6:(sn==0)<;>cases h7:(gv os (p - 1)==0)<;>first|rfl|(rw[h6,h7] at h5;exact absurd h5 (by decide))
    rw[zz] at e;simpa using e
open M06 (Bt Sm)
def pl (os:List Int) (t:Nat):MDet.Mat:=λi j=>gv os 0+if i=j/\0 < i/\i < 1+t then gv os i else 0
theorem D0z {α:Type} {i:Nat} {F:Nat->α} {z:α}:((List.range n).map F).set i z=(List.range n).map λa=>if a=i then z else F a:=by
 refine List.ext_getElem (by simp) λk h1 h2=>?_;rw[List.getElem_set,List.getElem_map,List.getElem_map,List.getElem_range];by_cases h:i=k
 ·rw[qr h,qr h.symm]
 ·rw[qs h,qs (λe=>h e.symm)]
theorem B4h {i:Nat} {f:MDet.Mat} {r:Nat->Int}:((N1 n m f).map iD).set i (iD ((List.range m).map r))=(N1 n m λa b=>if a=i then r b else f a b).map iD:=by
 rw[<-map_set];unfold N1;rw[D0z];congr 1;refine map_congr_left λa _=>?_;by_cases h:a=i
 ·simp only[qr h]
 ·simp only[qs h]
theorem D0t {i:Nat} {f:MDet.Mat} {x:Int}:((N1 n m f).map iD).set i (.list ((((List.range m).map λb=>f i b).map PyData.int).set j (.int x)))=(N1 n m λa b=>if a=i/\b=j then x else f a b).map iD:=by
 rw[<-map_set,D0z];refine B4h.trans ?_;congr 1;unfold N1;refine map_congr_left λa _=>map_congr_left λb _=>?_;by_cases h:a=i
 ·subst h;by_cases h':b=j
  ·simp only[qr h',h',and_self,ite_true]
  ·simp only[qs h',h',and_false,ite_true,ite_false]
 ·simp only[h,false_and,ite_false]
theorem B2c {x:Int} :(List.replicate k ([x].map PyData.int)).flatten=((List.range k).map λ_=>x).map PyData.int:=by
 rw[map_map];show (List.replicate k [PyData.int x]).flatten=(List.range k).map λ_=>PyData.int x;rw[List.flatten_replicate_singleton,List.map_const',length_range]
theorem C2p {a b:Int} (h:0 < k):((List.range (k - 1)).map λ_=>a)++[b]=(List.range k).map λj=>if j+1=k then b else a:=by
 obtain ⟨k,rfl⟩:∃ j,k=j+1:=⟨k - 1,by lia⟩;rw[List.range_succ,map_append];show _=_++[if k+1=k+1 then b else a];rw[qr rfl,Nat.add_sub_cancel];congr 1;exact map_congr_left λj hj=>by rw[qs (by have:=mem_range.mp hj;lia)]
theorem V1 {f g:MDet.Mat} (h:∀ i j,i < n->j < m->f i j=g i j):N1 n m f=N1 n m g:=B5r (N4 n m f) λi j hi hj=>by rw[Q7 hi hj,h i j hi hj]
theorem C5i (h:n=k) (hk:0 < k):ixN n (-1)=some (k - 1):=by
 subst h;unfold ixN;rw[qs (by decide),qr (by lia)];congr 1;lia
theorem B4u {i:Nat} (hi:i < p) (hj:j < p):pl os (p - 1) i j=M72.tur p (gv os) false i j:=by
 unfold pl M72.tur;rw[qs (c:=_/\i+1=p) (λe=>qw e.1)];by_cases h:i=j/\0 < i
 ·rw[qr h,qr ⟨h.1,h.2,by lia⟩]
 ·rw[qs h,qs λe=>h ⟨e.1,e.2.1⟩]
theorem B7m {i:Nat} (hi:i < p) (hj:j < p):(if i=p - 1 then (if j+1=p then gv os 0 else gv os 0+gv os (p - 1)) else pl os (p - 1) i j)=M72.tur p (gv os) true i j:=by
 by_cases h:i=p - 1
 ·unfold M72.tur;rw[qr h,qr (c:=_/\i+1=p) ⟨rfl,by lia⟩]
 ·rw[qs h,B4u hi hj];unfold M72.tur;rw[qs (c:=_/\i+1=p) (λe=>qw e.1),qs (c:=_/\i+1=p) (λe=>by lia)]
theorem C5j {i:Nat}:(if i=t+1/\j=t+1 then pl os t (t+1) (t+1)+gv os (t+1) else pl os t i j)=pl os (t+1) i j:=by
 unfold pl;by_cases h:i=t+1/\j=t+1
 ·obtain ⟨rfl,rfl⟩:=h;rw[qr ⟨rfl,rfl⟩,qs (by lia),qr (by lia)];lia
 ·rw[qs h];by_cases h':i=j/\0 < i/\i < 1+t
  ·rw[qr h',qr (by lia)]
  ·rw[qs h',qs (by lia)]
theorem D7u {c:Bool} {O:G2} {Q:QD} (h:∀ z:Int,(z=if c=true then -1 else 1)->Q (.int z) .old):if c=true then D2w (dC (.int 1)) O Q Xd else dC (.int 1) O Q Xd:=by
 cases c
 ·exact h 1 rfl
 ·exact h (-1) rfl
abbrev A0c:Stmt:=top 15
theorem Q5:C2 ["places","orders","sign","first","last","turned","at"] ["places","orders","sign"] (B1 A0c):=by walk_at "sc"
def way (p:Nat) (s:Int):Bool:=decide (s=if p % 2=0 then -1 else 1)
def A08 (p:Nat) (os:List Int) (v:Bool):List (List Int):=N1 p p λi j=>M72.tur p (gv os) v i j+MDet.idm i j
def C10 (cT:Addr):SpD:=λds Q X=>∃ (p:Nat) (os:List Int) (s:Int),ds=[.int p,iD os,.int s]/\2<=p/\p<=5/\os.length<=100/\(A0n os p s->Q (gD (A08 p os (way p s))) true)/\(¬ A0n os p s->X cT)
theorem A8i (F:W5 K "plain_table" "plain_table" A0c f fd) (T:Blt mg) (D_require_orders:DfE P w K mg base "require_orders" ["places","orders","sign"] 1 (G3 K (C3q cT))) (D_plain_grid:Df P w K mg base "plain_grid" ["n"] 1 (G3 K Y2)) (D_added:DfE P w K mg base "added" ["one","other"] 2 (G3 K B4g)):J5 P w K mg base (CXE P w base) 3 f fd ["places","orders","sign"] (G3 K (C10 cT)):=by
 refine okE F Q5 (λds Q X h=>?_) (λcdv A outer s H E hr=>?_)
 ·obtain ⟨p,os,s,rfl,_⟩:=h;rfl
 refine ⟨_,(A4 (A4h (T9 (by exact D_require_orders) A5j (by exact hr.mono (by lia)) (A0 (B2 0) (A0 (B2 1) (A0 (B2 2) A6)))))
   (A4 (dnS (A6p [3,4] 2 rfl (by rfl) (by rfl) (D8 (U8 3 Q5.nd) (D8 (U8 4 Q5.nd) T1)) (by rfl) (by rfl) (T4 (A0 (E2 (dix (by rfl)) (B2 1) A1 (λ_ _=>rfl)) (A0 (E2 (dix (by rfl)) (B2 1) (T8 A1) (λ_ _=>rfl)) A6)))))
   (A4 (dnS (A29 (i:=5) (hN:=Q5.nd) (hyi:=rfl) (hy:=rfl) (hc:=rfl) (own:=["row"]) (cap:=[("first",3),("places",0)]) (L:=C7.of (by kernel_rfl)) (hi:=(K0 (by rfl) (by exact T.range) (A0 (B2 0) A6))) (hin:=(λ_ _ _ _=>⟨(K5 0 (I0 (by kernel_rfl))),E3,(D5 (by rfl) (by rfl) (A9 B63 (Z7 (A0 (B2 1) A6)) (B2 2)))⟩))))
   (A4 (dnS (V7 PassesOwn.never rfl (A74 (by rfl) (by exact T.range) (A0 A1 (A0 (B2 0) A6))) (K5 6 Q5.nd) (A7 (C1h 5 (by rfl) (D1 5) (B2 6) (B2 6) (E2 (dix (by rfl)) (B2 1) (B2 6) (λ_ _=>rfl)) C0o (λ_ _=>rfl)))))
   (A4 (dnS (G9 (B8 (J7 (by rfl) (by exact hr.units)) (B2 2) (A55 (B8 (J7 (by rfl) (by exact hr.units)) (A9 J4 (B2 0) A1) A1 (B6 _)) (T8 A1) A1) (B6 _)) (A7 (A20 5 (D1 5) (T8 A1) (A9 M3 (A9 B63 (Z7 (A0 (A9 M3 (B2 3) (B2 4)) A6)) (A9 J2 (B2 0) A1)) (Z7 (A0 (B2 3) A6))))) D0))
   (A7 (C6 (T9 (by exact D_added) A5j (by exact hr.mono (by lia)) (A0 (B2 5) (A0 (M8 (by exact D_plain_grid) (by exact hr.mono (by lia)) (A0 (B2 0) A6)) A6)))))))))),λds Qd Xd h=>?_⟩
 obtain ⟨p,os,sn,rfl,hp,hp5,hl,q,x⟩:=h;show (_:N5) _ [some (false,.int p),some (false,iD os),some (false,.int sn),none,none,none,none] _;cbv;refine ⟨p,os,sn,rfl,hp,hl,λg=>?_,x⟩;have q:=q g;have h1:=g.len;cbv;sleep 11;cbv;refine ⟨.int (gv os (p - 1)),C14 (by lia) h1,?_⟩;cbv;refine K4 (L:=List.range ((p:Int)).toNat) (λx:Nat=>.int (0+(x:Int))) (λi=>iD ((List.range p).map λj=>gv os 0)) (λi hi es Q' hl q'=>?_) (by rw[length_range];lia) ?_
 ·cbv;refine C8z ⟨rfl,⟨by lia,?_,by lia⟩,?_⟩
  ·show 1*_<=_;lia
  rw[B2c];cbv;exact q'
 cbv;refine A1k (λt O=>∃ x6:Option (Bool × D),O=[some (false,.int p),some (false,iD os),some (false,.int sn),some (false,.int (gv os 0)),some (false,.int (gv os (p - 1))),some (true,gD (N1 p p (pl os t))),x6]) ⟨none,?_⟩ ?_ ?_
 ·have e:PyData.list (List.map (λi=>iD (List.map (λj=>gv os 0) (List.range p))) (List.range ((p:Int)).toNat))=gD (N1 p p (pl os 0)):=by
   rw[V1 (g:=λi j=>gv os 0) λi j hi hj=>by unfold pl;rw[qs (by lia)];lia];unfold gD N1;rw[map_map];rfl
  rw[e]
 ·rintro t O ht ⟨x6,rfl⟩;have ht:t+1 < p:=by lia
  sleep 19;cbv;have e1:(1+(t:Int))=((t+1:Nat):Int):=by lia
  refine ⟨_,t+1,(((List.range p).map λb=>pl os t (t+1) b).map PyData.int),rfl,?_,?_,?_⟩
  ·rw[e1];exact J6 (by simp[N1];lia)
  ·rw[qp];unfold N1;rw[K7 _ ht];rfl
  cbv;refine ⟨t+1,pl os t (t+1) (t+1),by rw[e1],?_,?_⟩
  ·rw[qp,K7 _ ht];rfl
  cbv;refine ⟨.int (gv os (t+1)),by rw[e1];exact B9 (by rw[qp,I8 (by lia)];rfl),?_⟩;refine ⟨_,rfl,some (false,.int (1+(t:Int))),?_⟩;rw[D0t];have e2:(N1 p p λa b=>if a=t+1/\b=t+1 then pl os t (t+1) (t+1)+gv os (t+1) else pl os t a b)=N1 p p (pl os (t+1)):=V1 λi j hi hj=>C5j;rw[e2];rfl
 ·rintro O ⟨x6,rfl⟩;have e0:((p:Int) - 1).toNat=p - 1:=by lia
  rw[e0];cbv;refine D7u (λz hz=>?_);have hz:z=if p % 2=0 then -1 else 1:=by rw[hz];by_cases h:p % 2=0<;>simp[h]<;>lia
  cbv;refine A2z (λe2=>?_) λe2=>?_
  ·have e2:sn=z:=by simpa using e2
   have e3:way p sn=true:=decide_eq_true (e2.trans hz);cbv;refine C8z ⟨rfl,⟨by lia,?_,by lia⟩,?_⟩
   ·show 1*_<=_;lia
   rw[B2c];cbv;refine ⟨by simp;lia,_,rfl,?_⟩;cbv;refine ⟨p - 1,C5i (by simp[N1]) (by lia),?_⟩;rw[show [PyData.int (gv os 0)]=[gv os 0].map PyData.int from rfl,A8f,show ((p:Int) - 1).toNat=p - 1 by lia,C2p (by lia),B4h];cbv;refine ⟨p,rfl,by lia,?_⟩;cbv;refine ⟨_,_,p,rfl,N4 _ _ _,N4 _ _ _,by lia,?_⟩;have e4:N1 p p (λi j=>N0 (N1 p p λa b=>if a=p - 1 then (if b+1=p then gv os 0 else gv os 0+gv os (p - 1)) else pl os (p - 1) a b) i j+N0 (N1 p p MDet.idm) i j)=A08 p os (way p sn):=V1 λi j hi hj=>by
    rw[Q7 hi hj,Q7 hi hj,e3,B7m hi hj]
   rw[e4];exact q
  ·have e2:¬ sn=z:=by simpa using e2
   have e3:way p sn=false:=decide_eq_false λy=>e2 (y.trans hz.symm);cbv;refine ⟨p,rfl,by lia,?_⟩;cbv;refine ⟨_,_,p,rfl,N4 _ _ _,N4 _ _ _,by lia,?_⟩;have e4:N1 p p (λi j=>N0 (N1 p p (pl os (p - 1))) i j+N0 (N1 p p MDet.idm) i j)=A08 p os (way p sn):=V1 λi j hi hj=>by
    rw[Q7 hi hj,Q7 hi hj,e3,B4u hi hj]
   rw[e4];exact q
open M06 (Bt Sm)
theorem E0j {z:Int} (h:0<=z) (h':z < 5):atI [PyData.int 1,.int 1,.int 2,.int 3,.int 1000000000] z=some (.int (gv [1,1,2,3,1000000000] z.toNat)):=by
 have:z=0\/z=1\/z=2\/z=3\/z=4:=by lia
 rcases this with rfl|rfl|rfl|rfl|rfl<;>rfl
theorem C7m:∀ j:Nat,0<=gv [1,1,2,3,1000000000] j/\gv [1,1,2,3,1000000000] j<=1000000000
 | 0|1|2|3|4=>by decide
 | j+5=>⟨Int.le_refl 0,show (0:Int)<=1000000000 by decide⟩
def mx (p f:Int):Int:=if (if p - 1 < f then p - 1 else f) > 0 then if p - 1 < f then p - 1 else f else 0
theorem p9:∀ t:Nat,t<=4->9*(1000000000:Int) ^ t<=9000000000000000000000000000000000000
 | 0,_|1,_|2,_|3,_|4,_=>by decide
 | t+5,h=>by lia
theorem D90 {w:Int} (l0:0<=l) (h:l<=9*1000000000 ^ t) (w0:0<=w) (w1:w<=1000000000):0<=l*w/\l*w<=9*1000000000 ^ (t+1):=by
 refine ⟨Int.mul_nonneg l0 w0,?_⟩;rw[Int.pow_succ,<-Int.mul_assoc];exact Int.mul_le_mul h w1 w0 (Int.le_trans l0 h)
theorem D9f {w:Int} (w0:0<=w) (w1:w<=1000000000):IntMulOk l w:=IntMulOk.of_right (intBits_le_64 (by lia) (by lia))
abbrev A3i:Stmt:=top 41
theorem J3:C2 ["_law_big_here","_law_places","_law_orders_here","_law_last","_law_k","_law_times","_law_free"] ["_law_big_here","_law_places"] (B1 A3i):=by walk_at "sc"
def Dr (os:List Int):Prop:=∀ x∈os,0<=x/\x<=9000000000000000000000000000000000000
def B4o:SpD:=λds Q _=>∃ (b:Int) (p:Nat),ds=[.int b,.int p]/\0<=b/\2<=p/\p<=5/\∀ (os:List Int) (c:Int),os.length=p->Dr os->0<=c->Q (.tuple [iD os,.int c]) true
theorem B3q (F:W5 K "_law_orders" "_law_orders" A3i f fd) (T:Blt mg):J5 P w K mg base CX0 1 f fd ["_law_big_here","_law_places"] (G3 K B4o):=by
 refine ok0 F J3 (λds Q X h=>?_) (λcdv A outer s H E hr=>?_) λds Qd Xd h=>h
 ·obtain ⟨b,p,rfl,_⟩:=h;rfl
 refine ⟨_,(A4 (G5 2 J3.nd (Z7 A6))
   (A4 (G5 3 J3.nd (A9 M3 A1 (A9 J4 (B2 0) A1)))
   (A4 (G5 0 J3.nd (A9 Y1 (B2 0) A1))
   (A4 (V7 PassesOwn.never rfl (K0 (by rfl) (by exact T.range) (A0 (B2 1) A6)) (K5 4 J3.nd) (A4 (A39 2 (by rfl) (D1 2) (B2 3) (by rfl) (by rfl) (by rfl))
   (A4 (G5 5 J3.nd (E2 (dix (by rfl)) (T4 (A0 A1 (A0 A1 (A0 A1 (A0 A1 (A0 (A9 A47 A1 A1) A6)))))) (A9 J4 (B2 0) A1) (λ_ _=>rfl)))
   (A4 (G5 0 J3.nd (A9 Y1 (B2 0) A1))
   (A4 (G9 (B8 (J7 (by rfl) (by exact hr.units)) (B2 5) (A9 A47 A1 A1) (B6 _)) (A4 (G5 5 J3.nd (A9 M3 A1 (A9 J4 (B2 0) (B2 5))))
   (A7 (G5 0 J3.nd (A9 Y1 (B2 0) (A9 A47 A1 A1))))) D0)
   (A7 (G5 3 J3.nd (A9 N8 (B2 3) (B2 5)))))))))
   (A4 (G5 6 J3.nd (A9 J2 (A9 J4 (B2 0) A1) A1))
   (A4 (V7 PassesOwn.never rfl (A74 (by rfl) (by exact T.range) (A0 (A9 J2 (B2 1) (E8 (C6i (by rfl) (by rfl)) (by rfl) (by exact T.max) (by decide +kernel) (A0 A1 (A0 (E8 (C8b (by rfl) (by rfl)) (by rfl) (by exact T.min) (by decide +kernel) (A0 (B2 6) (A0 (A9 J2 (B2 1) A1) A6))) A6)))) (A0 (B2 1) A6))) (K5 4 J3.nd) (A7 (A20 2 (D1 2) (B2 4) A1)))
   (A7 (C6 (T4 (A0 (B2 2) (A0 (A9 Y1 (B2 0) A1) A6))))))))))),λds Qd h=>?_⟩
 obtain ⟨b,p,rfl,hb,hp,hp5,q⟩:=h;show (_:N5) _ [some (false,.int b),some (false,.int p),none,none,none,none,none] _;cbv;refine A1k (λt O=>∃ (b:Int) (os:List Int) (l:Int) (x4 x5:Option (Bool × D)),O=[some (false,.int b),some (false,.int p),some (true,iD os),some (false,.int l),x4,x5,none]/\0<=b/\os.length=t/\Dr os/\0<=l/\l<=9*1000000000 ^ t) ⟨_,[],_,_,_,rfl,by lia,rfl,λx h=>(List.not_mem_nil h).elim,by lia,by lia⟩ ?_ ?_
 ·rintro t O ht ⟨b,os,l,x4,x5,rfl,hb,hl,hd,l0,l1⟩;cbv;refine B7x rfl (by rw[qk];lia) ?_;cbv;have hd':Dr (os++[l]):=λx hx=>by
   rcases zm.mp hx with z|z
   ·exact hd x z
   ·rw[zc.mp z];refine ⟨l0,Int.le_trans l1 ?_⟩;exact p9 t (by lia)
  have hl':(os++[l]).length=t+1:=by rw[length_append,hl];rfl
  generalize os++[l]=os at *;cbv;refine ⟨.int (gv [1,1,2,3,1000000000] (b % 5).toNat),E0j (by lia) (by lia),?_⟩;obtain ⟨w0,w1⟩:=C7m (b % 5).toNat;generalize gv [1,1,2,3,1000000000] (b % 5).toNat=w at *;cbv;sleep 8
  ·have h1:w=1000000000:=by simpa using h1
   subst h1;cbv;have w0:0<=1+b / 5 % 1000000000:=by lia
   have w1:1+b / 5 % 1000000000<=1000000000:=by lia
   obtain ⟨g0,g1⟩:=D90 l0 l1 w0 w1;exact ⟨D9f w0 w1,_,os,_,_,_,rfl,Int.ediv_nonneg (by lia) (by decide),hl',hd',g0,g1⟩
  ·cbv;obtain ⟨g0,g1⟩:=D90 l0 l1 w0 w1;exact ⟨D9f w0 w1,_,os,_,_,_,rfl,by lia,hl',hd',g0,g1⟩
 ·rintro O ⟨b,os,l,x4,x5,rfl,hb,hl,hd,l0,l1⟩;cbv;have hM:0<=mx (p:Int) (b % 8 - 4)/\mx (p:Int) (b % 8 - 4)<=p - 1:=by unfold mx;split<;>split<;>lia
  show lpD (A2y (p - mx (p:Int) (b % 8 - 4)) (p - (p - mx (p:Int) (b % 8 - 4))).toNat) _ _ _ _ _;generalize mx (p:Int) (b % 8 - 4)=M at *;refine A1k (λt O=>∃ (os:List Int) (x4:Option (Bool × D)),O=[some (false,.int b),some (false,.int p),some (true,iD os),some (false,.int l),x4,x5,some (false,.int (b % 8 - 4))]/\os.length=p/\Dr os) ⟨_,_,rfl,hl,hd⟩ ?_ ?_
  ·rintro t O ht ⟨os,x4,rfl,hl,hd⟩;cbv;sleep 19;cbv;refine ⟨(p - M+t).toNat,by rw[show (p:Int) - M+t=((p - M+t).toNat:Int) by lia];exact J6 (by rw[qk,hl];lia),?_⟩;cbv;refine ⟨os.set (p - M+t).toNat 0,some (false,.int (p - M+t)),by unfold iD;rw[map_set],by rw[length_set,hl],λx hx=>?_⟩;rcases mem_or_eq_of_mem_set hx with z|rfl
   ·exact hd x z
   ·exact ⟨by decide,by decide⟩
  ·rintro O ⟨os,x4,rfl,hl,hd⟩;cbv;exact q os _ hl hd (by lia)
open M06 (Bt Sm)
theorem B3g {M:MDet.Mat}:N1 t p M++[(List.range p).map (M t)]=N1 (t+1) p M:=by
 unfold N1;rw[List.range_succ,map_append];rfl
theorem D8h:((List.range p).map λ_=>gv os 0)=(List.range p).map (pl os q 0):=map_congr_left λj _=>by
 unfold pl;rw[qs (by lia)];lia
theorem D7v (h:0 < t) (h':t < 1+q):(((List.range p).map λ_=>gv os 0).map PyData.int).set t (.int (gv os 0+gv os t))=((List.range p).map (pl os q t)).map PyData.int:=by
 rw[<-map_set,D0z];congr 1;refine map_congr_left λj _=>?_;unfold pl;by_cases e:j=t
 ·subst e;rw[qr rfl,qr (by lia)]
 ·rw[qs e,qs (by lia)];lia
theorem C8s {a:Int} (h:t < p):atI (((List.range p).map λ_=>a).map PyData.int) ((t:Nat):Int)=some (.int a):=B9 (by rw[qp,K7 _ h];rfl)
def dg (M:MDet.Mat) (t:Nat):MDet.Mat:=λi j=>M i j+if i=j/\i < t then 1 else 0
theorem E0u {M:MDet.Mat}:N1 p p M=N1 p p (dg M 0):=V1 λi j hi hj=>by unfold dg;rw[qs (by lia)];lia
theorem E18 {M:MDet.Mat}:(N1 p p λi j=>if i=t/\j=t then dg M t t t+1 else dg M t i j)=N1 p p (dg M (t+1)):=V1 λi j hi hj=>by
 unfold dg;by_cases h:i=t/\j=t
 ·obtain ⟨rfl,rfl⟩:=h;rw[qr ⟨rfl,rfl⟩,qs (by lia),qr (by lia)];lia
 ·rw[qs h];by_cases h':i=j/\i < t
  ·rw[qr h',qr (by lia)]
  ·rw[qs h',qs (by lia)]
theorem E19 {M:MDet.Mat} {v:Bool} (h:∀ i j,i < p->j < p->M i j=M72.tur p (gv os) v i j):N1 p p (dg M p)=A08 p os v:=V1 λi j hi hj=>by
 unfold dg MDet.idm;rw[h i j hi hj];by_cases e:i=j
 ·rw[qr ⟨e,hi⟩,qr e]
 ·rw[qs (λz=>e z.1),qs e]
theorem C9x:(if p % 2=0 then s else -s)=0 - 1 ↔ way p s=true:=by
 unfold way;rw[decide_eq_true_iff];split<;>lia
def lr (os:List Int) (p:Nat):MDet.Mat:=λa b=>if a=p - 1 then gv os 0+gv os (p - 1) else pl os (p - 1) a b
def lc (os:List Int) (p:Nat):MDet.Mat:=λa b=>if a=p - 1/\b=p - 1 then gv os 0 else lr os p a b
theorem D3n:((N1 p p (pl os (p - 1))).map iD).set (p - 1) (iD ((List.range p).map λ_=>gv os 0+gv os (p - 1)))=(N1 p p (lr os p)).map iD:=B4h (r:=λ_=>gv os 0+gv os (p - 1))
theorem D4q {i:Nat} (hj:j < p):lc os p i j=if i=p - 1 then (if j+1=p then gv os 0 else gv os 0+gv os (p - 1)) else pl os (p - 1) i j:=by
 unfold lc lr;by_cases h:i=p - 1
 ·by_cases h':j=p - 1
  ·rw[qr ⟨h,h'⟩,qr h,qr (by lia)]
  ·rw[qs (λe=>h' e.2),qr h,qr h,qs (by lia)]
 ·rw[qs (λe=>h e.1),qs h,qs h]
abbrev W0:Stmt:=top 40
theorem E7:C2 ["_law_orders_here","_law_way","_law_n","_law_made","_law_i","_law_row","_law_turn","_law_k"] ["_law_orders_here","_law_way"] (B1 W0):=by walk_at "sc"
def B5s:SpD:=λds Q _=>∃ (os:List Int) (s:Int) (p:Nat),ds=[iD os,.int s]/\os.length=p/\2<=p/\p<=5/\Q (gD (A08 p os (way p s))) true
theorem A4z (F:W5 K "_law_plain_table" "_law_plain_table" W0 f fd) (T:Blt mg):J5 P w K mg base CX0 1 f fd ["_law_orders_here","_law_way"] (G3 K B5s):=by
 refine ok0 F E7 (λds Q X h=>?_) (λcdv A outer s H E hr=>?_) λds Qd Xd h=>h
 ·obtain ⟨os,s,p,rfl,_⟩:=h;rfl
 refine ⟨_,(A4 (G5 2 E7.nd (E8 (Q8 (by rfl)) (by rfl) (by exact T.len) (by decide +kernel) (A0 (B2 0) A6)))
   (A4 (G5 3 E7.nd (Z7 A6))
   (A4 (V7 PassesOwn.never rfl (K0 (by rfl) (by exact T.range) (A0 (B2 2) A6)) (K5 4 E7.nd) (A4 (A29 (i:=5) (hN:=E7.nd) (hyi:=rfl) (hy:=rfl) (hc:=rfl) (own:=["_law_j"]) (cap:=[("_law_orders_here",0)]) (L:=C7.of (by kernel_rfl)) (hi:=(K0 (by rfl) (by exact T.range) (A0 (B2 2) A6))) (hin:=(λ_ _ _ _=>⟨(K5 0 (I0 (by kernel_rfl))),E3,(D5 (by rfl) (by rfl) (E2 (dix (by rfl)) (B2 1) A1 (λ_ _=>rfl)))⟩)))
   (A4 (G9 (B8 A53 (B2 4) A1 (B6 _)) (A7 (A20 5 (D1 5) (B2 4) (A9 M3 (E2 (dix (by rfl)) (B2 5) (B2 4) (λ_ _=>rfl)) (E2 (dix (by rfl)) (B2 0) (B2 4) (λ_ _=>rfl))))) D0)
   (A7 (A39 3 (by rfl) (D1 3) (B2 5) (by rfl) (by rfl) (by rfl))))))
   (A4 (G5 6 E7.nd (B2 1))
   (A4 (V7 PassesOwn.never rfl (K0 (by rfl) (by exact T.range) (A0 (B2 2) A6)) (K5 7 E7.nd) (A7 (G5 6 E7.nd (A9 J2 A1 (B2 6)))))
   (A4 (A3o (G9 (B8 (J7 (by rfl) (by exact hr.units)) (B2 6) (A9 J2 A1 A1) (B6 _)) (A4 (A20 3 (D1 3) (A9 J2 (B2 2) A1) (L4 ["_law_j"] [("_law_orders_here",0),("_law_n",2)] rfl (C7.of (by kernel_rfl)) (K0 (by rfl) (by exact T.range) (A0 (B2 2) A6)) (λ_ _ _ _=>⟨(K5 0 (I0 (by kernel_rfl))),E3,(D5 (by rfl) (by rfl) (A9 M3 (E2 (dix (by rfl)) (B2 1) A1 (λ_ _=>rfl)) (E2 (dix (by rfl)) (B2 1) (A9 J2 (B2 2) A1) (λ_ _=>rfl))))⟩)))
   (A7 (A6q 3 (by rfl) (D1 3) (A9 J2 (B2 2) A1) (A9 J2 (B2 2) A1) (E2 (dix (by rfl)) (B2 0) A1 (λ_ _=>rfl)) (λ_ _=>rfl)))) D0))
   (A4 (V7 PassesOwn.never rfl (K0 (by rfl) (by exact T.range) (A0 (B2 2) A6)) (K5 4 E7.nd) (A7 (A6q 3 (by rfl) (D1 3) (B2 4) (B2 4) (A9 M3 (E2 (dix (by rfl)) (E2 (dix (by rfl)) (B2 3) (B2 4) (λ_ _=>rfl)) (B2 4) (λ_ _=>rfl)) A1) (λ_ _=>rfl))))
   (A7 (C6 (B2 3)))))))))),λds Qd h=>?_⟩
 obtain ⟨os,sn,p,rfl,h1,hp,hp5,q⟩:=h;show (_:N5) _ [some (false,iD os),some (false,.int sn),none,none,none,none,none,none] _;cbv;rw[h1,Int.toNat_natCast];refine A1k (λt O=>∃ (x4 x5:Option (Bool × D)),O=[some (false,iD os),some (false,.int sn),some (false,.int p),some (true,gD (N1 t p (pl os (p - 1)))),x4,x5,none,none]) ⟨_,_,rfl⟩ ?_ ?_
 ·rintro t O ht ⟨x4,x5,rfl⟩;cbv;refine K4 (L:=List.range ((p:Int)).toNat) (λx:Nat=>.int (0+(x:Int))) (λj=>.int (gv os 0)) (λk hk es Q' hl q'=>?_) (by rw[length_range];lia) ?_
  ·cbv;sleep 11;cbv;exact q'
  rw[B59 (f:=λ_=>gv os 0)];cbv;refine V8 (λh2=>?_) λh2=>?_
  ·have h2:0 < t:=by simpa using h2
   cbv;rw[Int.toNat_natCast,Int.zero_add];refine ⟨.int (gv os 0),C8s ht,?_⟩;cbv;refine ⟨.int (gv os t),B9 (by rw[qp,I8 (by lia)];rfl),?_⟩;cbv;sleep 19;cbv;refine ⟨t,J6 (by simp;lia),?_⟩;rw[D7v h2 (show t < 1+(p - 1) by lia)];cbv;refine B7x rfl (by simp[N1];lia) ?_;cbv;rw[B3g];exact ⟨_,_,rfl⟩
  ·have h2:t=0:=by
    have:¬ 0 < t:=by simpa using h2
    lia
   subst h2;cbv;refine B7x rfl (by simp[N1]) ?_;cbv;rw[Int.toNat_natCast,D8h (q:=p - 1),B3g];exact ⟨_,_,rfl⟩
 rintro O ⟨x4,x5,rfl⟩;cbv;rw[Int.toNat_natCast];refine A1k (λt O=>∃ (x7:Option (Bool × D)),O=[some (false,iD os),some (false,.int sn),some (false,.int p),some (true,gD (N1 p p (pl os (p - 1)))),x4,x5,some (false,.int (if t % 2=0 then sn else -sn)),x7]) ⟨_,rfl⟩ ?_ ?_
 ·rintro t O ht ⟨x7,rfl⟩;cbv;have e:0 - (if t % 2=0 then sn else -sn)=if (t+1) % 2=0 then sn else -sn:=by split<;>split<;>lia
  rw[e];exact ⟨_,rfl⟩
 ·rintro O ⟨x7,rfl⟩;cbv;refine B43 (λO=>∃ (M:MDet.Mat) (x4 x5 x6 x7:Option (Bool × D)),O=[some (false,iD os),some (false,.int sn),some (false,.int p),some (true,gD (N1 p p M)),x4,x5,x6,x7]/\∀ i j,i < p->j < p->M i j=M72.tur p (gv os) (way p sn) i j) (λN hN=>?_) ?_
  ·cbv;refine A2z (λh3=>?_) λh3=>?_
   ·have e3:way p sn=true:=C9x.mp (by simpa using h3);cbv;refine K4 (L:=List.range ((p:Int)).toNat) (λx:Nat=>.int (0+(x:Int))) (λj=>.int (gv os 0+gv os (p - 1))) (λk hk es Q' hl q'=>?_) (by rw[length_range];lia) ?_
    ·cbv;sleep 11;cbv;sleep 30;cbv;exact q'
    rw[B59 (f:=λ_=>gv os 0+gv os (p - 1)),Int.toNat_natCast];cbv;sleep 19;cbv;have ep:(p:Int) - 1=((p - 1:Nat):Int):=by lia
    rw[ep];refine ⟨p - 1,J6 (by simp[N1];lia),?_⟩;rw[D3n];cbv;sleep 11;cbv;sleep 19;cbv;rw[ep];refine ⟨_,p - 1,((List.range p).map λb=>lr os p (p - 1) b).map PyData.int,rfl,J6 (by simp[N1];lia),by rw[qp];unfold N1;rw[K7 _ (by lia)];rfl,?_⟩;cbv;rw[ep];refine ⟨_,p - 1,rfl,J6 (by simp;lia),?_⟩;rw[D0t (f:=lr os p),show (λa b=>if a=p - 1/\b=p - 1 then gv os 0 else lr os p a b)=lc os p from rfl];cbv;exact hN _ ⟨lc os p,_,_,_,_,rfl,λi j hi hj=>by rw[e3,<-B7m hi hj];exact D4q hj⟩
   ·have e3:way p sn=false:=Bool.eq_false_iff.mpr λz=>by rw[C9x.mpr z] at h3;exact absurd h3 (by decide)
    cbv;exact hN _ ⟨pl os (p - 1),_,_,_,_,rfl,λi j hi hj=>by rw[e3,B4u hi hj]⟩
  ·rintro O ⟨M,x4,x5,x6,x7,rfl,hM⟩;cbv;rw[E0u,Int.toNat_natCast];refine A1k (λt O=>∃ (x4 x5 x6 x7:Option (Bool × D)),O=[some (false,iD os),some (false,.int sn),some (false,.int p),some (true,gD (N1 p p (dg M t))),x4,x5,x6,x7]) ⟨_,_,_,_,rfl⟩ ?_ ?_
   ·rintro t O ht ⟨x4,x5,x6,x7,rfl⟩;cbv;rw[Int.zero_add];refine ⟨.list (((List.range p).map λb=>dg M t t b).map PyData.int),B9 (by rw[qp];unfold N1;rw[K7 _ ht];rfl),?_⟩;cbv;refine ⟨.int (dg M t t t),B9 (by rw[qp,K7 _ ht];rfl),?_⟩;cbv;sleep 19;cbv;refine ⟨_,t,((List.range p).map λb=>dg M t t b).map PyData.int,rfl,J6 (by simp[N1];lia),by rw[qp];unfold N1;rw[K7 _ ht];rfl,?_⟩;cbv;refine ⟨_,t,rfl,J6 (by simp;lia),?_⟩;cbv;rw[D0t,E18];exact ⟨_,_,_,_,rfl⟩
   ·rintro O ⟨x4,x5,x6,x7,rfl⟩;cbv;rw[E19 hM];exact q
end
end K72
namespace L2
variable {s:Shared} {U:St} {H:Hp} {a:Expr} {lo:Int} {ta:TA} {p:Pos}
section
variable {X:Cx} {tg:Expr}
def D9u (X:Cx) (pins:List (Addr × Obj)) (U:St) (R:It->Hp->Prop) (itv:Value) (s2:Shared):Prop :=
 ∃ (it:Addr) (lo:Int) (n:Nat) (H':Hp),itv=.ref it/\C0 X pins U H' s2/\IsRangeIter s2.heap it (lo+((0:Nat):Int)*1) ((n:Int) - ((0:Nat):Int)) 1/\(∀ b∈[it],A1d X pins H' b)/\R (Itr lo n) H'
theorem B9e {R:It->Hp->Prop} {hi:Int} {t u v:Tok} (I:C0 X pins U H s) (h1:-(2 ^ 62)<=lo) (h2:lo < 2 ^ 62) (h3:-(2 ^ 62)<=hi) (h4:hi < 2 ^ 62)
  (q:R (Itr lo (hi - lo).toNat) H):wpAny (model X.prog X.w) X.A (pyIter (.ref s.heap.objs.size)) (D9u X pins U R) E { s with heap:=s.heap.push { cls:=.type "range",data:=.fields #[.int lo t,.int hi u,.int 1 v] },toks:=tk }:=by
 refine wpAny_pyIter_range (IsRange.new ..) (small_one h1 h2 h3 h4) ?_;have I1:C0 X pins U H { s with heap:=s.heap.push { cls:=.type "range",data:=.fields #[.int lo t,.int hi u,.int 1 v] },toks:=tk }:=I.kept λb o e=>qc _ e;refine ⟨(s.heap.push { cls:=.type "range",data:=.fields #[.int lo t,.int hi u,.int 1 v] }).objs.size,lo,(hi - lo).toNat,H,rfl,I1.kept (t':=tk) λb o e=>qc _ e,?_,λb hb=>?_,q⟩
 ·have e1:lo+((0:Nat):Int)*1=lo:=by simp
  have e2:(((hi - lo).toNat:Nat):Int) - ((0:Nat):Int)=Builtin.Range.rangeSize lo hi 1:=by rw[rangeSize_one];split<;>lia
  rw[e1,e2];exact qq _ rfl
 ·have e:b=(s.heap.push { cls:=.type "range",data:=.fields #[.int lo t,.int hi u,.int 1 v] }).objs.size:=by simpa using hb
  subst e;sleep 37
theorem B3y {b:Expr} {pos:Pos} (hg:Gl X "range") (hm:X.mg "range"=none) (ha:PA X [a,b] ta) (hs:starEach [a,b] X.env=[(false,eval a X.env),(false,eval b X.env)]) (hs2:starEach [b] X.env=[(false,eval b X.env)])
  {R:It->Hp->Prop} (I:C0 X pins U H s) (h:A98 ta U H R) :
  wpAny (model X.prog X.w) X.A (eval (.Call (.Name "range" p) [a,b] [] pos) X.env) (λv s1=>wpAny (model X.prog X.w) X.A (pyIter v) (D9u X pins U R) X.xe s1) X.xe s:=by
 refine Call_ (A04 I hg hm boot_range (PyProof.Rows.callWith_type1 (J9 (ha pos pins s U H _ I h) λus s1 ⟨vs,H1,I1,r1,q1⟩=>?_) (by rw[hs,hs2]) (by rw[hs2];rfl)));obtain ⟨i,j,e,⟨q1,q2,q3,q4⟩,q⟩:=q1;subst e;cases r1 with
 | cons r rr =>
  cases rr with
  | cons r' rr =>
   cases rr;obtain ⟨t,rfl⟩:=r;obtain ⟨t',rfl⟩:=r';exact call_range_2 (B9e I1 q1 q2 q3 q4 q)
theorem D51 {it:Addr} {n i:Nat} (I:C0 X pins U H s) (hf:∀ b∈[it],A1d X pins H b) (st:IsRangeIter s.heap it (lo+(i:Nat)*1) ((n:Int) - (i:Nat)) 1) (hg:i < n) :
  wpAny (model X.prog X.w) X.A (pyNext (.ref it)) (λr s1=>∃ u,r=some u /\
   wpAny (model X.prog X.w) X.A (letOwnedTupleGo tg (.ref it) u) (λ_ s2=>∃ x H',C0 X pins U H' s2/\G1 x u/\(Itr lo n).yld i H x H'/\IsRangeIter s2.heap it (lo+((i+1:Nat):Nat)*1) ((n:Int) - ((i+1:Nat):Nat)) 1/\∀ b∈[it],H' b=none) E s1) E s:=by
 sleep 9;refine wpAny_pyNext_range_item st (by lia) λh' hit' hs'=>?_;have I1:C0 X pins U H { s with heap:=h',toks:=s.toks+1 }:=I.turned (λb o hb e=>hs'.extBut b o hb e) f0 f1 f3 f4 f5;have st':IsRangeIter h' it (lo+((i+1:Nat):Nat)*1) ((n:Int) - ((i+1:Nat):Nat)) 1:=by
  have e1:lo+((i+1:Nat):Int)*1=lo+(i:Int)*1+1:=by lia
  have e2:(n:Int) - ((i+1:Nat):Int)=(n:Int) - (i:Int) - 1:=by lia
  rw[e1,e2];exact hit'
 refine ⟨_,rfl,B6n (s:={ s with heap:=h',toks:=s.toks+1 }) (n:="range_iterator") st' rfl rfl (by decide) ⟨.int (lo+i),H,I1,⟨s.toks,?_⟩,⟨rfl,rfl⟩,st',λb hb=>(hf b hb).1⟩⟩;rw[Int.mul_one]
def D85 (hn:Prop) (wi:TI) (g:TG) (tb:TS):TS:=λD U H=>wi U H λJ H1=>∃ W:Nat->Nat->St->Hp->Prop,(∃ m,W 0 m U H1)/\∀ i m U H,W i m U H ->
 (J.stop i H/\hn/\D.nx U H)\/(J.go i H/\∃ N:St->Hp->Prop,(∀ U' H',N U' H'->∃ m',m' < m/\W (i+1) m' U' H')/\∀ x H',J.yld i H x H'->g x U H' λσ2 H2=>tb { D with nx:=N,ct:=N,bk:=D.nx } σ2 H2)
theorem C7y {b:Expr} {g:TG} {tb:TS} {pos:Pos} (hp:PassesOwn (model X.prog X.w) X.A X.env X.xe) (hgr:Gl X "range") (hm:X.mg "range"=none) (ha:PA X [a,b] ta) (hg:PG X tg g) (hb:PSs X body tb)
  (hs1:starEach [a,b] X.env=[(false,eval a X.env),(false,eval b X.env)]) (hs2:starEach [b] X.env=[(false,eval b X.env)])
  (hs:∀ x,foldedSetIterable (.Call (.Name "range" p) [a,b] [] pos2) X.env x=pure x):PS X (.For tg (.Call (.Name "range" p) [a,b] [] pos2) body [] pos) (D85 (X.A.handled=none) (A98 ta) g tb):=by
 sleep 5;refine wpAny_For (J9 (B3y hgr hm ha hs1 hs2 I h) λv s1 h1=>J9 h1 λitv s2 h2=>?_) hs;obtain ⟨it,lo,n0,H2,e,I2,st2,f2,W,⟨m0,w0⟩,turn⟩:=h2;subst e;have T:=A7y (P:=X.prog) (w:=X.w) (K:=X.K) (tg:=tg) it lo n0;have stat:∀ {H':Hp},(∀ b∈[it],H' b=none)->∀ b∈[it],A1d X pins H' b:=λhn b hb=>⟨hn b hb,(f2 b hb).2⟩;refine codeAny_forLoop_any (λn s'=>∃ i U' H',C0 X pins U' H' s'/\IsRangeIter s'.heap it (lo+(i:Nat)*1) ((n0:Int) - (i:Nat)) 1/\(∀ b∈[it],H' b=none)/\W i n U' H') ?_ m0 ⟨0,U,H2,I2,st2,λb hb=>(f2 b hb).1,w0⟩;rintro n s3 ⟨i,σ3,H3,I3,st3,fr3,w3⟩;rcases turn i n σ3 H3 w3 with ⟨stop,hn,qn⟩|⟨go,N,hN,step⟩
 ·obtain ⟨f0,f1,f2,f3,f4,f5⟩:=stat fr3 it (by simp);have stop:n0<=i:=stop;refine wpAny_passesOwn hp (J9 (wpAny_pyNext_range_end (Q:=λr s1=>r=none/\C0 X pins σ3 H3 s1) hn st3 (by lia) λh' eb=>⟨rfl,I3.turned (t':=s3.toks) (λb o hb e=>eb b o hb e) f0 f1 f3 f4 f5⟩) λr s4 ⟨hr,I4⟩=>?_);subst hr;exact wpAny_execs_nil ⟨σ3,H3,I4,qn⟩
 refine wpAny_passesOwn hp (J9 (D51 (tg:=tg) I3 (stat fr3) st3 go) λr s4 ⟨u,hr,h4⟩=>?_);subst hr;refine wpAny_passesOwn hp (J9 h4 λ_ s5 ⟨x,H5,I5,r5,y5,st5,fr5⟩=>?_);have I5':=I5.pinned (stat fr5) (T.obj _ _ st5);refine wpAny_passesOwn hp (J9 (hg _ s5 σ3 H5 x u _ I5' r5 (step x H5 y5)) λ_ s6 ⟨σ6,H6,I6,q6⟩=>?_);refine wpAny_passesOwn hp (J9 (hb _ s6 σ6 H6 _ I6 q6) λf s7 q7=>?_);have again:∀ {σ7:St} {H7:Hp},C0 X (pins++A56 [it] s5.heap) σ7 H7 s7->N σ7 H7->∃ m,m < n/\∃ i U' H',C0 X pins U' H' s7/\IsRangeIter s7.heap it (lo+(i:Nat)*1) ((n0:Int) - (i:Nat)) 1/\(∀ b∈[it],H' b=none)/\W i m U' H':=λ{σ7 H7} I7 n7=>by
  obtain ⟨m',hm,w7⟩:=hN σ7 H7 n7;sleep 29;obtain ⟨o,e,d⟩:=T.obj _ _ st5 b hb;exact (I7.pin (b,o) (qz _ (qz _ (V2 hb e)))).2.1
 cases f with
 | next=>obtain ⟨σ7,H7,I7,n7⟩:=q7;exact again I7 n7
 | cont=>obtain ⟨σ7,H7,I7,n7⟩:=q7;exact again I7 n7
 | brk=>obtain ⟨σ7,H7,I7,q7⟩:=q7;exact ⟨σ7,H7,I7.unpinned,q7⟩
 | ret v=>obtain ⟨x7,σ7,H7,I7,r7,q7⟩:=q7;exact ⟨x7,σ7,H7,I7.unpinned,r7,q7⟩
end
end L2
namespace DL
open L2
variable {p:Pos} {tb:N5} {O:G2} {k:Nat} {mg:Str->Option Value} {N:List Str} {K:W.Frag} {qual:Str} {w:World} {f:Addr} {es:List Expr} {e:Expr}
section
variable {X:Cx} {K:W.Frag} {E:XK} {pos:Pos} {tg:Expr} {ta:TDA}
theorem C39 {U:L2.St} {H:Hp} {R:It->Hp->Prop} (h:LI K E (iR2 ta) U H R):A98 (LA K E ta) U H R:=by
 sleep 0;sleep 12;split at g1
 ·obtain ⟨v,w',rfl,h2,h3⟩:=C29 g3.dens;exact ⟨_,_,by rw[N3 h2,N3 h3],g1.1,q _ _ _ H' g1.2 g2 A8c⟩
 ·exact g1.elim
def C90 (hn:Prop) (ta:TDA) (bnd:TGD) (tb:N5):N5:=λDd O Xd=>iR2 ta O (λds b=>b=true/\∃ W:Nat->G2->Prop,W 0 O/\(∀ i d O,ds[i]?=some d->W i O->bnd d O λO'=>tb { Dd with nx:=W (i+1),ct:=W (i+1),bk:=Dd.nx } O' Xd)/\∀ O,W ds.length O->hn/\Dd.nx O) Xd
theorem C4r {a b:Expr} {T:List Nat} (hp:PassesOwn (model X.prog X.w) X.A X.env X.xe) (hgr:Gl X "range") (hm:X.mg "range"=none) (ha:DA X K E [a,b] ta) (hg:DG X K tg T bnd) (hb:DSs X K E body tb)
  (hs1:starEach [a,b] X.env=[(false,eval a X.env),(false,eval b X.env)]:=by rfl) (hs2:starEach [b] X.env=[(false,eval b X.env)]:=by rfl) (hs:∀ x,foldedSetIterable (.Call (.Name "range" p) [a,b] [] pos2) X.env x=pure x:=by intro _;rfl) :
  DS X K E (.For tg (.Call (.Name "range" p) [a,b] [] pos2) body [] pos) (C90 (X.A.handled=none) ta bnd tb):=by
 obtain ⟨g,qg,og⟩:=hg.ex;refine ⟨N9 ⟨C7y hp hgr hm ha.q.h qg.h hb.q.h hs1 hs2 hs⟩ λEn U H h=>?_⟩;sleep 1;refine C39 ⟨H0,ν,O,_,Xd,S,h1,λds b J H1 g1 e1 it=>?_,x⟩;obtain ⟨rfl,W,w0,step,done⟩:=g1;have S1:=(S.same e1).high;have eb:A8 H0 (S4 (Hd Z0 ν) H1):=(S.same e1).base;have ok1:=ok.high eb;sleep 38
 ·obtain ⟨j1,j2⟩:=i2 i ds[i] (zd hlt);refine .inr ⟨j1,λU' H'=>∃ ν' O',D2 K Z0 (S4 (Hd Z0 ν) H1) ν' O' U' H'/\W (i+1) O',λU' H' ⟨ν',O',S',w'⟩=>⟨_,by lia,rfl,hlt,ν',O',S',w'⟩,λy H' hy=>?_⟩;obtain ⟨k1,k2⟩:=j2 y H' hy;refine og _ ν2 ρ2 σ2 H' y _ _ _ (S2.same k1) k2 (step i _ ρ2 (zd hlt) w2) λρ3 σ3 b3 S3 A _=>?_;exact ⟨_,ν2,ρ3,_,Xd,S3,b3,⟨λν O U H a S=>⟨ν,O,S,a⟩,λν O U H a S=>ok1.nx ν O U H a S,λν O U H a S=>⟨ν,O,S,a⟩,ok1.rt⟩,x1⟩
 ·have e:i=ds.length:=by lia
  subst e;exact .inl ⟨i1,(done ρ2 w2).1,ok1.nx _ _ _ _ (done ρ2 w2).2 S2⟩
def lpN (hn:Prop) (ds:List D) (bnd:TGD) (tb:N5):N5:=λDd O Xd=>∃ W:Nat->G2->Prop,W 0 O/\(∀ i d O,ds[i]?=some d->W i O->bnd d O λO'=>tb { Dd with nx:=W (i+1),ct:=W (i+1),bk:=Dd.nx } O' Xd)/\∀ O,W ds.length O->hn/\Dd.nx O
theorem D54 (h:iR2 ta O (λds b=>b=true/\lpN hn ds bnd tb Dd O Xd) Xd):C90 hn ta bnd tb Dd O Xd:=h
theorem C60 {lo:Int} {n:Nat} {Dd:S6} (W:Nat->G2->Prop) (h0:W 0 O) (hs:∀ (i:Nat) O,i < n->W i O->bnd (.int (lo+i)) O λO'=>tb { Dd with nx:=W (i+1),ct:=W (i+1),bk:=Dd.nx } O' Xd) (hd:∀ O,W n O->hn/\Dd.nx O):lpN hn (A2y lo n) bnd tb Dd O Xd :=
 ⟨W,h0,λi d O e w=>by obtain ⟨h1,rfl⟩:=B3p e;exact hs i O h1 w,λO w=>hd O (by rw[B2p] at w;exact w)⟩
end
theorem C4d {base:Heap} {scope:Scope} {kV ct:Value} {an:Option Addr}
  {ps:List Str} (lk:K.lookup f=some ⟨oc,od,.func (W.fnOf name qual params body scope dV kV doc pm an cdv ct),osl⟩) (hcd:W.codeIn K cdv qual=true) (S:C2 N ps scope)
  (PA:Around->Prop) (len:∀ vs H Q E,sp vs H Q E->vs.length=ps.length)
  (hbody:∀ (A:Around) (outer:List Env) (s:Shared) (H:Hp) (vs:List V) (Q:VK) (E:XK),PA A->A37 k (A.deeper (envOfC qual scope s.heap.objs.size f cdv))->sp vs H Q E ->
   ∃ t,PSs (cxH P w K mg base N qual scope f cdv A outer s H E).nox body t/\t { nx:=λ_ H'=>Q .non H',rt:=Q } (L2.start N vs) H) :
  ∀ (A:Around) (outer:List Env) (s:Shared) (H:Hp) (args:Args) (us:List Value) (vs:List V) (Q:VK) (E:XK),PA A->A37 (k+1) A->B31 P w K mg base A outer s H->BindsTo s (W.fnOf name qual params body scope dV kV doc pm an cdv ct) args (ps.zip us)->D7 vs us->sp vs H Q E ->
  codeAny (model P w) A (.call (.ref f) args) (CR CX0 outer P w H s Q E) s:=by
 intro A outer s H args us vs Q E pa hr e0 hb r hsp;have hl:=len _ _ _ _ hsp;have KX:K.In s.heap:=e0.mod.kin.keeps λb o e=>(e0.bs b o e).1;have lim:s.heap.NoLimit:=e0.mod.nolimit.keeps λb o e=>(e0.bs b o e).1;have hkind:∀ y∈ps.zip us,scope.names.lookup y.1=some .local\/(scope.names.lookup y.1=some .cell/\((cellsFrom (s.heap.objs.size+1) scope.names []).lookup y.1).isSome=true):=λ⟨n,v⟩ hy=>by
  rcases S.par n (of_mem_zip hy).1 with q|q
  ·exact .inl q
  ·exact .inr ⟨q,W.cellsFrom_some _ _ _ (.inl q)⟩
 refine codeAny_call_function (by have:=hr.dp;lia) (KX _ _ lk) rfl S.co S.gen rfl (W.codeRec_of KX hcd) (hb _ _ _ _ ?_);refine wpAny_newFunctionEnv_cells S.kind hkind λenv he s1 x=>?_;subst he;refine ⟨lim.keeps x.toInCall.keep,codeAny_func ?_⟩;obtain ⟨t,ht,hq⟩:=hbody A outer s H vs Q E pa ⟨by have:=hr.dp;show A.depth+1+3*k+5 < _;lia,by have:=hr.un;show A.units+3+16*k+200 < _;lia⟩ hsp;have ht:PSs (cxH P w K mg base N qual scope f cdv A outer s H E) body t:=λpins s U H D I hw =>
  jd (ht pins s U H D (I.wish _) hw) (λ_ _ q=>q.unwish) λ_ _ z=>False.elim z
 have I:C0 (cxH P w K mg base N qual scope f cdv A outer s H E) [] (L2.start N vs) H s1:=B5a S e0 hl r x;refine jd (ht [] s1 (L2.start N vs) H _ I hq) (λfl s' hs=>?_) λe s' hs=>hs;have fin:∀ {U':L2.St} {H':Hp} {v:V} {u:Value},C0 (cxH P w K mg base N qual scope f cdv A outer s H E) [] U' H' s'->G1 v u->Q v H'->CE outer P w H s Q u s' :=
  λ{U' H' v u} J rv q=>⟨v,H',J.os,J.bare,J.base,J.hok,rv,q⟩
 cases fl with
 | ret u =>
  obtain ⟨v,U',H',J,rv,q⟩:=hs;exact fin J rv q
 | next =>
  obtain ⟨U',H',J,q⟩:=hs;exact fin (v:=V.non) (u:=Value.none) J rfl q
 | brk =>
  obtain ⟨_,_,_,q⟩:=hs;exact False.elim q
 | cont =>
  obtain ⟨_,_,_,q⟩:=hs;exact False.elim q
theorem okB {base:Heap} {x:Str} {st:Stmt} {ps:List Str} {sp:Prop->SpD} (F:W5 K x qual st f fd) (S:C2 N ps (B1 st)) (len:∀ hn ds Q X,sp hn ds Q X->ds.length=ps.length)
  (hbody:∀ (cdv:Value) (A:Around) (outer:List Env) (s:Shared) (H:Hp) (E:XK),A37 k (A.deeper (envOfC qual (B1 st) s.heap.objs.size f cdv))->∃ t,DSs (cxH P w K mg base N qual (B1 st) f cdv A outer s H E).nox K E0 (Q9 st) t/\∀ ds Qd,sp (A.handled=none) ds Qd Xf->t { nx:=λ_=>Qd .none true,rt:=Qd } (A3j N ds) Xf)
  (hx:∀ hn ds Qd Xd,sp hn ds Qd Xd->sp hn ds Qd Xf) (mono:∀ hn ds Qd Xd,sp False ds Qd Xd->sp hn ds Qd Xd):J5 P w K mg base CX0 (k+1) f fd ps (G3 K (sp True))/\B7n P w K mg base (k+1) f fd ps (G3 K (sp False)):=by
 sleep 25;have len':∀ hn vs H Q E,G3 K (sp hn) vs H Q E->vs.length=ps.length:=λhn vs H Q E h=>by
  obtain ⟨ds,Qd,Xd,h1,h2,_⟩:=h;rw[h1.length];exact len hn ds Qd Xd h2
 have go:∀ (hn:Prop) (A:Around) (outer:List Env) (s:Shared) (H:Hp) (vs:List V) (Q:VK) (E:XK),(hn->A.handled=none)->A37 k (A.deeper (envOfC qual (B1 st) s.heap.objs.size f cdv))->G3 K (sp hn) vs H Q E ->
   ∃ t,PSs (cxH P w K mg base N qual (B1 st) f cdv A outer s H E).nox (Q9 st) t/\t { nx:=λ_ H'=>Q .non H',rt:=Q } (L2.start N vs) H:=λhn A outer s H vs Q E hA hr h=>by
  obtain ⟨ds,Qd,Xd,h1,h2,h3,h4⟩:=h;obtain ⟨t,D,r⟩:=hbody cdv A outer s H E hr;have h5:sp (A.handled=none) ds Qd Xf:=by
   by_cases z:hn
   ·rw[show (A.handled=none)=hn from propext ⟨λ_=>z,hA⟩];exact hx _ _ _ _ h2
   ·rw[show hn=False from propext ⟨z,False.elim⟩] at h2;exact mono _ _ _ _ (hx _ _ _ _ h2)
  exact dmk D h1 h3 (λ_ _ z _=>z.elim) (r ds Qd h5)
 exact ⟨⟨len' True,λA outer s H args us vs Q E hr=>C4d lk hcd S (λA=>A.handled=none) (len' True) (λA outer s H vs Q E pa=>go True A outer s H vs Q E λ_=>pa) A outer s H args us vs Q E hr.hd (S0.h hr)⟩,
  ⟨len' False,λA outer s H args us vs Q E hr=>C4d lk hcd S (λ_=>True) (len' False) (λA outer s H vs Q E _=>go False A outer s H vs Q E False.elim) A outer s H args us vs Q E trivial hr⟩⟩
structure DfH (P:Program) (w:World) (K:W.Frag) (mg:Str->Option Value) (base:Heap) (x:Str) (ps:List Str) (k:Nat) (sp:Sp):Prop where
 ex:∃ f fd,B7n P w K mg base k f fd ps sp/\mg x=some (.ref f)/\W.keepIn K (.ref f)=true/\A5n K fd ps []
section
variable {X:Cx} {K:W.Frag} {E:XK} {pos:Pos}
theorem C53 {x:Str} {ps:List Str} {t:TA} (D:DfH X.prog X.w X.K X.mg X.base x ps k sp) (hr:A37 k X.A) (ha:QA X (e::es) t) (hg:Gl X x) (hdb:noD x)
  (he:stE e es X.env) (hpl:stB pos es X.env):QE X (.Call (.Name x p) (e::es) [] pos) (λU H Q=>t U H λvs H1=>sp vs H1 Q E0):=by
 refine ⟨λpins s U H Q I h=>?_⟩;obtain ⟨f,fd,F,hm,hk,hb⟩:=D.ex;refine wpAny_Call_Name_kw (A2l I hg hm ?_ hdb);refine W.callWith_K (h₀:=X.base) I.ok.mod.kin hk (J9 (ha.h pos pins s U H _ I h) λus s1 ⟨vs,H1,I1,r,q1⟩=>⟨I1.kIn,?_⟩) he hpl;have hl:us.length=ps.length:=by rw[<-F.len _ _ _ _ q1];exact r.length.symm
 refine wpAny_call (codeAny_mono (F.run X.A X.stack s1 H1 ⟨us,[]⟩ us vs Q E0 hr I1.env0 (by have:=hb s1 us I1.kIn (by rw[append_nil];exact hl);rwa [append_nil] at this) r q1) λr s' hq=>?_);cases r with
 | error e=>exact hq.elim
 | ok fl =>
  cases fl with
  | ret u=>exact I1.after hq
  | next=>exact False.elim hq
  | brk=>exact False.elim hq
  | cont=>exact False.elim hq
theorem C8v {x:Str} {ps:List Str} {sp:SpD} {t:TDA} (D:DfH X.prog X.w X.K X.mg X.base x ps k (G3 K sp)) (hr:A37 k X.A) (ha:DA X K E (e::es) t) (hg:Gl X x:=by rfl) (hdb:noD x:=by decide)
  (he:stE e es X.env:=by rfl) (hpl:stB pos es X.env:=by rfl):DE X K E (.Call (.Name x p) (e::es) [] pos) (B1o sp t) :=
 ⟨L6 (C53 D hr ha.q hg hdb he hpl) λU H Q h=>B2w U H Q h⟩
end
end DL
namespace K72
open L2 DL
variable {os:List Int} {p j:Nat} {f:Addr} {v:Bool} {s n:Int} {H:Hp} {C:List Value->Prop} {K:W.Frag} {st:Stmt} {mg:Str->Option Value} {l:W.OpenLaw}
section
variable {P:Program} {w:World} {K:W.Frag} {mg:Str->Option Value} {base:Heap}
open M06 (Bt Sm)
theorem D16:∀ {os:List Int},0 < os.length->id (PyData.eqv (iD os) (PyData.list []))=false
 | [],h=>absurd h (by decide)
 | _::_,_=>rfl
theorem C9p:inD (.int s) [.int 1,.int 0,.int (0 - 1)]=true ↔ (s=1\/s=-1\/s=0):=by
 have h5:∀ z:Int,PyData.eqv (.int z) (.int s)=true ↔ z=s:=λz=>by
  show (z==s)=true ↔ _;simp
 show ([PyData.int 1,.int 0,.int (0 - 1)].any λy=>PyData.eqv y (.int s))=true ↔ _;simp only[List.any_cons,List.any_nil,Bool.or_eq_true,h5,zt,or_false];lia
abbrev A1n:Stmt:=top 42
theorem A2c:C2 ["_law_orders_here","_law_places","_law_way","_law_k","_law_one","_law_other"] ["_law_orders_here","_law_places","_law_way"] (B1 A1n):=by walk_at "sc"
def A3t (hn:Prop):SpD:=λds Q _=>∃ (os:List Int) (p:Nat) (s:Int),ds=[iD os,.int p,.int s]/\2<=p/\os.length<=100/\(A0n os p s->hn/\Q (.bool true) true)/\(¬ A0n os p s->Q (.bool false) true)
theorem C43 (F:W5 K "_law_good" "_law_good" A1n f fd) (T:Blt mg):J5 P w K mg base CX0 1 f fd ["_law_orders_here","_law_places","_law_way"] (G3 K (A3t True))/\B7n P w K mg base 1 f fd ["_law_orders_here","_law_places","_law_way"] (G3 K (A3t False)):=by
 refine okB (sp:=A3t) F A2c (λhn ds Q X h=>?_) (λcdv A outer s H E hr=>?_) (λhn ds Qd Xd h=>h) λhn ds Qd Xd ⟨os,p,s,a,b,c,d,e⟩=>⟨os,p,s,a,b,c,λg=>(d g).1.elim,e⟩
 ·obtain ⟨os,s,p,rfl,_⟩:=h;rfl
 refine ⟨_,(A4 (G9 (A17 (X6 (B8 (P6 (by rfl) (by exact hr.units)) (E8 (Q8 (by rfl)) (by rfl) (by exact T.len) (by decide +kernel) (A0 (B2 0) A6)) (B2 1) (B6 _)) (X6 (B8 (J7 (by rfl) (by exact hr.units)) (B2 0) (Z7 A6) (B6 _)) (X6 (B8 A58 (E2 (dix (by rfl)) (B2 0) A1 (λ_ _=>rfl)) A1 (B6 _)) (A01 (B8 (A9x (by rfl)) (B2 2) (T4 (A0 A1 (A0 A1 (A0 (A9 J2 A1 A1) A6)))) rfl)))))) (A7 (C6 A3b)) D0)
  (A4 (G9 (B8 (P6 (by rfl) (by exact hr.units)) (U1 (J7 (by rfl) (by exact hr.units)) (B2 2) A1 (B6 _)) (U1 (J7 (by rfl) (by exact hr.units)) (E2 (dix (by rfl)) (B2 0) (A9 J2 (E8 (Q8 (by rfl)) (by rfl) (by exact T.len) (by decide +kernel) (A0 (B2 0) A6)) A1) (λ_ _=>rfl)) A1 (B6 _)) (B6 _)) (A7 (C6 A3b)) D0)
  (A4 (C4r PassesOwn.never (by rfl) (by exact T.range) (A0 A1 (A0 (E8 (Q8 (by rfl)) (by rfl) (by exact T.len) (by decide +kernel) (A0 (B2 0) A6)) A6)) (K5 3 A2c.nd) (A4 (G5 4 A2c.nd (E2 (dix (by rfl)) (B2 0) (A9 J2 (B2 3) A1) (λ_ _=>rfl)))
  (A4 (G5 5 A2c.nd (E2 (dix (by rfl)) (B2 0) (B2 3) (λ_ _=>rfl)))
  (A7 (G9 (A17 (X6 (B8 A58 (B2 5) A1 (B6 _)) (X6 (A17 (A6b (B8 (J7 (by rfl) (by exact hr.units)) (B2 4) A1 (B6 _)) (A42 (B8 A53 (B2 5) A1 (B6 _))))) (A01 (A17 (A6b (B8 A53 (B2 4) A1 (B6 _)) (A42 (B8 (P6 (by rfl) (by exact hr.units)) (A9 J4 (B2 5) (B2 4)) A1 (B6 _))))))))) (A7 (C6 A3b)) D0)))))
  (A7 (C6 A3b))))),λds Qd h=>?_⟩
 obtain ⟨os,p,sn,rfl,hp,hl,q,x⟩:=h;show (_:N5) _ [some (false,iD os),some (false,.int p),some (false,.int sn),none,none,none] _;cbv;refine A2z (λh1=>?_) λh1=>?_
 ·cbv;exact x λg=>by have:=g.len;simp at h1;lia
 have h1:os.length=p:=by simp at h1;lia
 cbv;refine And.intro ⟨T7 _,rfl,A1z _⟩ ?_;rw[D16 (show 0 < os.length by lia)];cbv;sleep 11;cbv;refine A2z (λh2=>?_) λh2=>?_
 ·have h2:gv os 0 < 1:=by simpa using h2
  cbv;rw[qr trivial];cbv;exact x λg=>by have:=g.one;lia
 have h2:¬ gv os 0 < 1:=by simpa using h2
 cbv;refine And.intro ⟨rfl,rfl⟩ ?_;cbv;refine A2z (λh4=>?_) λh4=>?_
 ·cbv;exact x λg=>by rw[C9p.mpr g.sg] at h4;exact absurd h4 (by decide)
 have h4:sn=1\/sn=-1\/sn=0:=C9p.mp (by simpa using h4);cbv;refine ⟨.int (gv os (p - 1)),by rw[h1,show (p:Int) - 1=((p - 1:Nat):Int) by lia];exact B9 (by rw[qp,I8 (by lia)];rfl),?_⟩;cbv;refine And.intro ⟨rfl,rfl,jb 32⟩ ?_;cbv;refine A2z (λh5=>?_) λh5=>?_
 ·cbv;refine x λg=>?_;have e:(sn==0)=(gv os (p - 1)==0):=by rw[zz];simpa using g.sz
  rw[show id (sn==0)=id (gv os (p - 1)==0) from e] at h5;cases h6:(gv os (p - 1)==0)<;>rw[h6] at h5<;>exact absurd h5 (by decide)
 have h5:sn=0 ↔ gv os (p - 1)=0:=by
  have e:(sn==0)=(gv os (p - 1)==0):=by
   cases h6:(sn==0)<;>cases h7:(gv os (p - 1)==0)<;>first|rfl|(rw[h6,h7] at h5;exact absurd h5 (by decide))
  rw[zz] at e;simpa using e
 cbv;refine D54 ?_;cbv;refine C60 (λt O=>∃ (x3 x4 x5:Option (Bool × D)),O=[some (false,iD os),some (false,.int p),some (false,.int sn),x3,x4,x5]/\∀ k,k < t->0<=gv os (k+1)/\(gv os (k+1)=0\/(gv os k≠0/\gv os k ∣ gv os (k+1)))) ⟨_,_,_,rfl,λk hk=>absurd hk (Nat.not_lt_zero k)⟩ ?_ ?_
 ·rintro t O ht ⟨x3,x4,x5,rfl,hk⟩;have ht:t+1 < p:=by rw[h1] at ht;lia
  cbv;have et:1+(t:Int)=((t+1:Nat):Int):=by lia
  rw[show 1+(t:Int) - 1=(t:Int) by lia];refine ⟨.int (gv os t),B9 (by rw[qp,I8 (by lia)];rfl),?_⟩;cbv;rw[et];refine ⟨.int (gv os (t+1)),B9 (by rw[qp,I8 (by lia)];rfl),?_⟩;cbv;have a0:0<=gv os t:=by
   rcases Nat.eq_zero_or_pos t with rfl|hj0
   ·lia
   ·have:=(hk (t - 1) (by lia)).1
    rwa [Nat.sub_add_cancel hj0] at this
  have nx:0<=gv os (t+1)->(gv os (t+1)=0\/(gv os t≠0/\gv os t ∣ gv os (t+1)))->∀ k,k < t+1->0<=gv os (k+1)/\(gv os (k+1)=0\/(gv os k≠0/\gv os k ∣ gv os (k+1))):=λi1 i2 k h7=>by
   by_cases h9:k=t
   ·subst h9;exact ⟨i1,i2⟩
   ·exact hk k (by lia)
  have bad:∀ g:A0n os p sn,0<=gv os (t+1)/\(gv os (t+1)=0\/(gv os t≠0/\gv os t ∣ gv os (t+1))):=λg=>⟨g.nn _ (zx (I8 (by lia))),g.ch t ht⟩;generalize gv os (t+1)=u at *;generalize gv os t=v at *;refine A2z (λh6=>?_) λh6=>?_
  ·have h6:u < 0:=by simpa using h6
   rw[qr trivial];cbv;exact x λg=>by have:=(bad g).1;lia
  have h6:¬ u < 0:=by simpa using h6
  cbv;refine A2z (λh7=>?_) λh7=>?_
  ·have h7:v=0:=by simpa using h7
   cbv;refine A2z (λh8=>?_) λh8=>?_
   ·have h8:0 < u:=by simpa using h8
    rw[qr trivial];cbv;exact x λg=>(bad g).2.elim (λz=>by lia) λz=>z.1 h7
   ·have h8:¬ 0 < u:=by simpa using h8
    cbv;refine A2z (λh9=>?_) λh9=>?_
    ·have h9:0 < v:=by simpa using h9
     lia
    cbv;exact ⟨_,_,_,rfl,nx (by lia) (.inl (by lia))⟩
  ·have h7:¬ v=0:=by simpa using h7
   have hv:0 < v:=by lia
   cbv;refine A2z (λh8=>?_) λh8=>?_
   ·cbv;refine A2z (λh9=>?_) λh9=>?_
    ·have h9:u % v≠0:=by simpa using h9
     cbv;exact x λg=>(bad g).2.elim (λz=>h9 (by rw[z];exact Int.zero_emod v)) λz=>h9 (Int.emod_eq_zero_of_dvd z.2)
    ·have h9:u % v=0:=by simpa using h9
     cbv;exact ⟨_,_,_,rfl,nx (by lia) (.inr ⟨h7,Int.dvd_of_emod_eq_zero h9⟩)⟩
   ·have h8:¬ 0 < v:=by simpa using h8
    lia
 ·rintro O ⟨x3,x4,x5,rfl,hk⟩;rw[h1] at hk;have nn:∀ y∈os,0<=y:=λy hy=>by
   obtain ⟨j,hj,rfl⟩:=D1d hy;rcases Nat.eq_zero_or_pos j with rfl|hj0
   ·lia
   ·have:=(hk (j - 1) (by lia)).1
    rwa [Nat.sub_add_cancel hj0] at this
  obtain ⟨q1,q2⟩:=q ⟨h1,by lia,nn,λk hk1=>(hk k (by lia)).2,h4,h5⟩;refine ⟨q1,?_⟩;cbv;exact q2
theorem B9k (F:W5 K "_law_good" "_law_good" A1n f fd) (T:Blt mg):J5 P w K mg base CX0 1 f fd ["_law_orders_here","_law_places","_law_way"] (G3 K (A3t True)):=(C43 F T).1
theorem B4j (F:W5 K "_law_good" "_law_good" A1n f fd) (T:Blt mg):B7n P w K mg base 1 f fd ["_law_orders_here","_law_places","_law_way"] (G3 K (A3t False)):=(C43 F T).2
open M06 (Bt Sm)
open M72 (crn B53)
theorem C4i (g:A0n os p s) (hp:2<=p):M72.B2g p (gv os):=⟨hp,g.one,λi hi=>g.nn _ (zx (I8 (by rw[g.len];exact hi))),λi hi=>(g.ch i hi).elim (λz=>by rw[z];exact Int.dvd_zero _) And.right⟩
theorem B6v {i:Nat} (hi:i < p) (hj:j < p):A75 (A08 p os v) i j=M72.G p (gv os) v i j:=by
 unfold A75 A08 M72.G;rw[Q7 hi hj];lia
theorem D2k (h:os.length=p):((List.range p).map λk=>gv os k)=os:=by
 subst h;refine List.ext_getElem (by simp) λk h1 h2=>?_;rw[List.getElem_map,List.getElem_range];have:=I8 h2;rw[zd h2] at this;exact (zu this).symm
theorem D39 {C:MDet.Mat} (g:A0n os p s) (hp:2<=p) (hC:Cor p (A08 p os v) C):crn p C=os:=by
 obtain ⟨L,R,sm⟩:=hC;have s0:=M72.sm (v:=v) (C4i g hp);have sm':Sm p p (A75 (A08 p os v)) (M72.Lf p (gv os) v) (M72.Dg (gv os)) M72.Rt:=⟨⟨λi j hi hj=>by
  rw[s0.rel.eq i j hi hj];exact MDet.S_congr λa ha=>by rw[MDet.S_congr λb hb=>by rw[<-B6v ha hb]]⟩,s0.gl,s0.gr,s0.off,s0.nn,s0.ch⟩
 refine Eq.trans ?_ (D2k g.len);refine map_congr_left λk hk=>?_;have hk:=mem_range.mp hk;rw[sm.uniq sm' hk hk];exact qr rfl
theorem nz (g:A0n os p s) (hs:s≠0):∀ k i,i+k+1=p->gv os i≠0
 | 0,i,h=>λz=>hs (g.sz.mpr (by rw[show p - 1=i by lia];exact z))
 | k+1,i,h=>λz=>nz g hs k (i+1) (by lia) ((g.ch i (by lia)).elim id λy=>absurd z y.1)
theorem B2e {f:Nat->Int}:∀ n,(∀ i,i < n->0 < f i)->0 < M06.D3 n f
 | 0,_=>show (0:Int) < 1 by decide
 | n+1,h=>by rw[M06.M7];exact Int.mul_pos (B2e n λi hi=>h i (by lia)) (h n (by lia))
theorem C88 (g:A0n os p s) (hp:2<=p):sgn (MDet.det p λi j=>MDet.idm i j - N0 (A08 p os (way p s)) i j)=s:=by
 have e:(MDet.det p λi j=>MDet.idm i j - N0 (A08 p os (way p s)) i j)=MDet.det p (M72.G p (gv os) (way p s)):=MDet.det_congr λi j hi hj=>B6v hi hj;rw[e,M72.C1f (C4i g hp)];have hw:way p s=true ↔ s=if p % 2=0 then -1 else 1:=by unfold way;exact decide_eq_true_iff
 by_cases hs:s=0
 ·have:M06.D3 p (gv os)=0:=by
   obtain ⟨k,rfl⟩:∃ k,p=k+1:=⟨p - 1,by lia⟩;rw[M06.M7,show gv os k=0 from g.sz.mp hs,Int.mul_zero]
  rw[this,Int.mul_zero,hs];rfl
 ·have:0 < M06.D3 p (gv os):=B2e p λi hi=>by
   have h1:=nz g hs (p - 1 - i) i (by lia);have h2:=g.nn _ (zx (I8 (r:=os) (j:=i) (by rw[g.len];exact hi)));lia
  generalize M06.D3 p (gv os)=P at *;have h0:=g.sg;unfold sgn M72.A1c;by_cases ev:p % 2=0
  ·rw[qr ev] at hw ⊢;by_cases v:way p s=true
   ·have:=hw.mp v;rw[qr v,qs (by lia),qr (by lia)];lia
   ·have:s≠-1:=λz=>v (hw.mpr z);rw[qs v,qr (by lia)];lia
  ·rw[qs ev] at hw ⊢;by_cases v:way p s=true
   ·have:=hw.mp v;rw[qr v,qr (by lia)];lia
   ·have:s≠1:=λz=>v (hw.mpr z);rw[qs v,qs (by lia),qr (by lia)];lia
def Ob (os:List Int):Prop:=∀ x∈os,-9000000000000000000000000000000000000<=x/\x<=9000000000000000000000000000000000000
theorem B7l (h:Ob os) (i:Nat):-9000000000000000000000000000000000000<=gv os i/\gv os i<=9000000000000000000000000000000000000:=by
 by_cases hi:i < os.length
 ·exact h _ (zx (I8 hi))
 ·have:gv os i=0:=by unfold gv;rw[getD_eq_getElem?_getD,List.getElem?_eq_none (by lia)];rfl
  lia
theorem D03 {i:Nat} (h:Ob os) (hi:i < p) (hj:j < p):(N0 (A08 p os v) i j).natAbs<=18000000000000000000000000000000000001:=by
 unfold A08 M72.tur MDet.idm;rw[Q7 hi hj];have h0:=B7l h 0;have h1:=B7l h i;have h2:=B7l h (p - 1);split<;>split<;>(try split)<;>lia
theorem D29 (h:Ob os) (hp:2<=p) (hp5:p<=5):Tbl p (A08 p os v):=⟨N4 _ _ _,⟨by lia,hp5⟩,λi j hi hj=>qu (D03 h hi hj) (by decide)⟩
theorem D5y (h:Ob os):Bg 200 (A08 p os v):=C2o λi j hi hj=>Bd.iff.mpr (qu (by have:=D03 (v:=v) h hi hj;unfold A08 at this;rwa [Q7 hi hj] at this) (by decide))
open M06 (Bt Sm)
open M72 (crn B53)
theorem C6y {x y:List Int} {k l:Kd} {Q:QD} (h:x.length+y.length<=1000000) (q:Q (iD (x++y)) (.own [])):C3g (iD x) k (iD y) l Q :=
 C49 ⟨by rw[qk,qk];exact h,by rw[A8f,<-map_append];exact q⟩
theorem D1r {O:G2} {i:Nat} {x:List Int}:setK O i (.tuple [iD x,.int n]) (.own [])=O.set i (some (true,.tuple [iD x,.int n])):=rfl
theorem C0e {x:List Int}:(PyData.tuple [iD x,.int n]).canLay0=true:=by
 show (PyData.canLay0 (iD x)&&(true&&true))=true;rw[T7];rfl
theorem D7o {x:List Int}:(PyData.tuple [iD x,.int n]).depth<=32:=by
 show max (PyData.depthAll (x.map PyData.int)+1) (max 0 0)+1<=32;rw[show PyData.depthAll (x.map PyData.int)=0 from A0y x];decide
abbrev A4l:Stmt:=top 43
theorem U4:C2 ["_law_script","_law_places","_law_orders_here","_law_big_here","_law_way","_law_handed","_law_found","e","_law_due"] ["_law_script"] (B1 A4l):=by walk_at "sc"
def B7i:SpD:=λds Q _=>∃ (ns:List Int),ds=[scr ns]/\∀ o,Q (.bool true) o
theorem D7z {H':Hp} {o:Bool} {v:V} {b:Bool} (r:RR K H H' o v (.bool b)):v=.bl b:=by
 have hv:Dn K H' v (.bool b):=by
  cases o with
  | true=>obtain ⟨ms,h1,_⟩:=r;exact h1.den
  | false=>exact r
 cases hv;rfl
theorem A5y (F:W5 K "corner_form" "corner_form" V6 f fd) (T:Blt mg) (D_plain_grid:Df P w K mg base "plain_grid" ["n"] 1 (G3 K Y2)) (D_flipped:Df P w K mg base "flipped" ["grid"] 1 (G3 K A2e)) (D_is_diagonal:Df P w K mg base "is_diagonal" ["grid"] 1 (G3 K A25)) (D_staired:Df P w K mg base "staired" ["grid","beside"] 44 (Y4 (K:=K))) (D_chain_corners:Df P w K mg base "chain_corners" ["middle","left","turned_right"] 43 A4a):J5 P w K mg base CX0 45 f fd ["grid"] (G3 K A8d):=A63 (A7h F T D_plain_grid D_flipped D_is_diagonal D_staired D_chain_corners)
def A7v (K:W.Frag):Sp:=λvs H Q _=>∃ (a:Addr) (ns:List Int),vs=[.ref a]/\E6 K H a (ns.map V.int)/\∀ H',Q (.bl true) H'
theorem D3m {vs:List V} {Q:VK} {E:XK} (h:A7v K vs H Q E):G3 K B7i vs H Q E:=by
 obtain ⟨a,ns,rfl,hS,q⟩:=h;refine ⟨[scr ns],λd _=>d=.bool true,Xf,.cons (.scr ns hS) .nil,⟨ns,rfl,λ_=>rfl⟩,λd o v H' e _ r=>?_,λ_ _ z _=>z.elim⟩;subst e;rw[D7z r];exact q H'
theorem D3j (F:W5 K "law" "law" A4l f fd) (T:Blt mg) (C_RowError:ExC K mg "RowError" cE0) (C_NoTable:ExC K mg "NoTable" cT) (fitT:B5q K cT cE0) (exkT:ExK K cT) (i_a:W.kitOne K (.ref cT) (.ref cT)=some true) (D_l_big:Df P w K mg base "_law_big" ["_law_script","_law_at"] 2 (G3 K B4d)) (D_l_copy:Df P w K mg base "_law_copy" ["_law_grid"] 1 (G3 K A2d)) (D_l_plain_table:Df P w K mg base "_law_plain_table" ["_law_orders_here","_law_way"] 1 (G3 K B5s)) (D_l_orders:Df P w K mg base "_law_orders" ["_law_big_here","_law_places"] 1 (G3 K B4o)) (D_l_good:Df P w K mg base "_law_good" ["_law_orders_here","_law_places","_law_way"] 1 (G3 K (A3t True))) (D_l_goodH:DfH P w K mg base "_law_good" ["_law_orders_here","_law_places","_law_way"] 1 (G3 K (A3t False))) (D_plain_table:DfE P w K mg base "plain_table" ["places","orders","sign"] 3 (G3 K (C10 cT))) (D_group_of:Df P w K mg base "group_of" ["table"] 47 (G3 K B4b)) (D_sign_of:DfE P w K mg base "sign_of" ["table"] 4 (G3 K B0h)):J5 P w K mg base CX0 48 f fd ["_law_script"] (A7v K):=by
 refine J5.imp (sp:=G3 K B7i) ?_ λ_ _ _ _ h=>D3m h;refine ok0 F U4 (λds Q X h=>?_) (λcdv A outer s H E hr=>?_) λds Qd Xd h=>h
 ·obtain ⟨ns,rfl,_⟩:=h;rfl
 refine ⟨_,(A4 (G5 1 U4.nd (A9 M3 A1 (A9 J4 (M8 (by exact D_l_big) (by exact hr.mono (by lia)) (A0 (B2 0) (A0 A1 A6))) A1)))
  (A4 (A6p [2,3] 2 rfl (by rfl) (by rfl) (D8 (U8 2 U4.nd) (D8 (U8 3 U4.nd) T1)) (by rfl) (by rfl) (M8 (by exact D_l_orders) (by exact hr.mono (by lia)) (A0 (M8 (by exact D_l_big) (by exact hr.mono (by lia)) (A0 (B2 0) (A0 A1 A6))) (A0 (B2 1) A6))))
  (A4 (G5 4 U4.nd (A9 J2 A1 (A9 N8 A1 (A9 J4 (B2 3) A1))))
  (A4 (A3o (G9 (B8 (J7 (by rfl) (by exact hr.units)) (E2 (dix (by rfl)) (B2 2) (A9 J2 (B2 1) A1) (λ_ _=>rfl)) A1 (B6 _)) (A7 (G5 4 U4.nd A1)) D0))
  (A4 (G5 3 U4.nd (M8 (by exact D_l_big) (by exact hr.mono (by lia)) (A0 (B2 0) (A0 A1 A6))))
  (A4 (A3o (G9 (B8 (J7 (by rfl) (by exact hr.units)) (A9 J4 (B2 3) A1) A1 (B6 _)) (A7 (A20 2 (D1 2) (A9 J4 (A9 Y1 (B2 3) A1) (B2 1)) (A9 J2 (A9 J4 (A9 Y1 (B2 3) A1) A1) A1))) D0))
  (A4 (A3o (G9 (B8 (J7 (by rfl) (by exact hr.units)) (A9 J4 (B2 3) A1) A1 (B6 _)) (A7 (G5 4 U4.nd (A9 J2 (A9 J4 (A9 Y1 (B2 3) A1) A1) A1))) D0))
  (A4 (A3o (G9 (B8 (J7 (by rfl) (by exact hr.units)) (A9 J4 (B2 3) A1) A1 (B6 _)) (A7 (G5 2 U4.nd (A9 M3 (B2 2) (Z7 (A0 (E2 (dix (by rfl)) (B2 2) (A9 J2 (B2 1) A1) (λ_ _=>rfl)) A6))))) D0))
  (A4 (A3o (G9 (B8 (J7 (by rfl) (by exact hr.units)) (A9 J4 (B2 3) A1) A1 (B6 _)) (A7 (G5 2 U4.nd (A2j (by rfl) (B2 2) (A43 A1) A44))) D0))
  (A4 (G5 5 U4.nd (A3d (A7j (by rfl)) (by rfl) (by exact T.list) (by decide +kernel) (A0 (B2 2) A6)))
  (A4 (C1y 7 (by rfl) (by rfl) ⟨rfl,rfl,rfl⟩ U4.nd (by rfl) (by exact C_RowError.mgx) (C4m (C6j 6 U4.nd (C3a (by exact D_plain_table) ⟨rfl,rfl,rfl⟩ (by exact hr.mono (by lia)) (A0 (B2 1) (A0 (B2 5) (A0 (B2 4) A6)))))) (λea oe cE yE hoe hCE hKE=>(A7 (C6 (B0b (C5q (by rfl) (by exact qz _ qx) (by exact hoe) (by exact hCE) (by exact hKE) (by rfl) (by exact T.isinstance) (B2 7) (by rfl) (by exact C_NoTable.mgx)) (B0b (C74 (C8v D_l_goodH (by exact ⟨(hr.mono (j:=1) (by lia)).dp,(hr.mono (j:=1) (by lia)).un⟩) (A0 (B2 2) (A0 (B2 1) (A0 (B2 4) A6))))) (B1q (U1 (J7 (by rfl) (by exact hr.units)) (B2 5) (B2 2) (B6 _)))))))))
  (A4 (G9 (A17 (X6 (B1x (A6i (M8 (by exact D_l_good) (by exact hr.mono (by lia)) (A0 (B2 2) (A0 (B2 1) (A0 (B2 4) A6)))))) (A01 (B8 (P6 (by rfl) (by exact hr.units)) (B2 5) (B2 2) (B6 _))))) (A7 (C6 A3b)) D0)
  (A4 (G9 (A17 (X6 (B1x (A6i (C7h (by rfl) C38 (by rfl) (by exact T.isinstance) (B2 6) (by rfl) (by exact T.list) (by decide +kernel)))) (A01 (B8 (P6 (by rfl) (by exact hr.units)) (B2 6) (M8 (by exact D_l_plain_table) (by exact hr.mono (by lia)) (A0 (B2 2) (A0 (B2 4) A6))) (B6 _))))) (A7 (C6 A3b)) D0)
  (A4 (G5 8 U4.nd (T4 (A0 (L4 ["_law_one"] [] rfl (C7.of (by kernel_rfl)) (O9 (by rfl) (B2 2)) (λ_ _ _ _=>⟨(K5 0 (I0 (by kernel_rfl))),(A3z (B8 A53 (B2 0) A1 (B6 _))),(D5 (by rfl) (by rfl) (B2 0))⟩)) (A0 (E8 (Q8 (by rfl)) (by rfl) (by exact T.len) (by decide +kernel) (A0 (L4 ["_law_one"] [] rfl (C7.of (by kernel_rfl)) (O9 (by rfl) (B2 2)) (λ_ _ _ _=>⟨(K5 0 (I0 (by kernel_rfl))),(A3z (B8 (J7 (by rfl) (by exact hr.units)) (B2 0) A1 (B6 _))),(D5 (by rfl) (by rfl) (B2 0))⟩)) A6)) A6))))
  (A4 (G9 (A17 (X6 (B8 (P6 (by rfl) (by exact hr.units)) (M8 (by exact D_group_of) (by exact hr.mono (by lia)) (A0 (M8 (by exact D_l_copy) (by exact hr.mono (by lia)) (A0 (B2 6) A6)) A6)) (B2 8) (B6 _)) (A01 (B8 (P6 (by rfl) (by exact hr.units)) (T9 (by exact D_sign_of) C3i (by exact hr.mono (by lia)) (A0 (M8 (by exact D_l_copy) (by exact hr.mono (by lia)) (A0 (B2 6) A6)) A6)) (B2 4) (B6 _))))) (A7 (C6 A3b)) D0)
  (A4 (A6q 6 (by rfl) (D1 6) A1 A1 A1 (λ_ _=>rfl))
  (A4 (A39 6 (by rfl) (D1 6) (Z7 A6) (by rfl) (by rfl) (by rfl))
  (A7 (C6 (B0b (U1 (J7 (by rfl) (by exact hr.units)) (T9 (by exact D_plain_table) C3i (by exact hr.mono (by lia)) (A0 (B2 1) (A0 (B2 5) (A0 (B2 4) A6)))) (M8 (by exact D_l_plain_table) (by exact hr.mono (by lia)) (A0 (B2 2) (A0 (B2 4) A6))) (B6 _)) (B1q (U1 (J7 (by rfl) (by exact hr.units)) (B2 5) (B2 2) (B6 _))))))))))))))))))))))),λds Qd h=>?_⟩
 obtain ⟨ns,rfl,q⟩:=h;show (_:N5) _ [some (false,scr ns),none,none,none,none,none,none,none,none] _;cbv;refine ⟨ns,0,rfl,by lia,λz hz=>?_⟩;cbv;refine ⟨ns,1,rfl,by lia,λz1 hz1=>?_⟩;obtain ⟨p,hp,hp5,ep⟩:∃ p:Nat,2<=p/\p<=5/\2+z % 4=(p:Int):=⟨(2+z % 4).toNat,by lia,by lia,by lia⟩;rw[ep];cbv;refine ⟨z1,p,rfl,hz1,hp,hp5,λos c hl hd hc=>?_⟩;cbv;refine B43 (λO=>∃ s:Int,O=[some (false,scr ns),some (false,.int p),some (true,iD os),some (false,.int c),some (false,.int s),none,none,none,none]) (λN hN=>?_) ?_
 ·cbv;sleep 30;cbv;sleep 8
  ·cbv;exact hN _ ⟨_,rfl⟩
  ·cbv;exact hN _ ⟨_,rfl⟩
 rintro O ⟨sn,rfl⟩;have ho:Ob os:=λx hx=>by have:=hd x hx;lia
 clear hd;cbv;refine ⟨ns,2,rfl,by lia,λz2 hz2=>?_⟩;cbv;refine B43 (λO=>∃ os:List Int,O=[some (false,scr ns),some (false,.int p),some (true,iD os),some (false,.int z2),some (false,.int sn),none,none,none,none]/\os.length=p/\Ob os) (λN hN=>?_) ?_
 ·cbv;sleep 8
  ·cbv;sleep 19;cbv;have i0:0<=z2 / 4 % (p:Int):=Int.emod_nonneg _ (by lia);have i1:z2 / 4 % (p:Int) < p:=Int.emod_lt_of_pos _ (by lia);refine ⟨(z2 / 4 % (p:Int)).toNat,by rw[show z2 / 4 % (p:Int)=((z2 / 4 % (p:Int)).toNat:Int) by lia];exact J6 (by rw[qk,hl];lia),?_⟩;cbv;rw[show PyData.list ((os.map PyData.int).set (z2 / 4 % (p:Int)).toNat (.int (z2 / 64 % 12 - 2)))=iD (os.set (z2 / 4 % (p:Int)).toNat (z2 / 64 % 12 - 2)) from by unfold iD;rw[map_set]];exact hN _ ⟨_,rfl,by rw[length_set,hl],λx hx=>(mem_or_eq_of_mem_set hx).elim (ho x) λe=>by lia⟩
  ·cbv;exact hN _ ⟨_,rfl,hl,ho⟩
 clear hl ho os;rintro O ⟨os,rfl,hl,ho⟩;cbv;refine B43 (λO=>∃ sn:Int,O=[some (false,scr ns),some (false,.int p),some (true,iD os),some (false,.int z2),some (false,.int sn),none,none,none,none]) (λN hN=>?_) ?_
 ·cbv;sleep 8
  ·cbv;exact hN _ ⟨_,rfl⟩
  ·cbv;exact hN _ ⟨_,rfl⟩
 clear sn;rintro O ⟨sn,rfl⟩;cbv;refine B43 (λO=>∃ os:List Int,O=[some (false,scr ns),some (false,.int p),some (true,iD os),some (false,.int z2),some (false,.int sn),none,none,none,none]/\os.length<=99/\Ob os) (λN hN=>?_) ?_
 ·cbv;sleep 8
  ·cbv;sleep 30;cbv;refine C6y (by simp;lia) ?_;cbv;refine hN _ ⟨os++[gv os (p - 1)],rfl,by rw[length_append];show os.length+1<=99;lia,λx hx=>?_⟩;rcases zm.mp hx with z|z
   ·exact ho x z
   ·rw[zc.mp z];exact B7l ho _
  ·cbv;exact hN _ ⟨_,rfl,by lia,ho⟩
 clear hl ho os;rintro O ⟨os,rfl,hl,ho⟩;cbv;refine B43 (λO=>∃ os:List Int,O=[some (false,scr ns),some (false,.int p),some (true,iD os),some (false,.int z2),some (false,.int sn),none,none,none,none]/\os.length<=99/\Ob os) (λN hN=>?_) ?_
 ·cbv;sleep 8
  ·cbv;rw[A4k (j:=1) (z:=1) rfl,<-map_drop,A99];cbv;exact hN _ ⟨os.drop 1,rfl,by rw[length_drop];lia,λx hx=>ho x (mem_of_mem_drop hx)⟩
  ·cbv;exact hN _ ⟨_,rfl,hl,ho⟩
 clear hl ho os;rintro O ⟨os,rfl,hl,ho⟩;cbv;have ptg:∀ g:A0n os p sn,True:=λ_=>trivial;by_cases g:A0n os p sn
 ·refine ⟨p,os,sn,rfl,hp,hp5,by lia,λ_=>?_,λn=>absurd g n⟩;have hl:=g.len;cbv;refine ⟨os,p,sn,rfl,hp,by lia,λ_=>⟨trivial,?_⟩,λn=>absurd g n⟩;cbv;refine And.intro ⟨T7 _,T7 _,A1z _⟩ ?_;rw[SeqAt.eqv_refl _ (T7 _)];cbv;rw[show isList (gD (A08 p os (way p sn)))=true from rfl];cbv;refine ⟨os,sn,p,rfl,hl,hp,hp5,?_⟩;cbv;refine And.intro ⟨B1w _,B1w _,B2m _⟩ ?_;rw[C3k];cbv;refine A65 (L:=os) PyData.int PyData.int (λx=>decide (1 < x)) (λx hx es Q' hl q'=>?_) (by lia) ?_
  ·cbv;by_cases h1:1 < x
   ·rw[qr (by simpa using h1)] at q' ⊢;cbv;exact q'
   ·rw[qs (by simpa using h1)] at q' ⊢;exact q'
  cbv;refine A65 (L:=os) PyData.int PyData.int (λx=>x==0) (λx hx es Q' hl q'=>?_) (by lia) ?_
  ·cbv;by_cases h1:x=0
   ·rw[qr (by simpa using h1)] at q' ⊢;cbv;exact q'
   ·rw[qs (by simpa using h1)] at q' ⊢;exact q'
  cbv;rw[A2m rfl,nil_append,D1r,qk];cbv;refine ⟨_,rfl,by have:=(N4 p p λi j=>M72.tur p (gv os) (way p sn) i j+MDet.idm i j).1;unfold A08;lia,?_⟩;cbv;refine ⟨_,p,rfl,D29 ho hp hp5,λC hC=>?_⟩;have eC:=D39 g hp hC;rw[show B53 p C=os.filter λx=>decide (1 < x) from by unfold B53;rw[eC],eC];cbv;refine And.intro ⟨C0e,C0e,D7o⟩ ?_;rw[SeqAt.eqv_refl _ C0e];cbv;refine ⟨_,rfl,by have:=(N4 p p λi j=>M72.tur p (gv os) (way p sn) i j+MDet.idm i j).1;unfold A08;lia,?_⟩;cbv;refine ⟨_,p,rfl,N4 _ _ _,by lia,D5y ho,?_⟩;rw[C88 g hp];cbv;rw[beq_self_eq_true];cbv;sleep 19;cbv;have tl:(A08 p os (way p sn)).length=p:=(N4 p p _).1;refine ⟨0,0,((List.range p).map λj=>M72.tur p (gv os) (way p sn) 0 j+MDet.idm 0 j).map PyData.int,rfl,J6 (j:=0) (by rw[qk,tl];lia),by rw[qp];unfold A08 N1;rw[K7 _ (by lia)];rfl,?_⟩;cbv;refine ⟨0,0,rfl,J6 (j:=0) (by simp;lia),?_⟩;cbv;refine B7x rfl (by simp[tl];lia) ?_;cbv;refine ⟨p,os,sn,rfl,hp,hp5,by lia,λ_=>?_,λn=>absurd g n⟩;cbv;refine ⟨os,sn,p,rfl,hl,hp,hp5,?_⟩;cbv;refine And.intro ⟨B1w _,B1w _,B2m _⟩ ?_;rw[C3k];cbv;rw[qr (show id true=true from rfl)];cbv;refine And.intro ⟨T7 _,T7 _,A1z _⟩ ?_;rw[SeqAt.eqv_refl _ (T7 _)];exact q _
 ·refine ⟨p,os,sn,rfl,hp,hp5,by lia,λn=>absurd n g,λ_=>?_⟩;refine ⟨fitT,⟨_,C_NoTable⟩,exkT,λea=>?_⟩;cbv;refine ⟨true,i_a,?_⟩;cbv;refine ⟨os,p,sn,rfl,hp,by lia,λz=>absurd z g,λ_=>?_⟩;cbv;rw[qr trivial];cbv;refine And.intro ⟨T7 _,T7 _,A1z _⟩ ?_;rw[SeqAt.eqv_refl _ (T7 _)];exact q _
end
theorem E2w (us:List Value) (h:us.length=0):us=[]:=List.eq_nil_of_length_eq_zero h
theorem D8q (us:List Value) (h:us.length=1):∃ a0,us=[a0]:=by
 cases us with
 | nil=>exact absurd h.symm (Nat.succ_ne_zero _)
 | cons a r =>
  have e:=E2w r (Nat.succ.inj h);subst e;exact ⟨a,rfl⟩
theorem D76 (us:List Value) (h:us.length=2):∃ a0 a1,us=[a0,a1]:=by
 cases us with
 | nil=>exact absurd h.symm (Nat.succ_ne_zero _)
 | cons a r =>
  obtain ⟨a1,e⟩:=D8q r (Nat.succ.inj h);subst e;exact ⟨a,a1,rfl⟩
theorem D6d (us:List Value) (h:us.length=3):∃ a0 a1 a2,us=[a0,a1,a2]:=by
 cases us with
 | nil=>exact absurd h.symm (Nat.succ_ne_zero _)
 | cons a r =>
  obtain ⟨a1,a2,e⟩:=D76 r (Nat.succ.inj h);subst e;exact ⟨a,a1,a2,rfl⟩
theorem D6v (us:List Value) (h:us.length=4):∃ a0 a1 a2 a3,us=[a0,a1,a2,a3]:=by
 cases us with
 | nil=>exact absurd h.symm (Nat.succ_ne_zero _)
 | cons a r =>
  obtain ⟨a1,a2,a3,e⟩:=D6d r (Nat.succ.inj h);subst e;exact ⟨a,a1,a2,a3,rfl⟩
theorem E2f (us:List Value) (h:us.length=5):∃ a0 a1 a2 a3 a4,us=[a0,a1,a2,a3,a4]:=by
 cases us with
 | nil=>exact absurd h.symm (Nat.succ_ne_zero _)
 | cons a r =>
  obtain ⟨a1,a2,a3,a4,e⟩:=D6v r (Nat.succ.inj h);subst e;exact ⟨a,a1,a2,a3,a4,rfl⟩
theorem A0m (h:∀ a0,C [a0]) (us:List Value) (hl:us.length=1):C us:=by
 obtain ⟨a0,e⟩:=D8q us hl;subst e;exact h _
theorem A1g (h:∀ a0 a1,C [a0,a1]) (us:List Value) (hl:us.length=2):C us:=by
 obtain ⟨a0,a1,e⟩:=D76 us hl;subst e;exact h _ _
theorem A70 (h:∀ a0 a1 a2,C [a0,a1,a2]) (us:List Value) (hl:us.length=3):C us:=by
 obtain ⟨a0,a1,a2,e⟩:=D6d us hl;subst e;exact h _ _ _
theorem D9o (h:∀ a0 a1 a2 a3,C [a0,a1,a2,a3]) (us:List Value) (hl:us.length=4):C us:=by
 obtain ⟨a0,a1,a2,a3,e⟩:=D6v us hl;subst e;exact h _ _ _ _
theorem D6u (h:∀ a0 a1 a2 a3 a4,C [a0,a1,a2,a3,a4]) (us:List Value) (hl:us.length=5):C us:=by
 obtain ⟨a0,a1,a2,a3,a4,e⟩:=E2f us hl;subst e;exact h _ _ _ _ _
structure Fq (K:W.Frag) (n:Str) (st:Stmt) (f:Addr):Prop where
 a:W.nsIn K mainGlobals n=some (some (.ref f))
 k:W.keepIn K (.ref f)=true
 F:∃ fd,W5 K n n st f fd
theorem fq {n:Str} {an:Option Addr} {kV ct:Value} (a:W.nsIn K mainGlobals n=some (some (.ref f))) (l:K.lookup f=some ⟨oc,od,.func (W.fnOf n n (A0w st) (Q9 st) (B1 st) .none kV doc pm an cdv ct),osl⟩) (c:W.codeIn K cdv n=true) (k:W.keepIn K (.ref f)=true):Fq K n st f:=⟨a,k,_,C4u l c k⟩
theorem Fq.at {n:Str} {h:Heap} (d:Fq K n st f) (X:K.In h) (G:h.Ns mainGlobals mg):mg n=some (.ref f)/\W.keepIn K (.ref f)=true/\∃ fd,W5 K n n st f fd:=⟨W.mg_of X G d.a,d.k,d.F⟩
theorem D0y {w:World} {h:Heap} (X:K.In h) (G:h.Ns mainGlobals mg) (hfa:mg "law"=some (.ref fa))
  {f1 f2 f3 f4 f5 f6 f7 f8 f9 f10 f11 f12 f13 f14 f15 f16 f17 f18 f19 f20 f21 f22 f23 f24 f25 f26 f27 f28 f29 f30 f31 f32 f33:Addr}
  {od34 an34:Option Addr} {sl34:Array (Option Value)} {oc34 kV34 dc34 pm34 cd34 ct34:Value} {f34:Addr}
  (d1:Fq K "common_shares" W1 f1) (d2:Fq K "lead" B4z f2) (d3:Fq K "blended" A4q f3) (d4:Fq K "made_small" A15 f4) (d5:Fq K "plain_grid" A13 f5) (d6:Fq K "flipped" A4u f6) (d7:Fq K "is_diagonal" A0d f7) (d8:Fq K "put_in" A7l f8) (d9:Fq K "tidy" B4q f9) (d10:Fq K "staired" A50 f10) (d11:Fq K "chain_pair" A0x f11) (d12:Fq K "chain_corners" W2 f12) (d13:Fq K "corner_form" V6 f13) (d14:Fq K "require_one_shape" R8 f14) (d15:Fq K "taken_off" A1m f15) (d16:Fq K "less_grid" A1t f16) (d17:Fq K "corners_of" A0t f17) (d18:Fq K "group_of" A3m f18) (d19:Fq K "copied" A7k f19) (d20:Fq K "require_square" U5 f20) (d21:Fq K "bareiss_row" A0e f21) (d22:Fq K "square_determinant" Q0 f22) (d23:Fq K "determinant" A05 f23) (d24:Fq K "sign_of" A4x f24) (d25:Fq K "added" B25 f25) (d26:Fq K "require_orders" V4 f26) (d27:Fq K "plain_table" A0c f27) (d28:Fq K "_law_cell_at" A24 f28) (d29:Fq K "_law_big" B0k f29) (d30:Fq K "_law_copy" A6x f30) (d31:Fq K "_law_plain_table" W0 f31) (d32:Fq K "_law_orders" A3i f32) (d33:Fq K "_law_good" A1n f33)
  (a34:W.nsIn K mainGlobals "law"=some (some (.ref f34))) (l34:K.lookup f34=some ⟨oc34,od34,.func (W.fnOf "law" "law" (A0w A4l) (Q9 A4l) (B1 A4l) .none kV34 dc34 pm34 an34 cd34 ct34),sl34⟩) (c34:W.codeIn K cd34 "law"=true) (k34:W.keepIn K (.ref f34)=true)
  
  (x_RowError:W.nsIn K mainGlobals "RowError"=some (some (.ref cE0))) (y_RowError:W.excIn K cE0 bmV "ValueError.__new__"=true) (x_NoGrid:W.nsIn K mainGlobals "NoGrid"=some (some (.ref cG))) (y_NoGrid:W.excIn K cG bmV "ValueError.__new__"=true) (x_NoTable:W.nsIn K mainGlobals "NoTable"=some (some (.ref cT))) (y_NoTable:W.excIn K cT bmV "ValueError.__new__"=true) (u_fitT:W.kitCls K (.ref cT) (.ref cE0)=some true) (v_fitT:W.subIn K (.ref cE0) (.type "BaseException")=some true) (i_gaNoTable:W.findIn K (.ref cT) "__getattribute__"=some (some (.builtin "BaseException.__getattribute__"))) (i_clNoTable:W.findIn K (.ref cT) "__class__"=some (some (.builtin "object.__class__"))) (i_ggNoTable:W.findIn K (.ref cT) "__getattr__"=some none) (i_obNoTable:W.subIn K (.ref cT) (.type "object")=some true) (i_beNoTable:W.subIn K (.ref cT) (.type "BaseException")=some true) (i_seNoTable:W.kitCls K (.ref cT) (.ref cT)=some true) (i_a:W.kitOne K (.ref cT) (.ref cT)=some true) (ht:l.prog.given.tree=none)
  (z_len:W.nsIn K mainGlobals "len"=some none) (z_range:W.nsIn K mainGlobals "range"=some none) (z_list:W.nsIn K mainGlobals "list"=some none) (z_isinstance:W.nsIn K mainGlobals "isinstance"=some none) (z_all:W.nsIn K mainGlobals "all"=some none) (z_zip:W.nsIn K mainGlobals "zip"=some none) (z_enumerate:W.nsIn K mainGlobals "enumerate"=some none) (z_reversed:W.nsIn K mainGlobals "reversed"=some none) (z_min:W.nsIn K mainGlobals "min"=some none) (z_max:W.nsIn K mainGlobals "max"=some none) (z_any:W.nsIn K mainGlobals "any"=some none) :
  ∃ fd:FuncData,(∀ (s:Shared) (v:Value),BindsTo s fd ⟨[v],[]⟩ [("_law_script",v)])/\∀ base:Heap,K.In base->base.Ns mainGlobals mg->J5 l.prog w K mg base CX0 48 fa fd ["_law_script"] (A7v K):=by
 have e:=hfa.symm.trans (W.mg_of X G a34);cases e;have T:Blt mg:=⟨W.mg_none_of X G z_len,W.mg_none_of X G z_range,W.mg_none_of X G z_list,W.mg_none_of X G z_isinstance,W.mg_none_of X G z_all,W.mg_none_of X G z_zip,W.mg_none_of X G z_enumerate,W.mg_none_of X G z_reversed,W.mg_none_of X G z_min,W.mg_none_of X G z_max,W.mg_none_of X G z_any⟩;obtain ⟨m1,k1,_,F1⟩:=d1.at X G;have b1:=F1.binds (ps:=["one","other"]) λ_ _ _ _ _ _=>A1g λ_ _=>rfl;obtain ⟨m2,k2,_,F2⟩:=d2.at X G;have b2:=F2.binds (ps:=["row","width"]) λ_ _ _ _ _ _=>A1g λ_ _=>rfl;obtain ⟨m3,k3,_,F3⟩:=d3.at X G;have b3:=F3.binds (ps:=["one","s","other","t"]) λ_ _ _ _ _ _=>D9o λ_ _ _ _=>rfl;obtain ⟨m4,k4,_,F4⟩:=d4.at X G;have b4:=F4.binds (ps:=["row","stairs","width"]) λ_ _ _ _ _ _=>A70 λ_ _ _=>rfl;obtain ⟨m5,k5,_,F5⟩:=d5.at X G;have b5:=F5.binds (ps:=["n"]) λ_ _ _ _ _ _=>A0m λ_=>rfl;obtain ⟨m6,k6,_,F6⟩:=d6.at X G;have b6:=F6.binds (ps:=["grid"]) λ_ _ _ _ _ _=>A0m λ_=>rfl;obtain ⟨m7,k7,_,F7⟩:=d7.at X G;have b7:=F7.binds (ps:=["grid"]) λ_ _ _ _ _ _=>A0m λ_=>rfl;obtain ⟨m8,k8,_,F8⟩:=d8.at X G;have b8:=F8.binds (ps:=["stairs","row","width"]) λ_ _ _ _ _ _=>A70 λ_ _ _=>rfl;obtain ⟨m9,k9,_,F9⟩:=d9.at X G;have b9:=F9.binds (ps:=["stairs","width"]) λ_ _ _ _ _ _=>A1g λ_ _=>rfl;obtain ⟨m10,k10,_,F10⟩:=d10.at X G;have b10:=F10.binds (ps:=["grid","beside"]) λ_ _ _ _ _ _=>A1g λ_ _=>rfl;obtain ⟨m11,k11,_,F11⟩:=d11.at X G;have b11:=F11.binds (ps:=["middle","left","turned_right","i","j"]) λ_ _ _ _ _ _=>D6u λ_ _ _ _ _=>rfl;obtain ⟨m12,k12,_,F12⟩:=d12.at X G;have b12:=F12.binds (ps:=["middle","left","turned_right"]) λ_ _ _ _ _ _=>A70 λ_ _ _=>rfl;obtain ⟨m13,k13,_,F13⟩:=d13.at X G;have b13:=F13.binds (ps:=["grid"]) λ_ _ _ _ _ _=>A0m λ_=>rfl;obtain ⟨m14,k14,_,F14⟩:=d14.at X G;have b14:=F14.binds (ps:=["one","other"]) λ_ _ _ _ _ _=>A1g λ_ _=>rfl;obtain ⟨m15,k15,_,F15⟩:=d15.at X G;have b15:=F15.binds (ps:=["one","other"]) λ_ _ _ _ _ _=>A1g λ_ _=>rfl;obtain ⟨m16,k16,_,F16⟩:=d16.at X G;have b16:=F16.binds (ps:=["table"]) λ_ _ _ _ _ _=>A0m λ_=>rfl;obtain ⟨m17,k17,_,F17⟩:=d17.at X G;have b17:=F17.binds (ps:=["table"]) λ_ _ _ _ _ _=>A0m λ_=>rfl;obtain ⟨m18,k18,_,F18⟩:=d18.at X G;have b18:=F18.binds (ps:=["table"]) λ_ _ _ _ _ _=>A0m λ_=>rfl;obtain ⟨m19,k19,_,F19⟩:=d19.at X G;have b19:=F19.binds (ps:=["grid"]) λ_ _ _ _ _ _=>A0m λ_=>rfl;obtain ⟨m20,k20,_,F20⟩:=d20.at X G;have b20:=F20.binds (ps:=["grid"]) λ_ _ _ _ _ _=>A0m λ_=>rfl;obtain ⟨m21,k21,_,F21⟩:=d21.at X G;have b21:=F21.binds (ps:=["top","row","ahead"]) λ_ _ _ _ _ _=>A70 λ_ _ _=>rfl;obtain ⟨m22,k22,_,F22⟩:=d22.at X G;have b22:=F22.binds (ps:=["grid"]) λ_ _ _ _ _ _=>A0m λ_=>rfl;obtain ⟨m23,k23,_,F23⟩:=d23.at X G;have b23:=F23.binds (ps:=["grid"]) λ_ _ _ _ _ _=>A0m λ_=>rfl;obtain ⟨m24,k24,_,F24⟩:=d24.at X G;have b24:=F24.binds (ps:=["table"]) λ_ _ _ _ _ _=>A0m λ_=>rfl;obtain ⟨m25,k25,_,F25⟩:=d25.at X G;have b25:=F25.binds (ps:=["one","other"]) λ_ _ _ _ _ _=>A1g λ_ _=>rfl;obtain ⟨m26,k26,_,F26⟩:=d26.at X G;have b26:=F26.binds (ps:=["places","orders","sign"]) λ_ _ _ _ _ _=>A70 λ_ _ _=>rfl;obtain ⟨m27,k27,_,F27⟩:=d27.at X G;have b27:=F27.binds (ps:=["places","orders","sign"]) λ_ _ _ _ _ _=>A70 λ_ _ _=>rfl;obtain ⟨m28,k28,_,F28⟩:=d28.at X G;have b28:=F28.binds (ps:=["_law_script","_law_k"]) λ_ _ _ _ _ _=>A1g λ_ _=>rfl;obtain ⟨m29,k29,_,F29⟩:=d29.at X G;have b29:=F29.binds (ps:=["_law_script","_law_at"]) λ_ _ _ _ _ _=>A1g λ_ _=>rfl;obtain ⟨m30,k30,_,F30⟩:=d30.at X G;have b30:=F30.binds (ps:=["_law_grid"]) λ_ _ _ _ _ _=>A0m λ_=>rfl;obtain ⟨m31,k31,_,F31⟩:=d31.at X G;have b31:=F31.binds (ps:=["_law_orders_here","_law_way"]) λ_ _ _ _ _ _=>A1g λ_ _=>rfl;obtain ⟨m32,k32,_,F32⟩:=d32.at X G;have b32:=F32.binds (ps:=["_law_big_here","_law_places"]) λ_ _ _ _ _ _=>A1g λ_ _=>rfl;obtain ⟨m33,k33,_,F33⟩:=d33.at X G;have b33:=F33.binds (ps:=["_law_orders_here","_law_places","_law_way"]) λ_ _ _ _ _ _=>A70 λ_ _ _=>rfl;have F34:=C4u (st:=A4l) l34 c34 k34;refine ⟨W.fnOf "law" "law" (A0w A4l) (Q9 A4l) (B1 A4l) .none kV34 dc34 pm34 an34 cd34 ct34,λs v=>.of_eq rfl,λbase _ _=>?_⟩;have C_RowError:ExC K mg "RowError" cE0:=⟨W.mg_of X G x_RowError,y_RowError⟩;have C_NoGrid:ExC K mg "NoGrid" cG:=⟨W.mg_of X G x_NoGrid,y_NoGrid⟩;have C_NoTable:ExC K mg "NoTable" cT:=⟨W.mg_of X G x_NoTable,y_NoTable⟩;have fitT:B5q K cT cE0:=⟨u_fitT,v_fitT⟩;have fitK_NoTable:ExK K cT:=⟨i_gaNoTable,i_clNoTable,i_ggNoTable,i_obNoTable,i_beNoTable,i_seNoTable⟩;have D_common_shares:Df l.prog w K mg base "common_shares" ["one","other"] 41 (DL.G3 K A8k):=⟨_,_,A52 F1 T ht,m1,k1,b1⟩;have D_lead:Df l.prog w K mg base "lead" ["row","width"] 41 (DL.G3 K A49):=⟨_,_,C7q F2 T ,m2,k2,b2⟩;have D_blended:Df l.prog w K mg base "blended" ["one","s","other","t"] 41 (DL.G3 K A3a):=⟨_,_,B4p F3 T ,m3,k3,b3⟩;have D_made_small:Df l.prog w K mg base "made_small" ["row","stairs","width"] 42 (DL.G3 K A8l):=⟨_,_,A8u F4 T ht D_lead D_blended,m4,k4,b4⟩;have D_plain_grid:Df l.prog w K mg base "plain_grid" ["n"] 1 (DL.G3 K Y2):=⟨_,_,A8q F5 T ,m5,k5,b5⟩;have D_flipped:Df l.prog w K mg base "flipped" ["grid"] 1 (DL.G3 K A2e):=⟨_,_,B5i F6 T ,m6,k6,b6⟩;have D_is_diagonal:Df l.prog w K mg base "is_diagonal" ["grid"] 1 (DL.G3 K A25):=⟨_,_,A85 F7 T ,m7,k7,b7⟩;have D_put_in:Df l.prog w K mg base "put_in" ["stairs","row","width"] 43 (A8j):=⟨_,_,B86 F8 T ht D_lead D_blended D_made_small D_common_shares,m8,k8,b8⟩;have D_tidy:Df l.prog w K mg base "tidy" ["stairs","width"] 43 (A6n):=⟨_,_,C86 F9 T D_made_small,m9,k9,b9⟩;have D_staired:Df l.prog w K mg base "staired" ["grid","beside"] 44 (Y4 (K:=K)):=⟨_,_,B4x F10 T D_put_in D_tidy,m10,k10,b10⟩;have D_chain_pair:Df l.prog w K mg base "chain_pair" ["middle","left","turned_right","i","j"] 42 (B1l):=⟨_,_,A8w F11 T ht D_blended D_common_shares,m11,k11,b11⟩;have D_chain_corners:Df l.prog w K mg base "chain_corners" ["middle","left","turned_right"] 43 (A4a):=⟨_,_,A4v F12 T ht D_chain_pair,m12,k12,b12⟩;have D_corner_form:Df l.prog w K mg base "corner_form" ["grid"] 45 (DL.G3 K A8d):=⟨_,_,A5y F13 T D_plain_grid D_flipped D_is_diagonal D_staired D_chain_corners,m13,k13,b13⟩;have D_require_one_shape:DfE l.prog w K mg base "require_one_shape" ["one","other"] 1 (DL.G3 K A4i):=⟨_,_,A1j F14 T C_NoGrid,m14,k14,b14⟩;have D_taken_off:DfE l.prog w K mg base "taken_off" ["one","other"] 2 (DL.G3 K B48):=⟨_,_,B1f F15 T D_require_one_shape,m15,k15,b15⟩;have D_less_grid:DfE l.prog w K mg base "less_grid" ["table"] 3 (DL.G3 K A6f):=⟨_,_,B0x F16 T D_plain_grid D_taken_off,m16,k16,b16⟩;have D_corners_of:Df l.prog w K mg base "corners_of" ["table"] 46 (DL.G3 K B4c):=⟨_,_,A8s F17 T D_corner_form D_less_grid,m17,k17,b17⟩;have D_group_of:Df l.prog w K mg base "group_of" ["table"] 47 (DL.G3 K B4b):=⟨_,_,B29 F18 T D_corners_of,m18,k18,b18⟩;have D_copied:Df l.prog w K mg base "copied" ["grid"] 1 (DL.G3 K A2d):=⟨_,_,B8q F19 T ,m19,k19,b19⟩;have D_require_square:DfE l.prog w K mg base "require_square" ["grid"] 1 (DL.G3 K (B4f cG)):=⟨_,_,A3w F20 T C_NoGrid,m20,k20,b20⟩;have D_bareiss_row:Df l.prog w K mg base "bareiss_row" ["top","row","ahead"] 1 (DL.G3 K A6k):=⟨_,_,A7i F21 T ,m21,k21,b21⟩;have D_square_determinant:Df l.prog w K mg base "square_determinant" ["grid"] 2 (DL.G3 K C4e):=⟨_,_,A1e F22 T D_copied D_bareiss_row,m22,k22,b22⟩;have D_determinant:DfE l.prog w K mg base "determinant" ["grid"] 3 (DL.G3 K (B1s cG)):=⟨_,_,A81 F23 T D_require_square D_square_determinant,m23,k23,b23⟩;have D_sign_of:DfE l.prog w K mg base "sign_of" ["table"] 4 (DL.G3 K B0h):=⟨_,_,B51 F24 T D_determinant D_less_grid,m24,k24,b24⟩;have D_added:DfE l.prog w K mg base "added" ["one","other"] 2 (DL.G3 K B4g):=⟨_,_,C2c F25 T D_require_one_shape,m25,k25,b25⟩;have D_require_orders:DfE l.prog w K mg base "require_orders" ["places","orders","sign"] 1 (DL.G3 K (C3q cT)):=⟨_,_,A4j F26 T C_NoTable,m26,k26,b26⟩;have D_plain_table:DfE l.prog w K mg base "plain_table" ["places","orders","sign"] 3 (DL.G3 K (C10 cT)):=⟨_,_,A8i F27 T D_require_orders D_plain_grid D_added,m27,k27,b27⟩;have D_l_cell_at:Df l.prog w K mg base "_law_cell_at" ["_law_script","_law_k"] 1 (DL.G3 K B0d):=⟨_,_,B08 F28 T ,m28,k28,b28⟩;have D_l_big:Df l.prog w K mg base "_law_big" ["_law_script","_law_at"] 2 (DL.G3 K B4d):=⟨_,_,C41 F29 T D_l_cell_at,m29,k29,b29⟩;have D_l_copy:Df l.prog w K mg base "_law_copy" ["_law_grid"] 1 (DL.G3 K A2d):=⟨_,_,B8d F30 T ,m30,k30,b30⟩;have D_l_plain_table:Df l.prog w K mg base "_law_plain_table" ["_law_orders_here","_law_way"] 1 (DL.G3 K B5s):=⟨_,_,A4z F31 T ,m31,k31,b31⟩;have D_l_orders:Df l.prog w K mg base "_law_orders" ["_law_big_here","_law_places"] 1 (DL.G3 K B4o):=⟨_,_,B3q F32 T ,m32,k32,b32⟩;have D_l_good:Df l.prog w K mg base "_law_good" ["_law_orders_here","_law_places","_law_way"] 1 (DL.G3 K (A3t True)):=⟨_,_,B9k F33 T ,m33,k33,b33⟩;have D_l_goodH:DL.DfH l.prog w K mg base "_law_good" ["_law_orders_here","_law_places","_law_way"] 1 (DL.G3 K (A3t False)):=⟨_,_,B4j F33 T ,m33,k33,b33⟩;exact D3j F34 T C_RowError C_NoTable fitT fitK_NoTable i_a D_l_big D_l_copy D_l_plain_table D_l_orders D_l_good D_l_goodH D_plain_table D_group_of D_sign_of
theorem E2e {q:Program} {d:DefRec} {K:Params->W.Frag} (hn:l.most=some 63) (hdf:d.params.defaults=[]) (hi:importsNone q=true)
  (hY:∀ (w:World) (h:Heap),YP w h->(K w.params).In h)
  (F:∀ (w:World) (mg:Str->Option Value) (fa:Addr) (h:Heap),(K w.params).In h->h.Ns mainGlobals mg->mg d.name=some (.ref fa) ->
   ∃ fd:FuncData,(∀ (s:Shared) (u:Value),BindsTo s fd ⟨[u],[]⟩ [("_law_script",u)])/\∀ base:Heap,(K w.params).In base->base.Ns mainGlobals mg->J5 l.prog w (K w.params) mg base CX0 48 fa fd ["_law_script"] (A7v (K w.params))) :
  W.WalkO q loose XP YP l.row.toRowW d [] (λf vs=>PySem.call f vs) :=
 L2.C8i (n:=63) (k:=48) (x:="_law_script") (CX:=λ_=>CX0) (sp:=λw=>A7v (K w.params)) hn (by decide) hdf ⟨rfl,by decide,by decide,rfl⟩ hi hY F (λ_ _ a ns hl _ hS=>⟨a,ns,rfl,hS,λ_=>rfl⟩) λ_ _ _ _ _ z=>z
end K72
namespace PySem.W.Fast
def tw6128309273604812824:=Nat
def tw15435462827092900433:=Nat
def tw10660322478412383500:=Nat
def tw8887357090837319214:=Nat
def tw3648038747199391171:=Nat
def tw9757862861462781600:=Nat
def tw9757709174748545238:=Nat
def tw9840690966385454859:=Nat
def tw3348193680094954777:=Nat
def tw3982361155258576477:=Nat
def tw5628832143701769069:=Nat
def tw634566330813693922:=Nat
def tw13462487944907392844:=Nat
def tw12574228736557333949:=Nat
def tw14796427032931187140:=Nat
def tw10487908248933125662:=Nat
def tw16494688277741516187:=Nat
def tw13705298500973792278:=Nat
def tw10279581550010879489:=Nat
def tw1965209343224379219:=Nat
def tw13348472318530624641:=Nat
def tw1139487222237067623:=Nat
def tw16961487191755331482:=Nat
def tw11999379483292926214:=Nat
def tw2428887547776343496:=Nat
def tw12930214391059643361:=Nat
def tw1537621895816595587:=Nat
def tw4316409443534044567:=Nat
def tw3942498199726674670:=Nat
def tw4268998257283608370:=Nat
def tw4880038416119478563:=Nat
def tw15168843191237184864:=Nat
def tw6030805621184755789:=Nat
def tw1640398521445370637:=Nat
def tw4187056970958367271:=Nat
def tw2518564326566607756:=Nat
def tw6168592331519102624:=Nat
def tw9760564539597931449:=Nat
def tw14741481417581401655:=Nat
def tw3101265027437496321:=Nat
def tw4646964181593645468:=Nat
def tw11888984131068788620:=Nat
def tw892040795862463359:=Nat
def tw6115902240835013256:=Nat
def tw15518444300178900346:=Nat
def tw5037387301746891938:=Nat
def tw4974230637929617363:=Nat
def tw15187313584611061788:=Nat
def tw941733802121315220:=Nat
def tw13617529636265387138:=Nat
def tw686919082595492688:=Nat
def tw14883120102037320940:=Nat
def tw17523765582222306941:=Nat
def tw12634864210662192822:=Nat
def tw9497433623391885608:=Nat
def tw3617551515315297651:=Nat
def tw2726122111720530773:=Nat
def tw7524183093960594786:=Nat
def tw2665980103032356615:=Nat
def tw533398105895917436:=Nat
def tw10466494103569614613:=Nat
def tw2980953086336637436:=Nat
def tw1241378225896797340:=Nat
def tw11338759725005442716:=Nat
def tw11829388150833289466:=Nat
def tw17755389608157185537:=Nat
def tw16290363645957080043:=Nat
def tw12045545778219050147:=Nat
def tw14500778804952938258:=Nat
def tw11711492801360291146:=Nat
def tw9869818668971938850:=Nat
def tw531863195979089959:=Nat
def tw6101490721759266050:=Nat
def tw2511039067614265551:=Nat
def tw13948536596900900737:=Nat
def tw455546779626066050:=Nat
def tw4261399167382029818:=Nat
def tw14023429727415927594:=Nat
def tw14453292327532591571:=Nat
def tw2517348058012274145:=Nat
def tw12522836327934321670:=Nat
def tw2263603654300551756:=Nat
def tw5807698982388356016:=Nat
def tw14772098795268774742:=Nat
def tw5466429202765436126:=Nat
def tw12465726008371133103:=Nat
def tw3531735403383001061:=Nat
def tw8135565872254335259:=Nat
def tw13552185797344517331:=Nat
def tw6273315400330870480:=Nat
def tw11862060787577634296:=Nat
def tw3800829037621441003:=Nat
def tw3453377836034312024:=Nat
def tw8316268675879015345:=Nat
def tw6855759273456966617:=Nat
def tw17702246075007419183:=Nat
def tw18205773440813310754:=Nat
def tw17200828631296657859:=Nat
def tw7661996187158397657:=Nat
def tw4499279978453443724:=Nat
def tw8084530140282376313:=Nat
def tw17514820130065825227:=Nat
def tw513656299008510315:=Nat
def tw12317459959836110370:=Nat
def tw16090487769297194186:=Nat
def tw3775594710750213723:=Nat
def tw8844426431597068791:=Nat
def tw7327739273032349026:=Nat
def tw3534530686518071117:=Nat
def tw1120315664377194853:=Nat
def tw18110659250863215684:=Nat
def tw4851150191393313237:=Nat
def tw1256683592069883420:=Nat
def tw1520940928863455134:=Nat
def tw2801548467809180712:=Nat
def tw4592671519076886325:=Nat
def tw14909005623454585821:=Nat
def tw12255671593418628513:=Nat
def tw16799284901192070112:=Nat
def tw11982254259608143061:=Nat
def tw3847566713588658906:=Nat
def tw15838602043190149729:=Nat
def tw3821313884318457156:=Nat
def tw13220425288345034377:=Nat
def tw15182024325071383588:=Nat
def tw10279841693194884983:=Nat
def tw1031955841444026311:=Nat
def tw15853850683907401675:=Nat
def tw11664353590241005994:=Nat
def tw11500947339166870555:=Nat
def tw8828530744363664545:=Nat
def tw2253692489460562899:=Nat
def tw5696310530635438327:=Nat
def tw15950684604701703993:=Nat
def tw3041032434805246124:=Nat
def tw9869290103563426592:=Nat
def tw6867618425133316600:=Nat
def tw16755286313194628393:=Nat
def tw4458776040179858652:=Nat
def tw1483999934934202433:=Nat
def tw3401758802002048644:=Nat
def tw6291961479526780443:=Nat
def tw3048560497437168115:=Nat
def tw8024972911570702987:=Nat
def tw6790916855023139089:=Nat
def tw7006711640788722992:=Nat
def tw9362952142007742849:=Nat
def tw14533760873854888921:=Nat
def tw16122554193111111098:=Nat
def tw14491256626171564458:=Nat
def tw8933287367169152708:=Nat
def tw506235901062561814:=Nat
def tw14857715507966420357:=Nat
def tw15565364926120576246:=Nat
def tw14614607162350097487:=Nat
def tw4596845875394397685:=Nat
def tw17267048483521722350:=Nat
def tw3735997694838849305:=Nat
def tw7927020766115879819:=Nat
def tw6861208557746186138:=Nat
def tw14306123791499313075:=Nat
def tw12206257701464817090:=Nat
def tw1273879611948117448:=Nat
def tw11548424175462666847:=Nat
def tw15053285391624578484:=Nat
def tw6348058493025526433:=Nat
def tw16906251331617880965:=Nat
def tw16009460672738813264:=Nat
def tw13982846581559420464:=Nat
def tw13018949871110699190:=Nat
def tw9569923136280505543:=Nat
def tw5832392843942037399:=Nat
def tw8556111542425153253:=Nat
def tw14597538801186647296:=Nat
def tw2912251386576132071:=Nat
def tw2904203715348928563:=Nat
def tw17117823181360151245:=Nat
def tw5348604983137877185:=Nat
def tw4617877481705415853:=Nat
def tw2152927939000636102:=Nat
def tw13924991171329364936:=Nat
def tw3574830230588434348:=Nat
def tw489172088119798422:=Nat
def tw16409947960467594199:=Nat
def tw10098213990338066087:=Nat
def tw7854819617639182303:=Nat
def tw7323847626728564824:=Nat
def tw15756847678126136554:=Nat
def tw4920659123327523555:=Nat
def tw5596679526576906831:=Nat
def tw8319411511790755964:=Nat
def tw2646803515319145576:=Nat
def tw628986449596014833:=Nat
def tw17608084549670611630:=Nat
def tw5596499315368790518:=Nat
def tw17019089579987763452:=Nat
def tw8699389524619015346:=Nat
def tw5916160803020810235:=Nat
def tw3401664904419889135:=Nat
def tw3612926236192626499:=Nat
def tw9026737435987090014:=Nat
def tw13776284477354364433:=Nat
def tw14721684050149752000:=Nat
def tw4742089148325165184:=Nat
def tw13871710225573586228:=Nat
def tw5437695347804483040:=Nat
def tw13927884479086300885:=Nat
def tw16328538435720516618:=Nat
def tw12853946832794736651:=Nat
def tw12441227374390338093:=Nat
def tw10670478346119425965:=Nat
def tw7161625664200267874:=Nat
def tw9985259761788656841:=Nat
def tw3378900141128424960:=Nat
def tw14919403384081623306:=Nat
def tw1224841674198395927:=Nat
def tw1407211363663831829:=Nat
def tw12572397368236684441:=Nat
def tw565763066294667060:=Nat
def tw7626063857605408474:=Nat
def tw9883987461532198492:=Nat
def tw7757718963966139154:=Nat
def tw9392821390240377024:=Nat
def tw9202679291629186580:=Nat
def tw9975375885403626493:=Nat
def tw7072534200510373890:=Nat
def tw16141485662826270185:=Nat
def tw4692910364897355030:=Nat
def tw3219607565673898263:=Nat
end PySem.W.Fast
open PySem PySem.W PyProof.Rows
local macro_rules | `(tactic| walk_at "f") => `(tactic| (refine' K72.fq ?a ?l ?c ?k; (case a => k_is); (case l => k_is); (case c => k_is); (case k => k_is)))
set_option maxRecDepth 100000 in
set_option maxHeartbeats 0 in
theorem PySem.Challenge.cw_foreverrows_k72_plain_tables_holds : PySem.Challenge.rw_foreverrows_k72_plain_tables.Holds := by
 w_on;o_law;k_head;(case hw=>w_witness2)
 k_fill
 refine K72.E2e (l := PySem.Challenge.rw_foreverrows_k72_plain_tables) rfl rfl (by decide +kernel) (λw h Y => PySem.W.kIn_of Y) ?F
 case F =>
  intro w mg fa h KX G hmg
  refine' K72.D0y KX G hmg ?d1 ?d2 ?d3 ?d4 ?d5 ?d6 ?d7 ?d8 ?d9 ?d10 ?d11 ?d12 ?d13 ?d14 ?d15 ?d16 ?d17 ?d18 ?d19 ?d20 ?d21 ?d22 ?d23 ?d24 ?d25 ?d26 ?d27 ?d28 ?d29 ?d30 ?d31 ?d32 ?d33 ?a34 ?l34 ?c34 ?k34 ?x_RowError ?y_RowError ?x_NoGrid ?y_NoGrid ?x_NoTable ?y_NoTable ?u_fitT ?v_fitT ?i_gaNoTable ?i_clNoTable ?i_ggNoTable ?i_obNoTable ?i_beNoTable ?i_seNoTable ?i_a ?ht ?z_len ?z_range ?z_list ?z_isinstance ?z_all ?z_zip ?z_enumerate ?z_reversed ?z_min ?z_max ?z_any
  (case d1=>walk_at "f")
  (case d2=>walk_at "f")
  (case d3=>walk_at "f")
  (case d4=>walk_at "f")
  (case d5=>walk_at "f")
  (case d6=>walk_at "f")
  (case d7=>walk_at "f")
  (case d8=>walk_at "f")
  (case d9=>walk_at "f")
  (case d10=>walk_at "f")
  (case d11=>walk_at "f")
  (case d12=>walk_at "f")
  (case d13=>walk_at "f")
  (case d14=>walk_at "f")
  (case d15=>walk_at "f")
  (case d16=>walk_at "f")
  (case d17=>walk_at "f")
  (case d18=>walk_at "f")
  (case d19=>walk_at "f")
  (case d20=>walk_at "f")
  (case d21=>walk_at "f")
  (case d22=>walk_at "f")
  (case d23=>walk_at "f")
  (case d24=>walk_at "f")
  (case d25=>walk_at "f")
  (case d26=>walk_at "f")
  (case d27=>walk_at "f")
  (case d28=>walk_at "f")
  (case d29=>walk_at "f")
  (case d30=>walk_at "f")
  (case d31=>walk_at "f")
  (case d32=>walk_at "f")
  (case d33=>walk_at "f")
  (case a34=>k_is)
  (case l34=>k_is)
  (case c34=>k_is)
  (case k34=>k_is)
  (case z_len=>k_is)
  (case z_range=>k_is)
  (case z_list=>k_is)
  (case z_isinstance=>k_is)
  (case z_all=>k_is)
  (case z_zip=>k_is)
  (case z_enumerate=>k_is)
  (case z_reversed=>k_is)
  (case z_min=>k_is)
  (case z_max=>k_is)
  (case z_any=>k_is)
  (case x_RowError=>k_is)
  (case y_RowError=>walk_at "g")
  (case x_NoGrid=>k_is)
  (case y_NoGrid=>walk_at "g")
  (case x_NoTable=>k_is)
  (case y_NoTable=>walk_at "g")
  (case u_fitT=>walk_at "g")
  (case v_fitT=>walk_at "g")
  (case i_gaNoTable=>walk_at "g")
  (case i_clNoTable=>walk_at "g")
  (case i_ggNoTable=>walk_at "g")
  (case i_obNoTable=>walk_at "g")
  (case i_beNoTable=>walk_at "g")
  (case i_seNoTable=>walk_at "g")
  (case i_a=>walk_at "g")
  (case ht=>exact rfl)
