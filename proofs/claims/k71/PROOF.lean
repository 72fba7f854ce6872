import PyProof.Rows.All
import Wide.All
import OpenK.AllK
import Wide.FinOn
import Lean
import PyProof.EqAt
import PyProof.EqKinds
import PyProof.TupleCall
import KE.KRevSl
import PyProof.NeData
import PyProof.P3Eq
import PyProof.Rows.Range3
import PyProof.EnumMake
import PyProof.Draws
import PyProof.ZipIter
import KE.KDictList
import KE.KDictSum
import PyProof.WalkInts
import PyProof.Rows.SeqCalls
import PyProof.Rows.SortShell
import PySem.Challenge.RW_rootprime_k71_powers_by_small_primes
set_option Elab.async false
local macro_rules | `(tactic| omega) => `(tactic| lia)
set_option linter.all false
set_option maxRecDepth 100000
namespace L2
open PySem PySem.Spec PyProof.Rows
abbrev Key:=Sum Int Str
def lF:Key->Value->Bool
 | .inl k,v=>Value.isInt k v
 | .inr x,v=>Value.isStrOf x v
def DX (w:World):Key->Int
 | .inl k=>hashInt k
 | .inr x=>hashStr w x
theorem a9:∀{k:Key} {v:Value},lF k v=true->(∃ i t,k=Sum.inl i/\v=Value.int i t)∨(∃ x t,k=Sum.inr x/\v=Value.str x t)
 | .inl i,v,h=>by
  obtain⟨t,e⟩:=Value.isInt_shape (k:=i) (v:=v) h
  exact .inl ⟨i,t,rfl,e⟩
 | .inr x,v,h=>by
  obtain⟨t,e⟩:=Value.isStrOf_shape (x:=x) (v:=v) h
  exact .inr ⟨x,t,rfl,e⟩
theorem tZ (i:Int) (t:Tok):lF (.inl i) (.int i t)=true:=by simp [lF,Value.isInt]
theorem ua (x:Str) (t:Tok):lF (.inr x) (.str x t)=true:=by simp [lF,Value.isStrOf]
theorem Bn (a b:Int):decide ((Sum.inl a:Key)=Sum.inl b)=(a==b):=by
 by_cases e:a=b
 ·subst e;simp
 ·have h:¬(Sum.inl a:Key)=Sum.inl b:=λq=>e (Sum.inl.inj q)
  rw [decide_eq_false h]
  exact (beq_eq_false_iff_ne.mpr e).symm
theorem Bq (a b:Str):decide ((Sum.inr a:Key)=Sum.inr b)=decide (a=b):=by
 by_cases e:a=b
 ·subst e;simp
 ·have h:¬(Sum.inr a:Key)=Sum.inr b:=λq=>e (Sum.inr.inj q)
  rw [decide_eq_false h,decide_eq_false e]
theorem Bo (a:Int) (b:Str):decide ((Sum.inl a:Key)=Sum.inr b)=false:=decide_eq_false (λq=>nomatch q)
theorem Bp (a:Str) (b:Int):decide ((Sum.inr a:Key)=Sum.inl b)=false:=decide_eq_false (λq=>nomatch q)
def bj (prog:Program) (w:World):PySem.KeyKind prog w Key where
 is:=lF
 hash:=DX w
 inj:=λv a b ha hb=>by
  rcases a9 ha with⟨i,t,rfl,rfl⟩|⟨x,t,rfl,rfl⟩
  ·rcases a9 hb with⟨j,u,rfl,e⟩|⟨y,u,rfl,e⟩
   ·injection e with e1 _;rw [e1]
   ·exact nomatch e
  ·rcases a9 hb with⟨j,u,rfl,e⟩|⟨y,u,rfl,e⟩
   ·exact nomatch e
   ·injection e with e1 _;rw [e1]
 byValue:=λk v h=>by
  rcases a9 h with⟨i,t,rfl,rfl⟩|⟨x,t,rfl,rfl⟩<;>rfl
 pyHash:=λhv h=>by
  rcases a9 hv with⟨i,t,rfl,rfl⟩|⟨x,t,rfl,rfl⟩
  ·exact wpAny_pyHash_int h
  ·exact wpAny_pyHash_str h
 eqBool:=λhu hv h=>by
  rcases a9 hu with⟨i,t,rfl,rfl⟩|⟨x,t,rfl,rfl⟩
  ·rcases a9 hv with⟨j,u,rfl,rfl⟩|⟨y,u,rfl,rfl⟩
   ·rw [Bn] at h;exact wpAny_eqBool_int h
   ·rw [Bo] at h;exact SeqAt.EqAt.int_str i t y u _ _ _ _ h
  ·rcases a9 hv with⟨j,u,rfl,rfl⟩|⟨y,u,rfl,rfl⟩
   ·rw [Bp] at h;exact SeqAt.EqAt.str_int x t j u _ _ _ _ h
   ·rw [Bq] at h;exact wpAny_eqBool_str h
 «strs»:=λk x t v h=>by
  rcases a9 h with⟨i,u,rfl,e⟩|⟨y,u,rfl,e⟩
  ·exact nomatch e
  ·injection e with e1 _
   subst e1
   cases v<;>rfl
theorem oG (prog:Program) (w:World) (i:Int) (t:Tok):(bj prog w).is (.inl i) (.int i t)=true:=tZ i t
theorem oH (prog:Program) (w:World) (x:Str) (t:Tok):(bj prog w).is (.inr x) (.str x t)=true:=ua x t
inductive V where
 | non | bl (b:Bool) | int (i:Int) | str (x:Str) | byt (b:Array UInt8) | flt (b:UInt64) | ref (a:Addr) | ty (n:String)
 deriving DecidableEq
def RelV:V->Value->Prop
 | .non,u=>u=Value.none
 | .bl b,u=>u=Value.bool b
 | .int i,u=>∃ t,u=Value.int i t
 | .str x,u=>∃ t,u=Value.str x t
 | .byt b,u=>∃ t,u=Value.bytes b t
 | .flt b,u=>∃ t,u=Value.float b t
 | .ref a,u=>u=Value.ref a
 | .ty n,u=>u=Value.type n
abbrev Vals:List V->List Value->Prop:=Paired RelV
theorem Vals.length {xs:List V} {us:List Value} (r:Vals xs us):xs.length=us.length:=Paired.length r
theorem Vals.get:∀{xs:List V} {us:List Value} {i:Nat} {x:V},Vals xs us->xs[i]?=some x->∃ u,us[i]?=some u/\RelV x u
 | _,_,_,_,.nil,e=>by simp at e
 | _,_,0,_,.cons r _,e=>by simp at e;subst e;exact⟨_,rfl,r⟩
 | _,_,i+1,x,.cons _ t,e=>by
  obtain⟨u,h1,h2⟩:=Vals.get (i:=i) (x:=x) t (by simpa using e)
  exact⟨u,by simpa using h1,h2⟩
theorem Vals.append:∀{xs ys:List V} {us ws:List Value},Vals xs us->Vals ys ws->Vals (xs++ys) (us++ws)
 | _,_,_,_,.nil,s=>s
 | _,_,_,_,.cons r t,s=>.cons r (Vals.append t s)
theorem Vals.take:∀{xs:List V} {us:List Value} (n:Nat),Vals xs us->Vals (xs.take n) (us.take n)
 | _,_,0,_=>.nil
 | _,_,_+1,.nil=>.nil
 | _,_,n+1,.cons r t=>.cons r (Vals.take n t)
theorem Vals.drop:∀{xs:List V} {us:List Value} (n:Nat),Vals xs us->Vals (xs.drop n) (us.drop n)
 | _,_,0,r=>r
 | _,_,_+1,.nil=>.nil
 | _,_,n+1,.cons _ t=>Vals.drop n t
def dS:Option V->Option Value->Prop
 | some v,some u=>RelV v u
 | none,none=>True
 | _,_=>False
def KV {κ:Type}:List (κ × V)->List (κ × Value)->Prop:=Paired fun(p:κ × V) (q:κ × Value)=>p.1=q.1/\RelV p.2 q.2
def kV:Key->V
 | .inl i=>.int i
 | .inr x=>.str x
inductive HO where
  | lst (xs:List V)
  | tup (xs:List V)
  | dK (kvs:List (Key × V)) | dT (kvs:List (List Key × V))
  | set (S:Int->Bool) (n:Nat)
  | ins (C dx:Addr) (fs:List (Str × V))
  | own (x:Addr)
  | xd (fs:List (Str × V))
  | met (f x:Addr)
  | rng (lo hi:Int)
  | frz (o:Obj) (u:HO)
  | tbl (ps:Array Value)
  | ext (φ:Heap->Prop)
abbrev Hp:=Addr->Option HO
def upd (H:Hp) (a:Addr) (o:HO):Hp:=λb=>if b=a then some o else H b
theorem af {H:Hp} {a:Addr} {o:HO}:upd H a o a=some o:=by unfold upd;rw [if_pos rfl]
theorem ao {H:Hp} {a b:Addr} {o:HO} (h:b≠a):upd H a o b=H b:=by unfold upd;rw [if_neg h]
theorem z0 {H:Hp} {a:Addr} {o u:HO}:upd (upd H a o) a u=upd H a u:=by
 funext b;unfold upd;split<;>rfl
theorem jc {H:Hp} {a b:Addr} {o u:HO} (h:H a=some o) (h':H b=some u) (d:o≠u):a≠b:=by
 intro e;subst e;rw [h] at h';exact d (Option.some.inj h')
theorem aW {H:Hp} {a b:Addr} {o:HO} (h:H a=some o) (h':H b=none):a≠b:=by
 intro e;subst e;rw [h] at h';cases h'
section
variable (P:Program) (w:World)
def aZ (H:Hp) (h:Heap) (a:Addr):HO->Prop
 | .lst xs=>xs.length<=sizeLine/\∃(its:List Value) (n:Nat),Vals xs its/\h.get? a=some { cls:=.type "list",data:=.seq its.toArray n }
 | .tup xs=>xs.length<=sizeLine/\∃ its:List Value,Vals xs its/\IsTup h a its.toArray
 | .dK kvs=>kvs.length<=sizeLine/\(a==sysModules)=false/\∃ vs,KV kvs vs/\h.DictOf (bj P w) a vs
 | .dT kvs=>kvs.length<=sizeLine/\(a==sysModules)=false/\∃ xs:List (List Key × Addr × Value),
   Paired (fun(p:List Key × V) (q:List Key × Addr × Value)=>p.1=q.1/\H q.2.1=some (.tup (p.1.map kV))/\RelV p.2 q.2.2) kvs xs /\
   ∃ o es ep,h.get? a=some o/\o.ExactDict/\o.data=.dict es ep/\es.toList=xs.map (entryOfKey (tupleKind (bj P w)))/\(xs.map (·.1)).Nodup
 | .set S n=>h.SetOf (intKind P w) a S n
 | .ins C dx fs=>H dx=some (.own a)/\fs.length<=1000/\dx≠a/\h.get? a=some (PySem.W.instObj C dx) /\
   ∃ mA,h.Ns1 dx mA/\(∀ f,dS (fs.lookup f) (mA f))/\PySem.Within mA (fs.map (·.1))
 | .own _=>∃ o,h.get? a=some o
 | .xd fs=>∃ mA,h.Ns1 a mA/\∀ f,dS (fs.lookup f) (mA f)
 | .rng lo hi=>∃ t u v,h.get? a=some { cls:=.type "range",data:=.fields #[.int lo t,.int hi u,.int 1 v] }
 | .frz o u=>h.get? a=some o/\aZ H h a u
 | .tbl ps=>h.get? a=some { cls:=.none,data:=.fields ps }
 | .met f x=>h.get? a=some (PySem.W.methodObj (.ref f) (.ref x))
 | .ext φ=>φ h/\(∃ o,h.get? a=some o)/\∀ h1 h2:Heap,φ h1->(∀ o,h1.get? a=some o->h2.get? a=some o)->φ h2
def eX (H:Hp) (h:Heap):Prop:=∀ a o,H a=some o->aZ P w H h a o
end
section
variable {P:Program} {w:World} {H H':Hp} {h h':Heap} {a:Addr} {o:HO}
theorem aZ.lt (x:aZ P w H h a o):a<h.objs.size:=by
 cases o with
 | lst xs=>obtain⟨_,_,_,_,e⟩:=x;exact Heap.lt_size e
 | tup xs=>obtain⟨_,_,_,p⟩:=x;exact p.lt
 | dK kvs=>obtain⟨_,_,_,_,o,_,_,e,_⟩:=x;exact Heap.lt_size e
 | dT kvs=>obtain⟨_,_,_,_,o,_,_,e,_⟩:=x;exact Heap.lt_size e
 | set S n=>obtain⟨o,_,_,_,e,_⟩:=x;exact Heap.lt_size e
 | ins C dx fs=>obtain⟨_,_,_,e,_⟩:=x;exact Heap.lt_size e
 | own y=>obtain⟨_,e⟩:=x;exact Heap.lt_size e
 | xd fs=>obtain⟨_,⟨_,_,_,e,_⟩,_⟩:=x;exact Heap.lt_size e
 | rng lo hi=>obtain⟨_,_,_,e⟩:=x;exact Heap.lt_size e
 | frz ob u=>obtain⟨e,_⟩:=x;exact Heap.lt_size e
 | tbl ps=>exact Heap.lt_size (show h.get? a=some _ from x)
 | met f y=>exact Heap.lt_size (show h.get? a=some _ from x)
 | ext φ=>obtain⟨_,⟨_,e⟩,_⟩:=x;exact Heap.lt_size e
theorem Paired.Bu {α β:Type} {F G:α->β->Prop}:∀{l₁:List α} {l₂:List β},Paired F l₁ l₂->(∀ a b,F a b->G a b)->Paired G l₁ l₂
 | _,_,.nil,_=>.nil
 | _,_,.cons r t,f=>.cons (f _ _ r) (Paired.Bu t f)
theorem aZ.fZ (x:aZ P w H h a o) (k:∀ b u,(b=a∨H b=some (.own a))->h.get? b=some u->h'.get? b=some u)
  (ho:∀ b,H b=some (.own a)->H' b=some (.own a)) (ht:∀ b xs,H b=some (.tup xs)->H' b=some (.tup xs)):aZ P w H' h' a o:=by
 induction o with
 | lst xs=>obtain⟨z,its,n,r,e⟩:=x;exact⟨z,its,n,r,k _ _ (.inl rfl) e⟩
 | tup xs=>obtain⟨z,its,r,ob,e,c⟩:=x;exact⟨z,its,r,ob,k _ _ (.inl rfl) e,c⟩
 | dK kvs=>obtain⟨z,y,vs,r,ob,es,ep,e,c⟩:=x;exact⟨z,y,vs,r,ob,es,ep,k _ _ (.inl rfl) e,c⟩
 | dT kvs =>
  obtain⟨z,y,xs,r,ob,es,ep,e,c⟩:=x
  exact⟨z,y,xs,Paired.Bu r λp q z=>⟨z.1,ht _ _ z.2.1,z.2.2⟩,ob,es,ep,k _ _ (.inl rfl) e,c⟩
 | set S n=>obtain⟨ob,es,ep,t,e,c⟩:=x;exact⟨ob,es,ep,t,k _ _ (.inl rfl) e,c⟩
 | ins C dx fs =>
  obtain⟨d,z,ne,e,mA,⟨od,es,ep,e2,c⟩,r⟩:=x
  exact⟨ho _ d,z,ne,k _ _ (.inl rfl) e,mA,⟨od,es,ep,k _ _ (.inr d) e2,c⟩,r⟩
 | own y=>obtain⟨ob,e⟩:=x;exact⟨ob,k _ _ (.inl rfl) e⟩
 | xd fs=>obtain⟨mA,⟨od,es,ep,e,c⟩,r⟩:=x;exact⟨mA,⟨od,es,ep,k _ _ (.inl rfl) e,c⟩,r⟩
 | rng lo hi=>obtain⟨t,u,v,e⟩:=x;exact⟨t,u,v,k _ _ (.inl rfl) e⟩
 | frz ob u ih=>obtain⟨e,q⟩:=x;exact⟨k _ _ (.inl rfl) e,ih q⟩
 | tbl ps =>
  have e:h.get? a=some { cls:=.none,data:=.fields ps }:=x
  show h'.get? a=some { cls:=.none,data:=.fields ps }
  exact k a _ (.inl rfl) e
 | met f y =>
  have e:h.get? a=some (PySem.W.methodObj (.ref f) (.ref y)):=x
  show h'.get? a=some (PySem.W.methodObj (.ref f) (.ref y))
  exact k a _ (.inl rfl) e
 | ext φ=>obtain⟨p,⟨o,e⟩,st⟩:=x;exact⟨st _ _ p λo q=>k _ _ (.inl rfl) q,⟨o,k _ _ (.inl rfl) e⟩,st⟩
theorem eX.lt (x:eX P w H h) (e:H a=some o):a<h.objs.size:=(x a o e).lt
theorem eX.fresh (x:eX P w H h) (e:h.objs.size<=a):H a=none:=by
 cases q:H a with
 | none=>rfl
 | some u=>exact absurd (Nat.lt_of_lt_of_le (x.lt q) e) (Nat.lt_irrefl _)
theorem eX.kept (x:eX P w H h) (k:∀ b u,h.get? b=some u->h'.get? b=some u):eX P w H h':=λa o e =>
 (x a o e).fZ (λb u _ q=>k b u q) (λ_ q=>q) λ_ _ q=>q
theorem eX.laid (x:eX P w H h) (k:∀ b u,h.get? b=some u->h'.get? b=some u) (hp:h.objs.size<=a) (new:aZ P w (upd H a o) h' a o):eX P w (upd H a o) h':=λb u e=>by
 have hn:=x.fresh hp
 by_cases hb:b=a
 ·subst hb;rw [af] at e;cases e;exact new
 ·rw [ao hb] at e
  exact (x b u e).fZ (λc v _ q=>k c v q) (λc q=>by rw [ao (aW q hn)];exact q) λc xs q=>by rw [ao (aW q hn)];exact q
end
def Rd (H:Hp) (a:Addr) (u:HO):Prop:=H a=some u∨∃ o,H a=some (.frz o u)
theorem Rd.ok {P:Program} {w:World} {H:Hp} {h:Heap} {a:Addr} {u:HO} (r:Rd H a u) (x:eX P w H h):aZ P w H h a u:=by
 rcases r with r | ⟨o,r⟩
 ·exact x a u r
 ·obtain⟨_,q⟩:=x a _ r
  exact q
def Cn:Option HO->Prop
 | some (.lst _)=>True
 | some (.dK _)=>True
 | some (.dT _)=>True
 | some (.set _ _)=>True
 | some (.ins _ _ _)=>True
 | some (.ext _)=>True
 | _=>False
section
variable {P:Program} {w:World} {H:Hp} {h h':Heap} {x e:Addr} {o':HO}
theorem eX.write (ok:eX P w H h) (mu:Cn (H x)) (he:e=x∨H e=some (.own x)) (k:∀ b u,b≠e->h.get? b=some u->h'.get? b=some u) (heo:∃ u,h'.get? e=some u)
  (new:aZ P w (upd H x o') h' x o'):eX P w (upd H x o') h':=λb u q=>by
 have nown:∀ c y,H c=some (.own y)->c≠x:=λc y r z=>by subst z;rw [r] at mu;exact mu
 have ntup:∀ c xs,H c=some (.tup xs)->c≠x:=λc xs r z=>by subst z;rw [r] at mu;exact mu
 by_cases hb:b=x
 ·subst hb;rw [af] at q;cases q;exact new
 ·rw [ao hb] at q
  by_cases hbe:b=e
  ·have q':H b=some (.own x):=by
    rcases he with z | z
    ·exact absurd (hbe.trans z) hb
    ·rw [hbe];exact z
   rw [q] at q';cases q'
   obtain⟨v,hv⟩:=heo
   exact⟨v,by rw [hbe];exact hv⟩
  ·refine (ok b u q).fZ (λc v hc r=>k c v ?_ r) (λc r=>by rw [ao (nown c b r)];exact r) λc xs r=>by rw [ao (ntup c xs r)];exact r
   rcases hc with rfl | hc
   ·exact hbe
   ·rintro rfl
    rcases he with z | z
    ·exact nown c b hc z
    ·rw [hc] at z;cases z;exact hb rfl
end
structure Un (fs ex:List Addr) (H H':Hp) (h h':Heap):Prop where
 keep:∀ b o,h.get? b=some o->H b=none->b∉fs->b∉ex->h'.get? b=some o
 slot:∀ b o,h.get? b=some o->H b=none->b∈fs->b∉ex->∃ sl,h'.get? b=some { o with slots:=sl }
 free:∀ b o,h.get? b=some o->H b=none->b∉ex->H' b=none
 there:∀ b o,h.get? b=some o->b∉ex->∃ o',h'.get? b=some o'
 tups:∀ b xs,H b=some (.tup xs)->H' b=some (.tup xs)
 frzs:∀ b o u,H b=some (.frz o u)->H' b=some (.frz o u)
 tbls:∀ b ps,H b=some (.tbl ps)->∃ more,H' b=some (.tbl (ps++more))
section
variable {fs fs' ex ex':List Addr} {H H1 H2:Hp} {h h1 h2 h':Heap} {a x e:Addr} {o:HO}
theorem Un.any (u:Un fs ex H H1 h h1) {b:Addr} {ob:Obj} (q:h.get? b=some ob) (n:H b=none) (hx:b∉ex):∃ sl,h1.get? b=some { ob with slots:=sl }:=by
 by_cases hb:b∈fs
 ·exact u.slot b ob q n hb hx
 ·exact⟨ob.slots,u.keep b ob q n hb hx⟩
theorem Un.trans (a:Un fs ex H H1 h h1) (b:Un fs ex H1 H2 h1 h2):Un fs ex H H2 h h2 where
 keep:=λc ob q n hc hx=>b.keep c ob (a.keep c ob q n hc hx) (a.free c ob q n hx) hc hx
 slot:=λc ob q n hc hx=>by
  obtain⟨sl,e1⟩:=a.slot c ob q n hc hx
  obtain⟨sl',e2⟩:=b.slot c _ e1 (a.free c ob q n hx) hc hx
  exact⟨sl',e2⟩
 free:=λc ob q n hx=>by
  obtain⟨o',e1⟩:=a.there c ob q hx
  exact b.free c o' e1 (a.free c ob q n hx) hx
 there:=λc ob q hx=>by
  obtain⟨o',e1⟩:=a.there c ob q hx
  exact b.there c o' e1 hx
 tups:=λc xs q=>b.tups c xs (a.tups c xs q)
 frzs:=λc ob xs q=>b.frzs c ob xs (a.frzs c ob xs q)
 tbls:=λc ps q=>by
  obtain⟨m1,e1⟩:=a.tbls c ps q
  obtain⟨m2,e2⟩:=b.tbls c _ e1
  exact⟨m1++m2,by rw [e2,Array.append_assoc]⟩
theorem Un.kept (k:∀ b u,h.get? b=some u->h'.get? b=some u):Un fs ex H H h h' :=
 ⟨λb ob q _ _ _=>k b ob q,λb ob q _ _ _=>⟨ob.slots,k b ob q⟩,λ_ _ _ n _=>n,λb ob q _=>⟨ob,k b ob q⟩,λ_ _ q=>q,λ_ _ _ q=>q,λ_ ps q=>⟨#[],by rw [q];simp⟩⟩
theorem Un.refl:Un fs ex H H h h:=Un.kept λ_ _ q=>q
theorem Un.laid (k:∀ b u,h.get? b=some u->h'.get? b=some u) (hp:h.objs.size<=a) (hn:H a=none):Un fs ex H (upd H a o) h h' where
 keep:=λb u q _ _ _=>k b u q
 slot:=λb u q _ _ _=>⟨u.slots,k b u q⟩
 free:=λb u q n _=>by rw [ao (Nat.ne_of_lt (Nat.lt_of_lt_of_le (Heap.lt_size q) hp))];exact n
 there:=λb u q _=>⟨u,k b u q⟩
 tups:=λb xs q=>by rw [ao (aW q hn)];exact q
 frzs:=λb u xs q=>by rw [ao (aW q hn)];exact q
 tbls:=λb ps q=>⟨#[],by rw [ao (aW q hn),q];simp⟩
theorem Un.write (mu:Cn (H x)) (he:e=x∨H e=some (.own x)) (k:∀ b u,b≠e->h.get? b=some u->h'.get? b=some u) (heo:∃ u,h'.get? e=some u):Un fs ex H (upd H x o) h h':=by
 have hx:∀ b,H b=none->b≠x:=λb n z=>by subst z;rw [n] at mu;exact mu
 have hb:∀ b,H b=none->b≠e:=λb n z=>by
  subst z
  rcases he with r | r
  ·exact hx b n r
  ·rw [n] at r;cases r
 have hm:∀ b u,H b=some u->¬Cn (some u)->b≠x:=λb u q nm z=>by subst z;rw [q] at mu;exact nm mu
 refine⟨λb u q n _ _=>k b u (hb b n) q,λb u q n _ _=>⟨u.slots,k b u (hb b n) q⟩,λb u q n _=>by rw [ao (hx b n)];exact n,λb u q _=>?_,
  λb xs q=>by rw [ao (hm b _ q λz=>z)];exact q,λb u xs q=>by rw [ao (hm b _ q λz=>z)];exact q,λb ps q=>⟨#[],by rw [ao (hm b _ q λz=>z),q];simp⟩⟩
 by_cases hbe:b=e
 ·subst hbe;exact heo
 ·exact⟨u,k b u hbe q⟩
theorem Un.mono (u:Un fs ex H H1 h h1) (hs:∀ b∈fs,b∈fs') (hx:∀ b∈ex,b∈ex'):Un fs' ex' H H1 h h1 :=
 ⟨λb ob q n hb he=>u.keep b ob q n (λz=>hb (hs b z)) λz=>he (hx b z),λ_ _ q n _ he=>u.any q n λz=>he (hx _ z),λb ob q n he=>u.free b ob q n λz=>he (hx b z),λb ob q he=>u.there b ob q λz=>he (hx b z),u.tups,u.frzs,u.tbls⟩
end
def DA (h:Heap) (H:Hp):List Addr:=(List.range h.objs.size).filter λa=>(H a).isSome
def mD (h:Heap) (H:Hp):Heap:=PySem.W.hideAll h (DA h H)
theorem tU (h:Heap) (H:Hp):(mD h H).objs.size=h.objs.size:=PySem.W.hideAll_size _ _
theorem vL {h:Heap} {H:Hp} {b:Addr} {o:Obj} (e:h.get? b=some o) (n:H b=none):(mD h H).get? b=some o :=
 PySem.W.hideAll_get _ e λhm=>by
  have q:(H b).isSome=true:=(List.mem_filter.mp hm).2
  rw [n] at q;simp at q
theorem yW {h:Heap} {H:Hp} {b:Addr} {o:Obj} (e:(mD h H).get? b=some o):h.get? b=some o/\H b=none:=by
 have e':h.get? b=some o:=PySem.W.of_hideAll (DA h H) e
 refine⟨e',?_⟩
 cases q:H b with
 | none=>rfl
 | some x =>
  have hm:b∈DA h H:=List.mem_filter.mpr ⟨List.mem_range.mpr (Heap.lt_size e'),by simp [q]⟩
  have z:(mD h H).get? b=none:=PySem.W.hideAll_none (DA h H) hm
  rw [z] at e;cases e
def yk (g h:Heap) (L:Addr):List (Addr × Obj):=(List.range h.objs.size).filterMap λa=>if a=L∨(g.get? a).isSome=true then none else (h.get? a).map λo=>(a,o)
def rest (g h:Heap) (L d:Addr):List (Addr × Obj):=(yk g h L).filter λp=>decide (p.1≠d)
structure Mod (K:PySem.W.Frag) (mg:Str->Option Value) (base:Heap):Prop where
 kin:K.In base
 glob:base.Ns mainGlobals mg
 blt:∃ mb,base.Ns builtinsNs mb/\∀ x:Str,x ≠ "__name__"->mb x=bootBuiltins x
 nolimit:base.NoLimit
structure Cx where
 prog:Program
 w:World
 K:PySem.W.Frag
 mg:Str->Option Value
 base:Heap
 A:Around
 N:List Str
 s₀:Shared
 H₀:Hp
 env:Env
 outer:List Env
 stack:List Env
 ex:List Addr
 fn:Str->Bool
 calm:Bool
 pn:List (Addr × Obj)
 xe:Value->Shared->Prop
def c9 (l:List Env):List Addr:=l.filterMap (·.frame)
abbrev Cx.fs (X:Cx):List Addr:=c9 X.outer
def B9 (sc:Scope) (x:Str):Prop:=sc.names.lookup x=some .local∨sc.names.lookup x=some .cell∨sc.names.lookup x=some .free
def Loc (sc:Scope) (x:Str):Prop:=sc.names.lookup x=some .local∨sc.names.lookup x=some .cell
def Look (env:Env) (h:Heap) (m:Str->Option Value) (x:Str) (u:Value):Prop :=
 (env.kindOf x=some .local/\m x=some u)∨((env.kindOf x=some .cell∨env.kindOf x=some .free)/\∃ c,env.cells.lookup x=some c/\h.IsCell c (some u))
structure Cx.Ok (X:Cx):Prop where
 mod:Mod X.K X.mg X.base
 kind:X.env.scope.kind=.function
 glob:X.env.globals=mainGlobals
 blt:X.env.builtins=builtinsNs
 above:X.s₀.heap.objs.size<=X.env.locals
 inj:∀ x y c,X.env.cells.lookup x=some c->X.env.cells.lookup y=some c->x=y
 has:∀ x,(X.env.kindOf x=some .cell∨X.env.kindOf x=some .free)->∃ c,X.env.cells.lookup x=some c
 cab:∀ x c,X.fn x=true->X.env.cells.lookup x=some c->X.s₀.heap.objs.size<=c
 hd:X.calm=true->X.A.handled=none
 frames:X.A.frames=some X.stack
 stk:X.stack=X.outer∨(X.stack=X.env::X.outer/\X.env.frame=some X.env.locals)
 exf:∀ b∈X.ex,b≠X.env.locals/\∀ x c,X.env.cells.lookup x=some c->c≠b
 bs:∀ b o,X.base.get? b=some o->X.s₀.heap.get? b=some o/\X.H₀ b=none
 bsz:X.base.objs.size<=X.s₀.heap.objs.size
 noex:∀ b o,X.base.get? b=some o->b∉X.ex
 exfs:∀ b∈X.ex,b∉X.fs
 iL:X.s₀.heap.FunFrames X.base X.outer
 frf:∀ b∈X.fs,X.H₀ b=none
structure Inv (X:Cx) (pins:List (Addr × Obj)) (σ:List (Option V)) (H:Hp) (s:Shared):Prop where
 ok:X.Ok
 os:s.os=X.s₀.os
 bare:AllBare s.gens
 base:Un X.fs X.ex X.H₀ H X.s₀.heap s.heap
 loc:∃ m,s.heap.Ns X.env.locals m/\∀(i:Nat) (x:Str) (v:V),X.N[i]?=some x->σ[i]?=some (some v)->B9 X.env.scope x->∃ u,RelV v u/\Look X.env s.heap m x u
 cell:∀ x c,X.env.cells.lookup x=some c->∃ v,s.heap.IsCell c v
 free:H X.env.locals=none
 freeC:∀ x c,X.env.cells.lookup x=some c->H c=none
 pin:∀ p∈X.pn++pins,s.heap.get? p.1=some p.2/\H p.1=none/\p.1≠X.env.locals/\p.1∉X.fs/\∀ v,p.2.data≠.cell v
 hok:eX X.prog X.w H s.heap
 len:σ.length=X.N.length
section
variable {X:Cx} {pins:List (Addr × Obj)} {σ:List (Option V)} {H H':Hp} {s:Shared} {h':Heap}
theorem Cx.Ok.D1 (ok:X.Ok) {b:Addr} {o:Obj} (e:X.base.get? b=some o):b∉X.fs:=λhb=>by
 have:=(ok.iL.mem hb).1
 rw [e] at this;cases this
theorem Inv.bs (I:Inv X pins σ H s):∀ b o,X.base.get? b=some o->s.heap.get? b=some o/\H b=none:=λb o e =>
 ⟨I.base.keep b o (I.ok.bs b o e).1 (I.ok.bs b o e).2 (I.ok.D1 e) (I.ok.noex b o e),I.base.free b o (I.ok.bs b o e).1 (I.ok.bs b o e).2 (I.ok.noex b o e)⟩
theorem Inv.bk (I:Inv X pins σ H s):∀ b o,X.base.get? b=some o->s.heap.get? b=some o:=λb o e=>(I.bs b o e).1
theorem Inv.mod (I:Inv X pins σ H s):Mod X.K X.mg X.base:=I.ok.mod
theorem Inv.d6 (I:Inv X pins σ H s):X.K.In s.heap:=I.ok.mod.kin.keeps I.bk
theorem Inv.fr (I:Inv X pins σ H s):∃ m,Fr X.base X.env.locals s.heap m :=
 let ⟨m,hn,_⟩:=I.loc
 ⟨m,hn,I.bk,Nat.le_trans I.ok.bsz I.ok.above⟩
theorem Inv.lt (I:Inv X pins σ H s):X.env.locals<s.heap.objs.size:=let ⟨_,hn,_⟩:=I.loc;hn.lt
theorem Inv.sz (I:Inv X pins σ H s):X.s₀.heap.objs.size<=s.heap.objs.size:=Nat.le_trans I.ok.above (Nat.le_of_lt I.lt)
theorem Inv.yT (I:Inv X pins σ H s) {a:Addr} (h:s.heap.objs.size<=a):a∉X.fs:=λhb=>by
 obtain⟨_,o,ho,_⟩:=I.ok.iL.mem hb
 exact absurd (Nat.lt_of_lt_of_le (Heap.lt_size ho) (Nat.le_trans I.sz h)) (Nat.lt_irrefl _)
theorem Inv.Ba (I:Inv X pins σ H s):∀ x c,X.env.cells.lookup x=some c->c≠X.env.locals:=λx c e z=>by
 obtain⟨v,o,ho,hd⟩:=I.cell x c e
 obtain⟨m,⟨o',es,ep,ho',hd',_⟩,_⟩:=I.loc
 rw [z,ho'] at ho;cases ho;rw [hd'] at hd;cases hd
theorem Inv.iL (I:Inv X pins σ H s):s.heap.FunFrames X.base X.outer:=by
 have all:∀(l:List Env),(∀ b∈c9 l,b∈X.fs)->X.s₀.heap.FunFrames X.base l->s.heap.FunFrames X.base l:=by
  intro l
  induction l with
  | nil=>intro _ _;trivial
  | cons env r ih =>
   intro hs hl
   obtain⟨hk,⟨L,o,hf,hn,ho,hd⟩,hr⟩:=hl
   have hL:L∈X.fs:=hs L (by unfold c9;rw [List.filterMap_cons,hf];exact List.mem_cons_self)
   obtain⟨sl,e⟩:=I.base.slot L o ho (I.ok.frf L hL) hL λz=>I.ok.exfs L z hL
   exact⟨hk,⟨L,_,hf,hn,e,hd⟩,ih (λb hb=>hs b (by unfold c9;rw [List.filterMap_cons,hf];exact List.mem_cons_of_mem _ hb)) hr⟩
 exact all X.outer (λ_ hb=>hb) I.ok.iL
theorem Inv.stack (I:Inv X pins σ H s):s.heap.FunFrames X.base X.stack:=by
 rcases I.ok.stk with e | ⟨e,hf⟩
 ·rw [e];exact I.iL
 ·rw [e]
  obtain⟨m,hn,_⟩:=I.loc
  refine .cons (by rw [I.ok.kind];decide) hf hn ?_ I.iL
  exact Heap.get?_none_of_le (Nat.le_trans I.ok.bsz I.ok.above)
theorem Inv.eI (I:Inv X pins σ H s):∀ b∈c9 X.stack,b∈X.env.locals::X.fs:=λb hb=>by
 rcases I.ok.stk with e | ⟨e,hf⟩
 ·rw [e] at hb;exact List.mem_cons_of_mem _ hb
 ·rw [e] at hb
  unfold c9 at hb
  rw [List.filterMap_cons,hf] at hb
  exact hb
theorem Inv.cJ (I:Inv X pins σ H s):∀ b∈c9 X.stack,H b=none:=λb hb=>by
 rcases List.mem_cons.mp (I.eI b hb) with e | hb
 ·rw [e];exact I.free
 ·obtain⟨_,o,ho,_⟩:=I.ok.iL.mem hb
  exact I.base.free b o ho (I.ok.frf b hb) λz=>I.ok.exfs b z hb
theorem Inv.step {g':Array GenState} {t':Nat} {d':Drawn} {ch:List Addr} (I:Inv X pins σ H s)
  (hch:∀ b∈ch,(b∈X.ex∨X.s₀.heap.objs.size<=b)/\b≠X.env.locals/\(∀ x c,X.env.cells.lookup x=some c->c≠b)/\∀ p∈X.pn++pins,p.1≠b)
  (keep:∀ b o,b≠X.env.locals->b∉X.fs->b∉ch->s.heap.get? b=some o->H b=none->h'.get? b=some o)
  (slot:∀ b o,b≠X.env.locals->b∈X.fs->b∉ch->s.heap.get? b=some o->H b=none->∃ sl,h'.get? b=some { o with slots:=sl }) (free:∀ b o,b∉ch->s.heap.get? b=some o->H b=none->H' b=none)
  (there:∀ b o,b∉ch->s.heap.get? b=some o->∃ o',h'.get? b=some o')
  (tups:∀ b xs,H b=some (.tup xs)->H' b=some (.tup xs)) (frzs:∀ b o u,H b=some (.frz o u)->H' b=some (.frz o u)) (tbls:∀ b ps,H b=some (.tbl ps)->∃ more,H' b=some (.tbl (ps++more)))
  (ns:∀ m,s.heap.Ns X.env.locals m->h'.Ns X.env.locals m) (hok:eX X.prog X.w H' h') (hg:AllBare g') :
  Inv X pins σ H' { s with heap:=h',gens:=g',drawn:=d',toks:=t' }:=by
 have neL:∀ b o,X.s₀.heap.get? b=some o->b≠X.env.locals:=λb o e=>Nat.ne_of_lt (Nat.lt_of_lt_of_le (Heap.lt_size e) I.ok.above)
 have neC:∀ b o,X.s₀.heap.get? b=some o->b∉X.ex->b∉ch:=λb o e hx hb=>by
  rcases (hch b hb).1 with z | z
  ·exact hx z
  ·exact absurd (Nat.lt_of_lt_of_le (Heap.lt_size e) z) (Nat.lt_irrefl _)
 have cellK:∀ x c,X.env.cells.lookup x=some c->∀ v,s.heap.IsCell c v->h'.IsCell c v:=λx c e v ⟨o,ho,hd⟩=>by
  have nch:c∉ch:=λz=>(hch c z).2.2.1 x c e rfl
  by_cases hc:c∈X.fs
  ·obtain⟨sl,q⟩:=slot c o (I.Ba x c e) hc nch ho (I.freeC x c e)
   exact⟨_,q,hd⟩
  ·exact⟨o,keep c o (I.Ba x c e) hc nch ho (I.freeC x c e),hd⟩
 refine⟨I.ok,I.os,hg,⟨λb o e n hb hx=>?_,λb o e n hb hx=>?_,λb o e n hx=>?_,λb o e hx=>?_,λb xs e=>tups b xs (I.base.tups b xs e),λb o xs e=>frzs b o xs (I.base.frzs b o xs e),λb ps e=>?_⟩,?_,λx c e=>?_,?_,λx c e=>?_,λp hp=>?_,hok,I.len⟩
 ·exact keep b o (neL b o e) hb (neC b o e hx) (I.base.keep b o e n hb hx) (I.base.free b o e n hx)
 ·obtain⟨sl,e1⟩:=I.base.slot b o e n hb hx
  obtain⟨sl',e2⟩:=slot b _ (neL b o e) hb (neC b o e hx) e1 (I.base.free b o e n hx)
  exact⟨sl',e2⟩
 ·obtain⟨o',e1⟩:=I.base.there b o e hx
  exact free b o' (neC b o e hx) e1 (I.base.free b o e n hx)
 ·obtain⟨o',e1⟩:=I.base.there b o e hx
  exact there b o' (neC b o e hx) e1
 ·obtain⟨m1,e1⟩:=I.base.tbls b ps e
  obtain⟨m2,e2⟩:=tbls b _ e1
  exact⟨m1++m2,by rw [e2,Array.append_assoc]⟩
 ·obtain⟨m,hn,hl⟩:=I.loc
  refine⟨m,ns m hn,λi x v e1 e2 e3=>?_⟩
  obtain⟨u,r,l⟩:=hl i x v e1 e2 e3
  refine⟨u,r,?_⟩
  rcases l with l | ⟨k,c,e,z⟩
  ·exact .inl l
  ·exact .inr ⟨k,c,e,cellK x c e _ z⟩
 ·obtain⟨v,z⟩:=I.cell x c e
  exact⟨v,cellK x c e v z⟩
 ·obtain⟨m,⟨o,_,_,ho,_⟩,_⟩:=I.loc
  exact free _ o (λz=>(hch _ z).2.1 rfl) ho I.free
 ·obtain⟨v,o,ho,hd⟩:=I.cell x c e
  exact free c o (λz=>(hch c z).2.2.1 x c e rfl) ho (I.freeC x c e)
 ·obtain⟨e,n,ne,nf,d⟩:=I.pin p hp
  have nch:p.1∉ch:=λz=>(hch p.1 z).2.2.2 p hp rfl
  exact⟨keep p.1 p.2 ne nf nch e n,free p.1 p.2 nch e n,ne,nf,d⟩
theorem Inv.un {t':Nat} (I:Inv X pins σ H s) (u:Un X.fs [] H H' s.heap h') (hok:eX X.prog X.w H' h'):Inv X pins σ H' { s with heap:=h',toks:=t' }:=by
 obtain⟨m,⟨o,es,ep,ho,r⟩,_⟩:=id I.loc
 obtain⟨sl,hL⟩:=u.any ho I.free (by simp)
 exact I.step (g':=s.gens) (d':=s.drawn) (ch:=[]) (λ_ z=>nomatch z) (λb o _ hb _ e n=>u.keep b o e n hb (by simp)) (λb o _ hb _ e n=>u.slot b o e n hb (by simp)) (λb o _ e n=>u.free b o e n (by simp)) (λb o _ e=>u.there b o e (by simp)) u.tups u.frzs u.tbls (λm' hm=>by
  obtain⟨o',es',ep',ho',r'⟩:=hm
  rw [ho] at ho';cases ho'
  exact⟨_,es',ep',hL,r'⟩) hok I.bare
theorem Inv.call {g':Array GenState} {t':Nat} {d':Drawn} {ch:List Addr} (I:Inv X pins σ H s) (u:Un (c9 X.stack) ch H H' s.heap h') (hok:eX X.prog X.w H' h') (hg:AllBare g')
  (hch:∀ b∈ch,(b∈X.ex∨X.s₀.heap.objs.size<=b)/\b≠X.env.locals/\(∀ x c,X.env.cells.lookup x=some c->c≠b)/\∀ p∈X.pn++pins,p.1≠b) :
  Inv X pins σ H' { s with heap:=h',gens:=g',drawn:=d',toks:=t' }:=by
 obtain⟨m,⟨o,es,ep,ho,r⟩,_⟩:=id I.loc
 obtain⟨sl,hL⟩:=u.any ho I.free λz=>(hch _ z).2.1 rfl
 exact I.step (ch:=ch) hch (λb o hL hb hc e n=>u.keep b o e n (λz=>(List.mem_cons.mp (I.eI b z)).elim hL hb) hc) (λb o _ _ hc e n=>u.any e n hc) (λb o hc e n=>u.free b o e n hc) (λb o hc e=>u.there b o e hc) u.tups u.frzs u.tbls (λm' hm=>by
  obtain⟨o',es',ep',ho',r'⟩:=hm
  rw [ho] at ho';cases ho'
  exact⟨_,es',ep',hL,r'⟩) hok hg
theorem Inv.turned {t':Nat} {it:Addr} (I:Inv X pins σ H s) (k:∀ b o,b≠it->s.heap.get? b=some o->h'.get? b=some o) (hn:H it=none) (hL:it≠X.env.locals)
  (h1:it∈X.ex∨X.s₀.heap.objs.size<=it) (h2:∀ x c,X.env.cells.lookup x=some c->c≠it) (h3:∀ p∈X.pn++pins,p.1≠it):Inv X pins σ H { s with heap:=h',toks:=t' }:=by
 have nit:∀ b u,H b=some u->b≠it:=λb u e z=>by rw [z,hn] at e;cases e
 refine I.step (g':=s.gens) (d':=s.drawn) (ch:=[it]) (λb hb=>?_) (λb o _ _ hc e _=>k b o (λz=>hc (by simp [z])) e) (λb o _ _ hc e _=>⟨o.slots,k b o (λz=>hc (by simp [z])) e⟩) (λ_ _ _ _ n=>n)
  (λb o hc e=>⟨o,k b o (λz=>hc (by simp [z])) e⟩) (λ_ _ e=>e) (λ_ _ _ e=>e) (λb ps e=>⟨#[],by rw [e];simp⟩) (λm hm=>?_) (λb u e=>?_) I.bare
 ·have e:b=it:=by simpa using hb
  subst e
  exact⟨h1,hL,h2,h3⟩
 ·obtain⟨o,es,ep,ho,r⟩:=hm
  exact⟨o,es,ep,k _ o (Ne.symm hL) ho,r⟩
 ·refine (I.hok b u e).fZ (λc v hc q=>k c v ?_ q) (λ_ q=>q) λ_ _ q=>q
  rcases hc with z | z
  ·rw [z];exact nit b u e
  ·exact nit c _ z
theorem Inv.tok (I:Inv X pins σ H s) (t:Nat):Inv X pins σ H { s with toks:=t }:=I.un (h':=s.heap) (t':=t) Un.refl I.hok
theorem Inv.kept {t':Nat} (I:Inv X pins σ H s) (k:∀ b u,s.heap.get? b=some u->h'.get? b=some u):Inv X pins σ H { s with heap:=h',toks:=t' }:=I.un (Un.kept k) (I.hok.kept k)
theorem Inv.laid {a:Addr} {o:HO} {t':Nat} (I:Inv X pins σ H s) (k:∀ b u,s.heap.get? b=some u->h'.get? b=some u) (hp:s.heap.objs.size<=a) (new:aZ X.prog X.w (upd H a o) h' a o) :
  Inv X pins σ (upd H a o) { s with heap:=h',toks:=t' }:=I.un (Un.laid k hp (I.hok.fresh hp)) (I.hok.laid k hp new)
theorem Inv.write {x e:Addr} {o:HO} {t':Nat} (I:Inv X pins σ H s) (mu:Cn (H x)) (he:e=x∨H e=some (.own x)) (k:∀ b u,b≠e->s.heap.get? b=some u->h'.get? b=some u) (heo:∃ u,h'.get? e=some u)
  (new:aZ X.prog X.w (upd H x o) h' x o):Inv X pins σ (upd H x o) { s with heap:=h',toks:=t' }:=I.un (Un.write mu he k heo) (I.hok.write mu he k heo new)
theorem Inv.weak {σ':List (Option V)} (I:Inv X pins σ H s) (hl:σ'.length=σ.length) (w:∀(i:Nat) v,σ'[i]?=some (some v)->σ[i]?=some (some v)):Inv X pins σ' H s :=
 ⟨I.ok,I.os,I.bare,I.base,let ⟨m,hn,hl'⟩:=I.loc;⟨m,hn,λi x v e1 e2 e3=>hl' i x v e1 (w i v e2) e3⟩,I.cell,I.free,I.freeC,I.pin,I.hok,hl.trans I.len⟩
theorem Inv.fS {pins':List (Addr × Obj)} (I:Inv X pins σ H s) (h:∀ p∈pins',s.heap.get? p.1=some p.2/\H p.1=none/\p.1≠X.env.locals/\p.1∉X.fs/\∀ v,p.2.data≠.cell v):Inv X pins' σ H s :=
 ⟨I.ok,I.os,I.bare,I.base,I.loc,I.cell,I.free,I.freeC,λp hp=>(List.mem_append.mp hp).elim (λz=>I.pin p (List.mem_append_left _ z)) (h p),I.hok,I.len⟩
theorem oI {N:List Str} (hN:N.Nodup) {i j:Nat} {x:Str} (a:N[i]?=some x) (b:N[j]?=some x):i=j:=by
 obtain⟨h1,e1⟩:=List.getElem?_eq_some_iff.mp a
 obtain⟨h2,e2⟩:=List.getElem?_eq_some_iff.mp b
 exact (List.getElem_inj hN).mp (e1.trans e2.symm)
theorem uL {M:Model} {A:Around} {E:Value->Shared->Prop} {i:Nat} {x:Str} {v:V} {u:Value} {Q:Unit->Shared->Prop} (I:Inv X pins σ H s) (hN:X.N.Nodup) (hi:X.N[i]?=some x) (hx:Loc X.env.scope x) (r:RelV v u)
  (h:∀ s',Inv X pins (σ.set i (some v)) H s'->(∃ a,Heap.SameBut a s.heap s'.heap/\(a=X.env.locals∨X.env.cells.lookup x=some a))->Q () s') (hf:X.fn x=true∨X.env.scope.names.lookup x=some .local:=by first | exact .inl rfl | exact .inr rfl | assumption):wpAny M A (storeName X.env x u) Q E s:=by
 obtain⟨m,hn,hl⟩:=id I.loc
 have hcls:(X.env.scope.kind==.class || (X.env.scope.kind==.module && X.env.locals != X.env.globals))=false:=by rw [I.ok.kind];rfl
 have hiσ:i<σ.length:=by rw [I.len];exact (List.getElem?_eq_some_iff.mp hi).1
 have Ba:=I.Ba
 have tracked:∀{a:Addr} {h':Heap},(∃ o,s.heap.get? a=some o/\H a=none)->Heap.SameBut a s.heap h'->eX X.prog X.w H h':=λ{a h'} ha hs b ob e=>by
  obtain⟨_,_,hfree⟩:=ha
  refine (I.hok b ob e).fZ (λc w' hc q=>(hs.2 c ?_).trans q) (λ_ q=>q) λ_ _ q=>q
  rintro rfl
  rcases hc with rfl | hc
  ·rw [hfree] at e;cases e
  ·rw [hfree] at hc;cases hc
 rcases hx with hk | hk
 ·refine wpAny_storeName_local hk hn (λh' hn' hs=>?_) hcls
  obtain⟨oL,_,_,hoL,_⟩:=id hn
  refine h _ ⟨I.ok,I.os,I.bare,⟨λb o e n hb hx=>?_,λb o e n hb hx=>?_,I.base.free,λb o e hx=>?_,I.base.tups,I.base.frzs,I.base.tbls⟩,⟨_,hn',λj y v' e1 e2 e3=>?_⟩,λy c e=>?_,I.free,I.freeC,λp hp=>?_,tracked ⟨oL,hoL,I.free⟩ hs,by simpa using I.len⟩ ⟨_,hs,.inl rfl⟩
  ·exact (hs.2 b (Nat.ne_of_lt (Nat.lt_of_lt_of_le (Heap.lt_size e) I.ok.above))).trans (I.base.keep b o e n hb hx)
  ·obtain⟨sl,e1⟩:=I.base.slot b o e n hb hx
   exact⟨sl,(hs.2 b (Nat.ne_of_lt (Nat.lt_of_lt_of_le (Heap.lt_size e) I.ok.above))).trans e1⟩
  ·obtain⟨o',e1⟩:=I.base.there b o e hx
   exact⟨o',(hs.2 b (Nat.ne_of_lt (Nat.lt_of_lt_of_le (Heap.lt_size e) I.ok.above))).trans e1⟩
  ·by_cases hj:j=i
   ·subst hj
    rw [hi] at e1;cases e1
    rw [List.getElem?_set_self hiσ] at e2
    cases e2
    exact⟨u,r,.inl ⟨hk,by simp⟩⟩
   ·rw [List.getElem?_set_ne (Ne.symm hj)] at e2
    obtain⟨u',r',q⟩:=hl j y v' e1 e2 e3
    refine⟨u',r',?_⟩
    rcases q with⟨k,e⟩|⟨k,c,e,z⟩
    ·refine .inl ⟨k,?_⟩
     have:y≠x:=λe=>hj (oI hN e1 (e▸hi))
     simp [this,e]
    ·exact .inr ⟨k,c,e,z.sameBut hs (Ba y c e)⟩
  ·obtain⟨w',z⟩:=I.cell y c e
   exact⟨w',z.sameBut hs (Ba y c e)⟩
  ·obtain⟨e,n,ne,nf,d⟩:=I.pin p hp
   exact⟨(hs.2 p.1 ne).trans e,n,ne,nf,d⟩
 ·have hfn:X.fn x=true:=by
   rcases hf with z | z
   ·exact z
   ·rw [z] at hk;cases hk
  obtain⟨c,hc⟩:=I.ok.has x (.inl hk)
  obtain⟨w',z⟩:=I.cell x c hc
  refine wpAny_storeName_cell I.ok.kind hk hc z (λh' hc' hs=>?_)
  obtain⟨oc,hoc,hocd⟩:=id z
  refine h { s with heap:=h' } ⟨I.ok,I.os,I.bare,⟨λb o e n hb hx=>?_,λb o e n hb hx=>?_,I.base.free,λb o e hx=>?_,I.base.tups,I.base.frzs,I.base.tbls⟩,⟨m,hn.sameBut hs (Ne.symm (Ba x c hc)),λj y v' e1 e2 e3=>?_⟩,λy c' e=>?_,I.free,I.freeC,λp hp=>?_,tracked ⟨oc,hoc,I.freeC x c hc⟩ hs,by simpa using I.len⟩ ⟨c,hs,.inr hc⟩
  ·exact (hs.2 b (Nat.ne_of_lt (Nat.lt_of_lt_of_le (Heap.lt_size e) (I.ok.cab x c hfn hc)))).trans (I.base.keep b o e n hb hx)
  ·obtain⟨sl,e1⟩:=I.base.slot b o e n hb hx
   exact⟨sl,(hs.2 b (Nat.ne_of_lt (Nat.lt_of_lt_of_le (Heap.lt_size e) (I.ok.cab x c hfn hc)))).trans e1⟩
  ·obtain⟨o',e1⟩:=I.base.there b o e hx
   exact⟨o',(hs.2 b (Nat.ne_of_lt (Nat.lt_of_lt_of_le (Heap.lt_size e) (I.ok.cab x c hfn hc)))).trans e1⟩
  ·by_cases hj:j=i
   ·subst hj
    rw [hi] at e1;cases e1
    rw [List.getElem?_set_self hiσ] at e2
    cases e2
    exact⟨u,r,.inr ⟨.inl hk,c,hc,hc'⟩⟩
   ·rw [List.getElem?_set_ne (Ne.symm hj)] at e2
    obtain⟨u',r',q⟩:=hl j y v' e1 e2 e3
    refine⟨u',r',?_⟩
    rcases q with q | ⟨k,c',e,z'⟩
    ·exact .inl q
    ·refine .inr ⟨k,c',e,z'.sameBut hs ?_⟩
     rintro rfl
     exact hj (oI hN e1 (I.ok.inj _ _ _ e hc▸hi))
  ·by_cases hcc:c'=c
   ·subst hcc;exact⟨_,hc'⟩
   ·obtain⟨w2,z2⟩:=I.cell y c' e
    exact⟨w2,z2.sameBut hs hcc⟩
  ·obtain⟨e,n,ne,nf,d⟩:=I.pin p hp
   refine⟨(hs.2 p.1 ?_).trans e,n,ne,nf,d⟩
   intro q
   rw [q,hoc] at e
   have q':oc=p.2:=Option.some.inj e
   exact d w' (by rw [<- q'];exact hocd)
theorem cf {M:Model} {A:Around} {E:Value->Shared->Prop} {i:Nat} {x:Str} {v:V} {u:Value} {Q:Unit->Shared->Prop} (I:Inv X pins σ H s) (hN:X.N.Nodup) (hi:X.N[i]?=some x) (hx:Loc X.env.scope x) (r:RelV v u)
  (h:∀ s',Inv X pins (σ.set i (some v)) H s'->Q () s') (hf:X.fn x=true∨X.env.scope.names.lookup x=some .local:=by first | exact .inl rfl | exact .inr rfl | assumption):wpAny M A (storeName X.env x u) Q E s :=
 uL I hN hi hx r (λs' I' _=>h s' I') hf
theorem Inv.Ae {s':Shared} {ch:List Addr} (I:Inv X pins σ H s) (ho:s'.os=s.os) (u:Un (c9 X.stack) ch H H' s.heap s'.heap) (hok:eX X.prog X.w H' s'.heap) (hg:AllBare s'.gens)
  (hch:∀ b∈ch,(b∈X.ex∨X.s₀.heap.objs.size<=b)/\b≠X.env.locals/\(∀ x c,X.env.cells.lookup x=some c->c≠b)/\∀ p∈X.pn++pins,p.1≠b):Inv X pins σ H' s':=by
 obtain⟨h',g',d',t',o'⟩:=s'
 have e:o'=s.os:=ho
 subst e
 exact I.call (g':=g') (t':=t') (d':=d') u hok hg hch
end
abbrev XK:=Value->Option Addr->Hp->Prop
abbrev St:=List (Option V)
abbrev VK:=V->Hp->Prop
abbrev TE:=St->Hp->VK->Prop
abbrev TT:=St->Hp->(Bool->Hp->Prop)->Prop
abbrev TA:=St->Hp->(List V->Hp->Prop)->Prop
structure Ends where
 nx:St->Hp->Prop
 rt:VK
 bk:St->Hp->Prop:=λ_ _=>False
 ct:St->Hp->Prop:=λ_ _=>False
abbrev TS:=Ends->St->Hp->Prop
def EP (X:Cx) (pins:List (Addr × Obj)) (σ:St) (Q:VK) (u:Value) (s':Shared):Prop:=∃ v H',Inv X pins σ H' s'/\RelV v u/\Q v H'
def TP (X:Cx) (pins:List (Addr × Obj)) (σ:St) (Q:Bool->Hp->Prop) (b:Bool) (s':Shared):Prop:=∃ H',Inv X pins σ H' s'/\Q b H'
def AP (X:Cx) (pins:List (Addr × Obj)) (σ:St) (Q:List V->Hp->Prop) (us:List Value) (s':Shared):Prop:=∃ vs H',Inv X pins σ H' s'/\Vals vs us/\Q vs H'
def SP (X:Cx) (pins:List (Addr × Obj)) (D:Ends) (f:Flow) (s':Shared):Prop :=
 match f with
 | .next=>∃ σ' H',Inv X pins σ' H' s'/\D.nx σ' H'
 | .brk=>∃ σ' H',Inv X pins σ' H' s'/\D.bk σ' H'
 | .cont=>∃ σ' H',Inv X pins σ' H' s'/\D.ct σ' H'
 | .ret u=>∃ v σ' H',Inv X pins σ' H' s'/\RelV v u/\D.rt v H'
def PE (X:Cx) (e:Expr) (t:TE):Prop :=
 ∀(pins:List (Addr × Obj)) (s:Shared) (σ:St) (H:Hp) (Q:VK),Inv X pins σ H s->t σ H Q->wpAny (model X.prog X.w) X.A (eval e X.env) (EP X pins σ Q) X.xe s
def PT (X:Cx) (e:Expr) (t:TT):Prop :=
 ∀(pins:List (Addr × Obj)) (s:Shared) (σ:St) (H:Hp) (Q:Bool->Hp->Prop),Inv X pins σ H s->t σ H Q->wpAny (model X.prog X.w) X.A (isTrue e X.env (eval e X.env)) (TP X pins σ Q) X.xe s
def PW (X:Cx) (e:Expr) (t:TT):Prop :=
 ∀(whole:Sem Value) (pins:List (Addr × Obj)) (s:Shared) (σ:St) (H:Hp) (Q:Bool->Hp->Prop),Inv X pins σ H s->t σ H Q->wpAny (model X.prog X.w) X.A (isTrue e X.env whole) (TP X pins σ Q) X.xe s
theorem PW.pt {X:Cx} {e:Expr} {t:TT} (h:PW X e t):PT X e t:=h _
def PA (X:Cx) (es:List Expr) (t:TA):Prop :=
 ∀(pos:Pos) (pins:List (Addr × Obj)) (s:Shared) (σ:St) (H:Hp) (Q:List V->Hp->Prop),Inv X pins σ H s->t σ H Q->wpAny (model X.prog X.w) X.A (spliced (backTo pos (starEach es X.env))) (AP X pins σ Q) X.xe s
def PS (X:Cx) (st:Stmt) (t:TS):Prop :=
 ∀(pins:List (Addr × Obj)) (s:Shared) (σ:St) (H:Hp) (D:Ends),Inv X pins σ H s->t D σ H->wpAny (model X.prog X.w) X.A (exec st X.env) (SP X pins D) X.xe s
def iD (X:Cx) (st:List Stmt) (t:TS):Prop :=
 ∀(pins:List (Addr × Obj)) (s:Shared) (σ:St) (H:Hp) (D:Ends),Inv X pins σ H s->t D σ H->wpAny (model X.prog X.w) X.A (execs st X.env) (SP X pins D) X.xe s
theorem aQ {α:Type} {t:Sem α} {Q Q':α->Shared->Prop} {M:Model} {A:Around} {E:Value->Shared->Prop} {s:Shared} (h:wpAny M A t Q E s) (hQ:∀ a s,Q a s->Q' a s):wpAny M A t Q' E s:=wpAny_mono h hQ λ_ _ x=>x
section
variable {X:Cx}
theorem bin {a b:Expr} {ta tb:TE} (ha:PE X a ta) (hb:PE X b tb) {pins:List (Addr × Obj)} {s:Shared} {σ:St} {H:Hp} {R:V->V->Hp->Prop} (I:Inv X pins σ H s) (h:ta σ H λx H1=>tb σ H1 λy H2=>R x y H2)
  {α:Type} {Q:α->Shared->Prop} {f:Value->Value->Sem α}
  (hf:∀ v u s2 x y H2,Inv X pins σ H2 s2->RelV x v->RelV y u->R x y H2->wpAny (model X.prog X.w) X.A (f v u) Q X.xe s2) :
  wpAny (model X.prog X.w) X.A (eval a X.env) (λv s₁=>wpAny (model X.prog X.w) X.A (eval b X.env) (λu s₂=>wpAny (model X.prog X.w) X.A (f v u) Q X.xe s₂) X.xe s₁) X.xe s:=by
 refine aQ (ha pins s σ H _ I h) λv s1 ⟨x,H1,I1,r1,q1⟩=>?_
 refine aQ (hb pins s1 σ H1 _ I1 q1) λu s2 ⟨y,H2,I2,r2,q2⟩=>?_
 exact hf v u s2 x y H2 I2 r1 r2 q2
def BV (i:Nat):TE:=λσ H Q=>∃ v,σ[i]?=some (some v)/\Q v H
def tC (v:V):TE:=λ_ H Q=>Q v H
theorem rf {i:Nat} {x:Str} {pos:Pos} (hN:X.N[i]?=some x) (hv:B9 X.env.scope x) (hd:(x==("__debug__":Str))=false:=by decide) (hcd:(x==("__classdict__":Str))=false:=by decide):PE X (.Name x pos) (BV i):=by
 intro pins s σ H Q I h
 obtain⟨v,e,h⟩:=h
 obtain⟨m,hn,hl⟩:=I.loc
 obtain⟨u,r,l⟩:=hl i x v hN e hv
 have fin:EP X pins σ Q u s:=⟨v,H,I,r,h⟩
 rcases l with⟨hk,hm⟩|⟨hk,c,hc,hcell⟩
 ·exact wpAny_Name (wpAny_loadName_local I.ok.kind hk hn hm fin) hd
 ·rcases hk with hk | hk
  ·exact wpAny_Name (wpAny_loadName_cell I.ok.kind hk hc hcell fin) hd
  ·exact wpAny_Name (wpAny_loadName_free I.ok.kind hk hc hcell fin hcd) hd
theorem ah {i j pos}:PE X (.Constant (.int i) j pos) (tC (.int i)):=λ_ _ _ H _ I h=>wpAny_Constant_int ⟨.int i,H,I.tok _,⟨_,rfl⟩,h⟩
theorem gd {b j pos}:PE X (.Constant (.bool b) j pos) (tC (.bl b)):=λ_ _ _ H _ I h=>Constant_bool ⟨.bl b,H,I,rfl,h⟩
theorem dQ {j pos}:PE X (.Constant .none j pos) (tC .non):=λ_ _ _ H _ I h=>Constant_none ⟨.non,H,I,rfl,h⟩
theorem bI {x j pos}:PE X (.Constant (.str x) j pos) (tC (.str x)):=λ_ _ _ H _ I h=>Calls.Constant_str ⟨.str x,H,I.tok _,⟨_,rfl⟩,h⟩
def Gl (X:Cx) (x:Str):Prop:=X.env.kindOf x=some .globalImplicit
theorem eB {E:Value->Shared->Prop} {pins:List (Addr × Obj)} {s:Shared} {σ:St} {H:Hp} {x:Str} {u:Value} {pos:Pos} {Q:Value->Shared->Prop} (I:Inv X pins σ H s) (hg:Gl X x) (hm:X.mg x=some u) (h:Q u s)
  (hd:(x==("__debug__":Str))=false:=by decide):wpAny (model X.prog X.w) X.A (eval (.Name x pos) X.env) Q E s :=
 Calls.Name_function_global I.ok.kind hg (Calls.loadGlobal_global (by rw [I.ok.glob];exact I.mod.glob.keeps I.bk) hm h) hd
theorem gw {E:Value->Shared->Prop} {pins:List (Addr × Obj)} {s:Shared} {σ:St} {H:Hp} {x:Str} {u:Value} {pos:Pos} {Q:Value->Shared->Prop} (I:Inv X pins σ H s) (hg:Gl X x) (hm:X.mg x=none) (hv:bootBuiltins x=some u) (h:Q u s)
  (hn:x ≠ "__name__":=by decide) (hd:(x==("__debug__":Str))=false:=by decide):wpAny (model X.prog X.w) X.A (eval (.Name x pos) X.env) Q E s:=by
 obtain⟨mb,h1,h2⟩:=I.mod.blt
 exact Calls.Name_function_global I.ok.kind hg (Calls.loadGlobal_builtin (by rw [I.ok.glob];exact I.mod.glob.keeps I.bk) hm (by rw [I.ok.blt];exact h1.keeps I.bk) ((h2 x hn).trans hv) h) hd
theorem zA {x:Str} {v:V} {u:Value} {pos:Pos} (hg:Gl X x) (hm:X.mg x=some u) (r:RelV v u) (hd:(x==("__debug__":Str))=false:=by decide):PE X (.Name x pos) (tC v) :=
 λ_ _ _ H _ I h=>eB I hg hm ⟨v,H,I,r,h⟩ hd
theorem mP {x:Str} {v:V} {u:Value} {pos:Pos} (hg:Gl X x) (hm:X.mg x=none) (hv:bootBuiltins x=some u) (r:RelV v u) (hn:x ≠ "__name__":=by decide) (hd:(x==("__debug__":Str))=false:=by decide):PE X (.Name x pos) (tC v) :=
 λ_ _ _ H _ I h=>gw I hg hm hv ⟨v,H,I,r,h⟩ hn hd
variable {a b:Expr} {ta tb:TE} {pos:Pos}
def PC (X:Cx) (op:CmpOp) (a b:Expr) (t:TE):Prop :=
 ∀(pins:List (Addr × Obj)) (s:Shared) (σ:St) (H:Hp) (Q:VK),Inv X pins σ H s->t σ H Q ->
  wpAny (model X.prog X.w) X.A (eval a X.env) (λv s₁=>wpAny (model X.prog X.w) X.A (eval b X.env) (λu s₂=>wpAny (model X.prog X.w) X.A (compareOp op v u) (EP X pins σ Q) X.xe s₂) X.xe s₁) X.xe s
theorem wa (b:Expr) {op:CmpOp} (h:op≠.In) (h2:op≠.NotIn):behindInMarks op b=false:=by
 have e1:(op==CmpOp.In)=false:=by cases op<;>first | rfl | exact absurd rfl h
 have e2:(op==CmpOp.NotIn)=false:=by cases op<;>first | rfl | exact absurd rfl h2
 cases b<;>simp [behindInMarks,e1,e2]
def tB (t:TE):TT:=λσ H Q=>t σ H λx H1=>∃ c,x=.bl c/\Q c H1
theorem xf {op:CmpOp} {t:TE} (h:PC X op a b t) (h1:behindInMarks op b=false:=by first | exact wa _ (by decide) (by decide) | rfl):PT X (.Compare a [op] [b] pos) (tB t):=by
 intro pins s σ H Q I hw
 refine wpAny_isTrue_Compare1 (aQ (h pins s σ H _ I hw) λv s1 h1=>aQ h1 λu s2 h2=>aQ h2 λc s3 ⟨x,H1,I1,r1,q1⟩=>?_) h1
 obtain⟨d,rfl,q⟩:=q1
 cases r1
 exact wpAny_truthy_bool ⟨H1,I1,q⟩
variable {tA tB':TT} {rest:List Expr}
def C6 (t u:TT):TT:=λσ H Q=>t σ H λc H1=>if c=true then u σ H1 Q else Q false H1
def Et (t u:TT):TT:=λσ H Q=>t σ H λc H1=>if c=true then Q true H1 else u σ H1 Q
def Dg (t:TT):TT:=λσ H Q=>t σ H λc H1=>Q (!c) H1
theorem mU (ha:PT X a tA):PW X (.BoolOp .And [a] pos) tA:=by
 intro wh pins s σ H Q I h
 refine isTrue_and (aQ (ha pins s σ H Q I h) λc s1 e=>?_)
 cases c with
 | true=>exact isTrue_and_nil e
 | false=>exact e
theorem ro (ha:PT X a tA):PW X (.BoolOp .Or [a] pos) tA:=by
 intro wh pins s σ H Q I h
 refine isTrue_or (aQ (ha pins s σ H Q I h) λc s1 e=>?_)
 cases c with
 | false=>exact isTrue_or_nil e
 | true=>exact e
theorem rm (ha:PT X a tA) (hb:PW X (.BoolOp .And (b::rest) pos) tB'):PW X (.BoolOp .And (a::b::rest) pos) (C6 tA tB'):=by
 intro wh pins s σ H Q I h
 refine isTrue_and (aQ (ha pins s σ H _ I h) λc s1 ⟨H1,I1,q1⟩=>?_)
 cases c with
 | true=>exact hb wh pins s1 σ H1 Q I1 q1
 | false=>exact⟨H1,I1,q1⟩
theorem pG (ha:PT X a tA) (hb:PW X (.BoolOp .Or (b::rest) pos) tB'):PW X (.BoolOp .Or (a::b::rest) pos) (Et tA tB'):=by
 intro wh pins s σ H Q I h
 refine isTrue_or (aQ (ha pins s σ H _ I h) λc s1 ⟨H1,I1,q1⟩=>?_)
 cases c with
 | true=>exact⟨H1,I1,q1⟩
 | false=>exact hb wh pins s1 σ H1 Q I1 q1
theorem rj (ha:PT X a tA):PT X (.UnaryOp .Not a pos) (Dg tA):=by
 intro pins s σ H Q I h
 exact isTrue_not (ha pins s σ H (λc H1=>Q (!c) H1) I h)
def AD (ta tb:TE):TE:=λσ H Q=>ta σ H λx H1=>∃ c,x=.bl c/\if c=true then tb σ H1 Q else Q (.bl false) H1
def Ed (ta tb:TE):TE:=λσ H Q=>ta σ H λx H1=>∃ c,x=.bl c/\if c=true then Q (.bl true) H1 else tb σ H1 Q
def Dh (ta:TE):TE:=λσ H Q=>ta σ H λx H1=>∃ c,x=.bl c/\Q (.bl (!c)) H1
theorem wN {op} {t:TE} (h:PE X a t):PE X (.BoolOp op [a] pos) t:=λpins s σ H Q I hw=>BoolOp_one (h pins s σ H Q I hw)
theorem wJ (ha:PE X a ta) (hb:PE X (.BoolOp .And (b::rest) pos) tb):PE X (.BoolOp .And (a::b::rest) pos) (AD ta tb):=by
 intro pins s σ H Q I h
 refine BoolOp_and (aQ (ha pins s σ H _ I h) λv s1 ⟨x,H1,I1,r1,q1⟩=>?_)
 obtain⟨c,rfl,q1⟩:=q1
 cases r1
 refine wpAny_truthy_bool ?_
 cases c with
 | true=>exact hb pins s1 σ H1 Q I1 q1
 | false=>exact⟨.bl false,H1,I1,rfl,q1⟩
def Es (t:TT) (ta tb:TE):TE:=λσ H Q=>t σ H λc H1=>if c=true then ta σ H1 Q else tb σ H1 Q
theorem kg {c:Expr} (hc:PT X c tA) (ha:PE X a ta) (hb:PE X b tb):PE X (.IfExp c a b pos) (Es tA ta tb):=by
 intro pins s σ H Q I h
 refine wpAny_IfExp (aQ (hc pins s σ H _ I h) λd s1 ⟨H1,I1,q1⟩=>?_)
 cases d with
 | true=>exact ha pins s1 σ H1 Q I1 q1
 | false=>exact hb pins s1 σ H1 Q I1 q1
end
def aM (K:PySem.W.Frag) (H:Hp) (a:Addr) (xs:List V):Prop :=
 Rd H a (.lst xs) ∨
  ∃(o:Obj) (its:Array Value) (n:Nat),K.lookup a=some o/\o.cls=.type "list"/\o.dict=none/\o.data=.seq its n/\its.size<=sizeLine/\Vals xs its.toList
def bE (K:PySem.W.Frag) (H:Hp) (a:Addr) (xs:List V):Prop :=
 Rd H a (.tup xs) ∨
  ∃(o:Obj) (its:Array Value) (n:Nat),K.lookup a=some o/\o.cls=.type "tuple"/\o.data=.seq its n/\its.size<=sizeLine/\Vals xs its.toList
def DO:Value->Option V
 | .none=>some .non
 | .bool b=>some (.bl b)
 | .int i _=>some (.int i)
 | .str x _=>some (.str x)
 | .bytes b _=>some (.byt b)
 | .float b _=>some (.flt b)
 | .ref a=>some (.ref a)
 | .type n=>some (.ty n)
 | _=>none
theorem RelV.abs {x:V} {u:Value} (r:RelV x u):DO u=some x:=by
 cases x with
 | non=>cases r;rfl
 | bl _=>cases r;rfl
 | int _=>obtain⟨t,rfl⟩:=r;rfl
 | str _=>obtain⟨t,rfl⟩:=r;rfl
 | byt _=>obtain⟨t,rfl⟩:=r;rfl
 | flt _=>obtain⟨t,rfl⟩:=r;rfl
 | ref _=>cases r;rfl
 | ty _=>cases r;rfl
theorem RelV.inj {x y:V} {u:Value} (r:RelV x u) (q:RelV y u):x=y:=Option.some.inj (r.abs.symm.trans q.abs)
theorem Vals.inj:∀{xs ys:List V} {us:List Value},Vals xs us->Vals ys us->xs=ys
 | _,_,_,.nil,.nil=>rfl
 | _,_,_,.cons r t,.cons r' t'=>by rw [r.inj r',Vals.inj t t']
section
variable {X:Cx} {pins:List (Addr × Obj)} {σ:St} {H:Hp} {s:Shared} {a:Addr} {xs ys:List V}
theorem aM.of {K:PySem.W.Frag} (h:H a=some (.lst xs)):aM K H a xs:=.inl (.inl h)
theorem bE.of {K:PySem.W.Frag} (h:H a=some (.tup xs)):bE K H a xs:=.inl (.inl h)
theorem Inv.list (I:Inv X pins σ H s) (h:aM X.K H a xs):∃ its:List Value,Vals xs its/\PlainL s.heap a its.toArray/\xs.length<=sizeLine:=by
 rcases h with h | ⟨o,its,n,hk,hc,hd,hs,hz,r⟩
 ·obtain⟨z,its,n,r,e⟩:=h.ok I.hok
  exact⟨its,r,⟨_,n,e,rfl,rfl,rfl⟩,z⟩
 ·refine⟨its.toList,r,⟨o,n,I.d6 a o hk,hc,hd,by simpa using hs⟩,?_⟩
  have e:=r.length
  simp only [Array.length_toList] at e
  omega
theorem Inv.tuple (I:Inv X pins σ H s) (h:bE X.K H a xs):∃ its:List Value,Vals xs its/\IsTup s.heap a its.toArray/\xs.length<=sizeLine:=by
 rcases h with h | ⟨o,its,n,hk,hc,hs,hz,r⟩
 ·obtain⟨z,its,r,p⟩:=h.ok I.hok
  exact⟨its,r,p,z⟩
 ·refine⟨its.toList,r,⟨o,I.d6 a o hk,hc,n,by simpa using hs⟩,?_⟩
  have e:=r.length
  simp only [Array.length_toList] at e
  omega
theorem Inv.jZ (I:Inv X pins σ H s) (h:aM X.K H a xs) (h':aM X.K H a ys):xs=ys:=by
 obtain⟨its,r,⟨o,n,e,_,_,d⟩,_⟩:=I.list h
 obtain⟨its',r',⟨o',n',e',_,_,d'⟩,_⟩:=I.list h'
 rw [e] at e';cases e'
 rw [d] at d'
 injection d' with d1 _
 have:its=its':=by simpa using congrArg Array.toList d1
 subst this
 exact r.inj r'
theorem Inv.lZ (I:Inv X pins σ H s) (h:bE X.K H a xs) (h':bE X.K H a ys):xs=ys:=by
 obtain⟨its,r,⟨o,e,_,n,d⟩,_⟩:=I.tuple h
 obtain⟨its',r',⟨o',e',_,n',d'⟩,_⟩:=I.tuple h'
 rw [e] at e';cases e'
 rw [d] at d'
 injection d' with d1 _
 have:its=its':=by simpa using congrArg Array.toList d1
 subst this
 exact r.inj r'
end
abbrev Cx.iB (X:Cx) (E:Value->Shared->Prop):Cx:={ X with xe:=E }
abbrev Cx.lL (X:Cx):Cx:=X.iB λ_ _=>False
theorem Cx.Ok.iB {X:Cx} (ok:X.Ok) (E:Value->Shared->Prop):(X.iB E).Ok :=
 ⟨ok.mod,ok.kind,ok.glob,ok.blt,ok.above,ok.inj,ok.has,ok.cab,ok.hd,ok.frames,ok.stk,ok.exf,ok.bs,ok.bsz,ok.noex,ok.exfs,ok.iL,ok.frf⟩
theorem Cx.Ok.c8 {X:Cx} {E:Value->Shared->Prop} (ok:(X.iB E).Ok):X.Ok :=
 ⟨ok.mod,ok.kind,ok.glob,ok.blt,ok.above,ok.inj,ok.has,ok.cab,ok.hd,ok.frames,ok.stk,ok.exf,ok.bs,ok.bsz,ok.noex,ok.exfs,ok.iL,ok.frf⟩
section
variable {X:Cx} {pins:List (Addr × Obj)} {σ:St} {H:Hp} {s:Shared} {E:Value->Shared->Prop}
theorem Inv.iB (I:Inv X pins σ H s) (E:Value->Shared->Prop):Inv (X.iB E) pins σ H s:=⟨I.ok.iB E,I.os,I.bare,I.base,I.loc,I.cell,I.free,I.freeC,I.pin,I.hok,I.len⟩
theorem Inv.c8 (I:Inv (X.iB E) pins σ H s):Inv X pins σ H s:=⟨I.ok.c8,I.os,I.bare,I.base,I.loc,I.cell,I.free,I.freeC,I.pin,I.hok,I.len⟩
theorem SP.c8 {D:Ends} {f:Flow} {s':Shared} (h:SP (X.iB E) pins D f s'):SP X pins D f s':=by
 cases f with
 | next=>obtain⟨σ',H',I,q⟩:=h;exact⟨σ',H',I.c8,q⟩
 | brk=>obtain⟨σ',H',I,q⟩:=h;exact⟨σ',H',I.c8,q⟩
 | cont=>obtain⟨σ',H',I,q⟩:=h;exact⟨σ',H',I.c8,q⟩
 | ret u=>obtain⟨v,σ',H',I,r,q⟩:=h;exact⟨v,σ',H',I.c8,r,q⟩
theorem PE.lL {e:Expr} {t:TE} (h:PE X.lL e t):PE X e t:=λpins s σ H Q I hw =>
 wpAny_mono (h pins s σ H Q (I.iB _) hw) (λ_ _ ⟨v,H',I',r,q⟩=>⟨v,H',I'.c8,r,q⟩) λ_ _ z=>False.elim z
theorem PT.lL {e:Expr} {t:TT} (h:PT X.lL e t):PT X e t:=λpins s σ H Q I hw =>
 wpAny_mono (h pins s σ H Q (I.iB _) hw) (λ_ _ ⟨H',I',q⟩=>⟨H',I'.c8,q⟩) λ_ _ z=>False.elim z
theorem iD.lL {st:List Stmt} {t:TS} (h:iD X.lL st t):iD X st t:=λpins s σ H D I hw =>
 wpAny_mono (h pins s σ H D (I.iB _) hw) (λ_ _ q=>q.c8) λ_ _ z=>False.elim z
end
section
variable {X:Cx} {st:Stmt} {rest:List Stmt} {t u:TS} {e:Expr} {te:TE} {pos:Pos}
def AH:TS:=λD σ H=>D.nx σ H
def bJ (t u:TS):TS:=λD σ H=>t { D with nx:=u D } σ H
theorem aK:iD X [] AH:=λ_ _ σ H _ I h=>wpAny_execs_nil ⟨σ,H,I,h⟩
theorem ae (h1:PS X st t) (h2:iD X rest u):iD X (st::rest) (bJ t u):=by
 intro pins s σ H D I h
 refine wpAny_execs_cons (aQ (h1 pins s σ H { D with nx:=u D } I h) λf s1 q=>?_)
 cases f with
 | next =>
  obtain⟨σ',H',I',q⟩:=q
  exact h2 pins s1 σ' H' D I' q
 | ret v=>exact q
 | brk=>exact q
 | cont=>exact q
theorem ak (h1:PS X st t):iD X [st] t:=by
 intro pins s σ H D I h
 refine wpAny_execs_cons (aQ (h1 pins s σ H D I h) λf s1 q=>?_)
 cases f with
 | next=>exact wpAny_execs_nil q
 | ret v=>exact q
 | brk=>exact q
 | cont=>exact q
theorem Inv.quiet {pins:List (Addr × Obj)} {σ:St} {H:Hp} {s:Shared} (I:Inv X pins σ H s):interactive X.env=false:=by simp [interactive,I.ok.kind]
def AG (te:TE):TS:=λD σ H=>te σ H λ_ H1=>D.nx σ H1
theorem dF (he:PE X e te) (hs:swapsWith e none pos.line X.env=pure false:=by rfl):PS X (.Expr e pos) (AG te):=by
 intro pins s σ H D I h
 exact wpAny_Expr_any (aQ (he pins s σ H _ I h) λv s1 ⟨x,H1,I1,r1,q1⟩=>⟨σ,H1,I1,q1⟩) I.quiet hs
def pX (te:TE):TS:=λD σ H=>te σ H D.rt
theorem az (he:PE X e te):PS X (.Return (some e) pos) (pX te):=by
 intro pins s σ H D I h
 exact wpAny_Return_some (aQ (he pins s σ H _ I h) λv s1 ⟨x,H1,I1,r1,q1⟩=>⟨x,σ,H1,I1,r1,q1⟩)
def Dk:TS:=λD _ H=>D.rt .non H
def BS (c:TT) (t u:TS):TS:=λD σ H=>c σ H λb H1=>if b=true then t D σ H1 else u D σ H1
theorem bp {c:Expr} {a b:List Stmt} {tc:TT} (hc:PT X c tc) (ha:iD X a t) (hb:iD X b u):PS X (.If c a b pos) (BS tc t u):=by
 intro pins s σ H D I h
 refine wpAny_If (aQ (hc pins s σ H _ I h) λd s1 ⟨H1,I1,q1⟩=>?_)
 cases d with
 | true=>exact ha pins s1 σ H1 D I1 q1
 | false=>exact hb pins s1 σ H1 D I1 q1
end
abbrev TG:=V->St->Hp->(St->Hp->Prop)->Prop
abbrev Ac:=List V->St->Hp->(St->Hp->Prop)->Prop
def PG (X:Cx) (target:Expr) (t:TG):Prop :=
 ∀(pins:List (Addr × Obj)) (s:Shared) (σ:St) (H:Hp) (v:V) (u:Value) (Q:St->Hp->Prop),Inv X pins σ H s->RelV v u->t v σ H Q ->
  wpAny (model X.prog X.w) X.A (assign target X.env u) (λ_ s'=>∃ σ' H',Inv X pins σ' H' s'/\Q σ' H') X.xe s
def Cq (X:Cx) (ts:List Expr) (t:Ac):Prop :=
 ∀(pins:List (Addr × Obj)) (s:Shared) (σ:St) (H:Hp) (vs:List V) (us:List Value) (Q:St->Hp->Prop),Inv X pins σ H s->Vals vs us->t vs σ H Q ->
  wpAny (model X.prog X.w) X.A (assignInOrder ((assignEach ts X.env).map (·.2)) us) (λ_ s'=>∃ σ' H',Inv X pins σ' H' s'/\Q σ' H') X.xe s
abbrev DL:=V->V->V->Hp->(Hp->Prop)->Prop
abbrev DK:=V->V->Hp->VK->Prop
def Ek (X:Cx) (op:Operator) (t:DK):Prop :=
 ∀(pins:List (Addr × Obj)) (s:Shared) (σ:St) (H:Hp) (x y:V) (v u:Value) (Q:VK),Inv X pins σ H s->RelV x v->RelV y u->t x y H Q ->
  wpAny (model X.prog X.w) X.A (inplaceOp op v u) (EP X pins σ Q) X.xe s
section
variable {X:Cx} {pos:Pos}
def b8 (i:Nat):TG:=λv σ H Q=>Q (σ.set i (some v)) H
theorem aq {i:Nat} {x:Str} (hN:X.N.Nodup) (hi:X.N[i]?=some x) (hx:Loc X.env.scope x) (hf:X.fn x=true∨X.env.scope.names.lookup x=some .local:=by first | exact .inl rfl | exact .inr rfl | assumption):PG X (.Name x pos) (b8 i):=by
 intro pins s σ H v u Q I r h
 exact wpAny_assign_Name (cf I hN hi hx r (λs' I'=>⟨_,H,I',h⟩) hf)
def yI:Ac:=λvs σ H Q=>vs=[]/\Q σ H
def ly (t:TG) (u:Ac):Ac:=λvs σ H Q=>∃ v r,vs=v::r/\t v σ H λσ' H'=>u r σ' H' Q
theorem aP:Cq X [] yI:=by
 intro pins s σ H vs us Q I r h
 obtain⟨e,h⟩:=h
 subst e
 cases r
 exact assignInOrder_nil ⟨σ,H,I,h⟩
theorem aw {e:Expr} {es:List Expr} {t:TG} {u:Ac} (h1:PG X e t) (h2:Cq X es u)
  (hs:(assignEach (e::es) X.env).map (·.2)=assign e X.env::(assignEach es X.env).map (·.2):=by rfl):Cq X (e::es) (ly t u):=by
 intro pins s σ H vs us Q I r h
 obtain⟨v,vr,e1,h⟩:=h
 subst e1
 cases r with
 | cons r rr =>
  rw [hs]
  refine assignInOrder_cons (aQ (h1 pins s σ H _ _ _ I r h) λ_ s1 ⟨σ1,H1,I1,q1⟩=>?_)
  exact h2 pins s1 σ1 H1 _ _ Q I1 rr q1
def oa (K:PySem.W.Frag) (n:Nat) (t:Ac):TG:=λv σ H Q=>∃ a xs,v=.ref a/\bE K H a xs/\xs.length=n/\t xs σ H Q
theorem cz {es:List Expr} {k:Nat} {t:Ac} {n:Nat} (hc:X.calm=true) (h:Cq X es t)
  (hn:(assignEach es X.env).length=n:=by rfl) (hst:(assignEach es X.env).findIdx? (·.1)=none:=by rfl):PG X (.Tuple es k pos) (oa X.K n t):=by
 intro pins s σ H v u Q I r hw
 obtain⟨a,xs,e1,hq,hl,hw⟩:=hw
 subst e1
 cases r
 obtain⟨its,rv,ht,hz⟩:=I.tuple hq
 refine assign_Tuple_tuple (I.ok.hd hc) ht (by simp [hn,<- hl,rv.length]) hst λh' hx=>?_
 have I1:Inv X pins σ H { s with heap:=h' }:=I.kept (t':=s.toks) λb o e=>hx b o (Nat.ne_of_lt (Heap.lt_size e)) e
 exact h pins _ σ H xs _ Q I1 (by simpa using rv) hw
def DU (to ti:TE) (t:DL):TG:=λv σ H Q=>to σ H λo H1=>ti σ H1 λi H2=>t o i v H2 λH3=>Q σ H3
def rB (te:TE) (g:TG):TS:=λD σ H=>te σ H λx H1=>g x σ H1 D.nx
theorem fv {tg e:Expr} {te:TE} {g:TG} (he:PE X e te) (hg:PG X tg g) (hs:swapsWithSole [tg] e pos.line X.env=pure false:=by rfl) (hw:swappedStores [tg] e X.env=pure none:=by rfl)
  (h1:(assignEach [tg] X.env).map (·.2)=[assign tg X.env]:=by rfl):PS X (.Assign [tg] e pos) (rB te g):=by
 intro pins s σ H D I h
 refine wpAny_Assign_stores (aQ (he pins s σ H _ I h) λv s1 ⟨x,H1,I1,r1,q1⟩=>?_) hs hw
 rw [h1]
 exact aQ (hg pins s1 σ H1 x v _ I1 r1 q1) λ_ s2 q=>q
theorem iU {i:Nat} {x:Str} {e:Expr} {te:TE} {pos':Pos} (hN:X.N.Nodup) (hi:X.N[i]?=some x) (hx:Loc X.env.scope x) (he:PE X e te) (hs:swapsWith e (some (.Name x pos')) pos.line X.env=pure false:=by rfl) (hf:X.fn x=true∨X.env.scope.names.lookup x=some .local:=by first | exact .inl rfl | exact .inr rfl | assumption) :
  PS X (.Assign [.Name x pos'] e pos) (rB te (b8 i)):=by
 intro pins s σ H D I h
 refine wpAny_Assign_Name (aQ (he pins s σ H _ I h) λv s1 ⟨y,H1,I1,r1,q1⟩=>?_) hs
 exact cf I1 hN hi hx r1 (λs2 I2=>⟨_,H1,I2,q1⟩) hf
def Dj (i j:Nat) (ta:TA):TS:=λD σ H=>ta σ H λvs H1=>∃ v w,vs=[v,w]/\D.nx ((σ.set i (some v)).set j (some w)) H1
theorem mT {i j:Nat} {x y:Str} {a b:Expr} {ta:TA} {px py pt:Pos} {kt k2 pt2} (hc:X.calm=true) (hN:X.N.Nodup) (hi:X.N[i]?=some x) (hj:X.N[j]?=some y) (hij:i≠j)
  (hx:X.env.scope.names.lookup x=some .local) (hy:X.env.scope.names.lookup y=some .local) (ha:PA X [a,b] ta)
  (hw:swappedStores [.Tuple [.Name x px,.Name y py] kt pt] (.Tuple [a,b] k2 pt2) X.env=pure (some [x,y]))
  (hs:swapsWithSole [.Tuple [.Name x px,.Name y py] kt pt] (.Tuple [a,b] k2 pt2) pos.line X.env=pure false:=by rfl) :
  PS X (.Assign [.Tuple [.Name x px,.Name y py] kt pt] (.Tuple [a,b] k2 pt2) pos) (Dj i j ta):=by
 intro pins s σ H D I h
 rw [exec_Assign_arm]
 refine wpAny_bind (wpAny_standAt ?_)
 rw [hs]
 refine wpAny_bind (wpAny_pure ?_)
 rw [if_neg (by decide)]
 refine wpAny_bind (Tuple_ (aQ (ha _ pins s σ H _ I h) λus s1 ⟨vs,H1,I1,r1,q1⟩=>?_))
 obtain⟨v,w,e1,q1⟩:=q1
 subst e1
 obtain⟨u1,u2,rfl,rv,rw'⟩:∃ u1 u2,us=[u1,u2]/\RelV v u1/\RelV w u2:=by
  cases r1 with
  | cons p q =>
   cases q with
   | cons p' q' =>
    cases q'
    exact⟨_,_,rfl,p,p'⟩
 refine wpAny_newObj_type ?_ (by show 2<=sizeLine;decide)
 have I2:Inv X pins σ H1 { s1 with heap:=s1.heap.push { cls:=.type "tuple",data:=.seq [u1,u2].toArray } }:=I1.kept (t':=s1.toks) λb o e=>Heap.get?_push_of_some _ e
 rw [hw]
 refine wpAny_bind (wpAny_pure ?_)
 show wpAny (model X.prog X.w) X.A (do rule "assign.swapped-stores";let items <- unpackItems (.ref s1.heap.objs.size) 2 none;assignInOrder [λv=>bindName X.env y v,λv=>bindName X.env x v] items.reverse;pure Flow.next) _ _ _
 refine wpAny_bind (wpAny_rule (wpAny_bind (unpackItems_tuple (items:=#[u1,u2]) (I.ok.hd hc) (IsTup.new s1.heap _) λh' hx'=>?_)))
 have I3:=I2.kept (h':=h') (t':=s1.toks) λb o e=>hx' b o (Nat.ne_of_lt (Heap.lt_size e)) e
 show wpAny _ _ (assignInOrder [λv=>bindName X.env y v,λv=>bindName X.env x v] [u2,u1] >>= λ_=>pure Flow.next) _ _ _
 refine wpAny_bind (assignInOrder_cons (wpAny_bindName (cf I3 hN hj (.inl hy) rw' (λs2 I4=>?_) (.inr hy))))
 refine assignInOrder_cons (wpAny_bindName (cf I4 hN hi (.inl hx) rv (λs3 I5=>assignInOrder_nil (wpAny_pure ?_)) (.inr hx)))
 rw [List.set_comm _ _ (Ne.symm hij)] at I5
 exact⟨_,H1,I5,q1⟩
def C7 (i:Nat) (te:TE) (ti:DK):TS:=λD σ H=>∃ x,σ[i]?=some (some x)/\te σ H λy H1=>ti x y H1 λz H2=>D.nx (σ.set i (some z)) H2
theorem gD {i:Nat} {x:Str} {e:Expr} {te:TE} {op:Operator} {ti:DK} {pos':Pos} (hN:X.N.Nodup) (hi:X.N[i]?=some x) (hx:Loc X.env.scope x) (he:PE X e te) (ho:Ek X op ti) (hf:X.fn x=true∨X.env.scope.names.lookup x=some .local:=by first | exact .inl rfl | exact .inr rfl | assumption) :
  PS X (.AugAssign (.Name x pos') op e pos) (C7 i te ti):=by
 intro pins s σ H D I h
 obtain⟨v,e1,h⟩:=h
 obtain⟨m,hn,hl⟩:=I.loc
 have vis:B9 X.env.scope x:=by rcases hx with k | k;exact .inl k;exact .inr (.inl k)
 obtain⟨u,r,l⟩:=hl i x v hi e1 vis
 refine wpAny_AugAssign_Name ?_
 have go:wpAny (model X.prog X.w) X.A (eval e X.env) (λw s₂=>wpAny (model X.prog X.w) X.A (inplaceOp op u w) (λr s₃=>wpAny (model X.prog X.w) X.A (storeName X.env x r) (λ_=>SP X pins D .next) X.xe s₃) X.xe s₂) X.xe s:=by
  refine aQ (he pins s σ H _ I h) λw s1 ⟨y,H1,I1,r1,q1⟩=>?_
  refine aQ (ho pins s1 σ H1 v y u w _ I1 r r1 q1) λz s2 ⟨zv,H2,I2,r2,q2⟩=>?_
  exact cf I2 hN hi hx r2 (λs3 I3=>⟨_,H2,I3,q2⟩) hf
 rcases l with⟨hk,hm⟩|⟨hk,c,hc,hcell⟩
 ·exact wpAny_loadName_local I.ok.kind hk hn hm go
 ·rcases hk with hk | hk
  ·exact wpAny_loadName_cell I.ok.kind hk hc hcell go
  ·rcases hx with k | k
   ·have:X.env.scope.names.lookup x=some .free:=hk
    rw [k] at this;cases this
   ·have:X.env.scope.names.lookup x=some .free:=hk
    rw [k] at this;cases this
end
section
variable {X:Cx} {pos:Pos}
def xS (c:TT) (tb:TS):TS:=λD σ H=>∃ W:Nat->St->Hp->Prop,(∃ m,W m σ H)/\∀ m σ H,W m σ H ->
 c σ H λb H1=>if b=true then ∃ N:St->Hp->Prop,(∀ σ' H',N σ' H'->∃ m',m'<m/\W m' σ' H')/\tb { D with nx:=N,ct:=N,bk:=D.nx } σ H1 else D.nx σ H1
theorem bO {c:Expr} {body:List Stmt} {tc:TT} {tb:TS} (hp:PassesOwn (model X.prog X.w) X.A X.env X.xe) (hc:PT X c tc) (hb:iD X body tb):PS X (.While c body [] pos) (xS tc tb):=by
 intro pins s σ H D I h
 obtain⟨W,⟨m0,w0⟩,turn⟩:=h
 refine wpAny_While (codeAny_whileLoop (λn s'=>∃ σ' H',Inv X pins σ' H' s'/\W n σ' H') ?_ m0 ⟨σ,H,I,w0⟩)
 rintro n s1 ⟨σ1,H1,I1,w1⟩
 refine wpAny_passesOwn hp (aQ (hc pins s1 σ1 H1 _ I1 (turn n σ1 H1 w1)) λb s2 ⟨H2,I2,q2⟩=>?_)
 cases b with
 | true =>
  obtain⟨N,hN,q2⟩:=q2
  rw [if_pos rfl]
  refine wpAny_passesOwn hp (aQ (hb pins s2 σ1 H2 _ I2 q2) λf s3 q3=>?_)
  cases f with
  | next =>
   obtain⟨σ3,H3,I3,n3⟩:=q3
   obtain⟨m',hm,w3⟩:=hN σ3 H3 n3
   exact⟨m',hm,σ3,H3,I3,w3⟩
  | cont =>
   obtain⟨σ3,H3,I3,n3⟩:=q3
   obtain⟨m',hm,w3⟩:=hN σ3 H3 n3
   exact⟨m',hm,σ3,H3,I3,w3⟩
  | brk=>exact q3
  | ret v=>exact q3
 | false =>
  rw [if_neg Bool.false_ne_true]
  exact wpAny_execs_nil ⟨σ1,H2,I2,q2⟩
end
structure It where
 go:Nat->Hp->Prop
 yld:Nat->Hp->V->Hp->Prop
 stop:Nat->Hp->Prop
def kL (X:Cx) (pins:List (Addr × Obj)) (H:Hp) (b:Addr):Prop :=
 H b=none/\b≠X.env.locals/\b∉X.fs/\(b∈X.ex∨X.s₀.heap.objs.size<=b)/\(∀ x c,X.env.cells.lookup x=some c->c≠b)/\∀ p∈X.pn++pins,p.1≠b
theorem Inv.my {X:Cx} {pins:List (Addr × Obj)} {σ:St} {H H':Hp} {s:Shared} {b:Addr} (I:Inv X pins σ H s) (hb:s.heap.objs.size<=b) (hn:H' b=none):kL X pins H' b:=by
 refine⟨hn,Nat.ne_of_gt (Nat.lt_of_lt_of_le I.lt hb),I.yT hb,.inr (Nat.le_trans I.sz hb),λx c e z=>?_,λp hp z=>?_⟩
 ·obtain⟨v,q⟩:=I.cell x c e
  exact absurd (Nat.lt_of_lt_of_le q.lt (by rw [z];exact hb)) (Nat.lt_irrefl _)
 ·exact absurd (Nat.lt_of_lt_of_le (Heap.lt_size (I.pin p hp).1) (by rw [z];exact hb)) (Nat.lt_irrefl _)
structure Turn (P:Program) (w:World) (K:PySem.W.Frag) (tg:Expr) (J:It) (fp:List Addr) (it:Addr) (tn:Nat->Heap->Prop):Prop where
 mem:it∈fp
 obj:∀ i h,tn i h->∀ b∈fp,∃ o,h.get? b=some o/\∀ v,o.data≠.cell v
 keep:∀ i h h',tn i h->(∀ b∈fp,∀ o,h.get? b=some o->h'.get? b=some o)->tn i h'
 item:∀(X:Cx),X.prog=P->X.w=w->X.K=K->X.calm=true->∀(i:Nat) (pins:List (Addr × Obj)) (s:Shared) (σ:St) (H:Hp) (E:Value->Shared->Prop),Inv X pins σ H s->(∀ b∈fp,kL X pins H b)->tn i s.heap->J.go i H ->
  wpAny (model P w) X.A (pyNext (.ref it)) (λr s1=>∃ u,r=some u /\
   wpAny (model P w) X.A (letOwnedTupleGo tg (.ref it) u) (λ_ s2=>∃ x H',Inv X pins σ H' s2/\RelV x u/\J.yld i H x H'/\tn (i+1) s2.heap/\∀ b∈fp,H' b=none) E s1) E s
 done:∀(X:Cx),X.prog=P->X.w=w->X.K=K->X.calm=true->∀(i:Nat) (pins:List (Addr × Obj)) (s:Shared) (σ:St) (H:Hp) (E:Value->Shared->Prop),Inv X pins σ H s->(∀ b∈fp,kL X pins H b)->tn i s.heap->J.stop i H ->
  wpAny (model P w) X.A (pyNext (.ref it)) (λr s1=>r=none/\Inv X pins σ H s1) E s
 self:∀(A:Around) (i:Nat) (s:Shared) (Q:Value->Shared->Prop) (E:Value->Shared->Prop),tn i s.heap->Q (.ref it) s->wpAny (model P w) A (pyIter (.ref it)) Q E s
abbrev TI:=St->Hp->(It->Hp->Prop)->Prop
def Dy (X:Cx) (pins:List (Addr × Obj)) (σ:St) (tg:Expr) (R:It->Hp->Prop) (itv:Value) (s2:Shared):Prop :=
 ∃(it:Addr) (fp:List Addr) (tn:Nat->Heap->Prop) (J:It) (H':Hp),itv=.ref it/\Inv X pins σ H' s2/\Turn X.prog X.w X.K tg J fp it tn/\tn 0 s2.heap/\(∀ b∈fp,kL X pins H' b)/\R J H'
def PI (X:Cx) (tg iter:Expr) (wi:TI):Prop :=
 ∀(pins:List (Addr × Obj)) (s:Shared) (σ:St) (H:Hp) (R:It->Hp->Prop),Inv X pins σ H s->wi σ H R ->
  wpAny (model X.prog X.w) X.A (eval iter X.env) (λv s1=>wpAny (model X.prog X.w) X.A (pyIter v) (Dy X pins σ tg R) X.xe s1) X.xe s
theorem vJ {M:Model} {A:Around} {E:Value->Shared->Prop} {s:Shared} {tg:Expr} {it:Addr} {u:Value} {o:Obj} {n:String} {vs:Array Value} {Q:Unit->Shared->Prop} (ho:s.heap.get? it=some o) (hc:o.cls=.type n) (hd:o.data=.fields vs)
    (hn:["enumerate","zip","dict_itemiterator","dict_reverseitemiterator","odict_iterator","itertools.zip_longest","itertools.pairwise"].contains n=false) (hQ:Q () s):wpAny M A (letOwnedTupleGo tg (.ref it) u) Q E s:=by
  unfold letOwnedTupleGo
  cases tg<;>first
    | exact wpAny_pure hQ
    | (cases u<;>first
        | exact wpAny_pure hQ
        | (refine wpAny_bind (wpAny_load ho ?_)
           rw [hc,hd]
           show wpAny M A (if (["enumerate","zip","dict_itemiterator","dict_reverseitemiterator","odict_iterator","itertools.zip_longest","itertools.pairwise"].contains n && vs[0]?==some (rawInt _))=true then _ else _) Q E s
           rw [if_neg (by intro h;rw [hn,Bool.false_and] at h;cases h)]
           exact wpAny_pure hQ))
def ye (K:PySem.W.Frag) (a:Addr):It :=
 ⟨λi H=>∃ xs x,aM K H a xs/\xs[i]?=some x,λi H x H'=>H'=H/\∀ xs,aM K H a xs->xs[i]?=some x,λi H=>∃ xs,aM K H a xs/\xs.length<=i⟩
def AX (K:PySem.W.Frag) (a:Addr):It :=
 ⟨λi H=>∃ xs x,bE K H a xs/\xs[i]?=some x,λi H x H'=>H'=H/\∀ xs,bE K H a xs->xs[i]?=some x,λi H=>∃ xs,bE K H a xs/\xs.length<=i⟩
def Aa (lo:Int) (n:Nat):It:=⟨λi _=>i<n,λi H x H'=>H'=H/\x=.int (lo+i),λi _=>n<=i⟩
theorem uO {P:Program} {w:World} {K:PySem.W.Frag} {tg:Expr} (a it:Addr):Turn P w K tg (ye K a) [it] it (λi h=>h.IsListIter it a i) where
 mem:=by simp
 obj:=λi h st b hb=>by
  have e:b=it:=by simpa using hb
  subst e
  obtain⟨o,e,c,d⟩:=st
  exact⟨o,e,λv z=>by rw [d] at z;cases z⟩
 keep:=λi h h' st k=>st.at λo e=>k it (by simp) o e
 item:=by
  intro X hP hw hK hc i pins s σ H E I hf st hg
  subst hP hw hK
  obtain⟨xs,x,hq,hx⟩:=hg
  obtain⟨its,rv,p,hz⟩:=I.list hq
  obtain⟨u,hu,ru⟩:=rv.get hx
  obtain⟨f0,f1,f2,f3,f4,f5⟩:=hf it (by simp)
  refine wpAny_pyNext_list_item st p.isList (x:=u) (by simpa using hu) λh' st' sb=>?_
  have I1:Inv X pins σ H { s with heap:=h' }:=I.turned (t':=s.toks) (λb o hb e=>(sb.2 b hb).trans e) f0 f1 f3 f4 f5
  obtain⟨o,e,c,d⟩:=id st'
  exact⟨u,rfl,vJ (s:={ s with heap:=h' }) e c d (by decide) ⟨x,H,I1,ru,⟨rfl,λys hy=>by rw [I.jZ hy hq];exact hx⟩,st',λb hb=>(hf b hb).1⟩⟩
 done:=by
  intro X hP hw hK hc i pins s σ H E I hf st hg
  subst hP hw hK
  obtain⟨xs,hq,hx⟩:=hg
  obtain⟨its,rv,p,hz⟩:=I.list hq
  obtain⟨f0,f1,f2,f3,f4,f5⟩:=hf it (by simp)
  have hl:=rv.length
  exact wpAny_pyNext_list_end (I.ok.hd hc) st p.isList (by simp;omega) λh' eb=>⟨rfl,I.turned (t':=s.toks) (λb o hb e=>eb b o hb e) f0 f1 f3 f4 f5⟩
 self:=λ_ _ _ _ _ st h=>wpAny_pyIter_listiter st h
theorem rE {P:Program} {w:World} {K:PySem.W.Frag} {tg:Expr} (a it:Addr):Turn P w K tg (AX K a) [it] it (λi h=>h.IsTupleIter it a i) where
 mem:=by simp
 obj:=λi h st b hb=>by
  have e:b=it:=by simpa using hb
  subst e
  obtain⟨o,e,c,d⟩:=st
  exact⟨o,e,λv z=>by rw [d] at z;cases z⟩
 keep:=λi h h' st k=>st.at λo e=>k it (by simp) o e
 item:=by
  intro X hP hw hK hc i pins s σ H E I hf st hg
  subst hP hw hK
  obtain⟨xs,x,hq,hx⟩:=hg
  obtain⟨its,rv,p,hz⟩:=I.tuple hq
  obtain⟨u,hu,ru⟩:=rv.get hx
  obtain⟨f0,f1,f2,f3,f4,f5⟩:=hf it (by simp)
  refine wpAny_pyNext_tuple_item st (show s.heap.IsTuple a its.toArray from p) (x:=u) (by simpa using hu) λh' st' sb=>?_
  have I1:Inv X pins σ H { s with heap:=h' }:=I.turned (t':=s.toks) (λb o hb e=>(sb.2 b hb).trans e) f0 f1 f3 f4 f5
  obtain⟨o,e,c,d⟩:=id st'
  exact⟨u,rfl,vJ (s:={ s with heap:=h' }) e c d (by decide) ⟨x,H,I1,ru,⟨rfl,λys hy=>by rw [I.lZ hy hq];exact hx⟩,st',λb hb=>(hf b hb).1⟩⟩
 done:=by
  intro X hP hw hK hc i pins s σ H E I hf st hg
  subst hP hw hK
  obtain⟨xs,hq,hx⟩:=hg
  obtain⟨its,rv,p,hz⟩:=I.tuple hq
  obtain⟨f0,f1,f2,f3,f4,f5⟩:=hf it (by simp)
  have hl:=rv.length
  exact wpAny_pyNext_tuple_end (I.ok.hd hc) st (show s.heap.IsTuple a its.toArray from p) (by simp;omega) λh' eb=>⟨rfl,I.turned (t':=s.toks) (λb o hb e=>eb b o hb e) f0 f1 f3 f4 f5⟩
 self:=λ_ _ _ _ _ st h=>wpAny_pyIter_tupleiter st h
theorem rD {P:Program} {w:World} {K:PySem.W.Frag} {tg:Expr} (it:Addr) (lo:Int) (n:Nat):Turn P w K tg (Aa lo n) [it] it (λi h=>IsRangeIter h it (lo+(i:Nat)*1) ((n:Int)-(i:Nat)) 1) where
 mem:=by simp
 obj:=λi h st b hb=>by
  have e:b=it:=by simpa using hb
  subst e
  exact⟨_,st,λv z=>by
   have z':Data.fields _=Data.cell v:=z
   cases z'⟩
 keep:=λi h h' st k=>k it (by simp) _ st
 item:=by
  intro X hP hw hK hc i pins s σ H E I hf st hg
  subst hP hw hK
  obtain⟨f0,f1,f2,f3,f4,f5⟩:=hf it (by simp)
  have W:=Walks.range (prog:=X.prog) (w:=X.w) (I.ok.hd hc) it lo 1 n
  refine W.item i s _ _ hg st λv h' tk hv st' kk=>?_
  obtain⟨t,rfl⟩:=hv
  have I1:Inv X pins σ H { s with heap:=h',toks:=tk }:=I.turned (λb o hb e=>kk b o (by simpa using hb) e) f0 f1 f3 f4 f5
  refine⟨_,rfl,vJ (s:={ s with heap:=h',toks:=tk }) (n := "range_iterator") st' rfl rfl (by decide) ⟨.int (lo+i),H,I1,⟨t,?_⟩,⟨rfl,rfl⟩,st',λb hb=>(hf b hb).1⟩⟩
  rw [Int.mul_one]
 done:=by
  intro X hP hw hK hc i pins s σ H E I hf st hg
  subst hP hw hK
  obtain⟨f0,f1,f2,f3,f4,f5⟩:=hf it (by simp)
  exact wpAny_pyNext_range_end (I.ok.hd hc) st (by have:n<=i:=hg;omega) λh' eb=>⟨rfl,I.turned (t':=s.toks) (λb o hb e=>eb b o hb e) f0 f1 f3 f4 f5⟩
 self:=λ_ _ _ _ _ st h=>wpAny_pyIter_rangeiter st h
section
variable {X:Cx} {tg:Expr}
def vM (K:PySem.W.Frag) (tl:TE):TI:=λσ H R=>tl σ H λx H1=>∃ a,x=.ref a/\(∃ xs,aM K H1 a xs)/\R (ye K a) H1
def CA (K:PySem.W.Frag) (tl:TE):TI:=λσ H R=>tl σ H λx H1=>∃ a,x=.ref a/\(∃ xs,bE K H1 a xs)/\R (AX K a) H1
theorem bo {l:Expr} {tl:TE} (hl:PE X l tl):PI X tg l (vM X.K tl):=by
 intro pins s σ H R I h
 refine aQ (hl pins s σ H _ I h) λv s1 ⟨x,H1,I1,r1,q1⟩=>?_
 obtain⟨a,e,⟨xs,hq⟩,q⟩:=q1
 subst e
 cases r1
 obtain⟨its,rv,p,hz⟩:=I1.list hq
 refine wpAny_pyIter_list p.isList ?_
 refine⟨s1.heap.objs.size,[s1.heap.objs.size],_,_,H1,rfl,I1.kept (t':=s1.toks) λb o e=>Heap.get?_push_of_some _ e,uO a _,⟨_,Heap.get?_push_size _ rfl,rfl,rfl⟩,λb hb=>?_,q⟩
 have e:b=s1.heap.objs.size:=by simpa using hb
 subst e
 exact I1.my (Nat.le_refl _) (I1.hok.fresh (Nat.le_refl _))
theorem iT {l:Expr} {tl:TE} (hl:PE X l tl):PI X tg l (CA X.K tl):=by
 intro pins s σ H R I h
 refine aQ (hl pins s σ H _ I h) λv s1 ⟨x,H1,I1,r1,q1⟩=>?_
 obtain⟨a,e,⟨xs,hq⟩,q⟩:=q1
 subst e
 cases r1
 obtain⟨its,rv,p,hz⟩:=I1.tuple hq
 refine wpAny_pyIter_tuple (show s1.heap.IsTuple a its.toArray from p) ?_
 refine⟨s1.heap.objs.size,[s1.heap.objs.size],_,_,H1,rfl,I1.kept (t':=s1.toks) λb o e=>Heap.get?_push_of_some _ e,rE a _,⟨_,Heap.get?_push_size _ rfl,rfl,rfl⟩,λb hb=>?_,q⟩
 have e:b=s1.heap.objs.size:=by simpa using hb
 subst e
 exact I1.my (Nat.le_refl _) (I1.hok.fresh (Nat.le_refl _))
theorem pH {pins:List (Addr × Obj)} {σ:St} {H:Hp} {s:Shared} {R:It->Hp->Prop} {E:Value->Shared->Prop} {lo hi:Int} {t u v:Tok} {tk:Nat} (I:Inv X pins σ H s) (h1:-(2^62)<=lo) (h2:lo<2^62) (h3:-(2^62)<=hi) (h4:hi<2^62)
  (q:R (Aa lo (hi-lo).toNat) H):wpAny (model X.prog X.w) X.A (pyIter (.ref s.heap.objs.size)) (Dy X pins σ tg R) E { s with heap:=s.heap.push { cls:=.type "range",data:=.fields #[.int lo t,.int hi u,.int 1 v] },toks:=tk }:=by
 refine wpAny_pyIter_range (IsRange.new ..) (small_one h1 h2 h3 h4) ?_
 have I1:Inv X pins σ H { s with heap:=s.heap.push { cls:=.type "range",data:=.fields #[.int lo t,.int hi u,.int 1 v] },toks:=tk }:=I.kept λb o e=>Heap.get?_push_of_some _ e
 refine⟨(s.heap.push { cls:=.type "range",data:=.fields #[.int lo t,.int hi u,.int 1 v] }).objs.size,[(s.heap.push { cls:=.type "range",data:=.fields #[.int lo t,.int hi u,.int 1 v] }).objs.size],_,_,H,rfl,
  I1.kept (t':=tk) λb o e=>Heap.get?_push_of_some _ e,rD _ lo (hi-lo).toNat,?_,λb hb=>?_,q⟩
 ·have e1:lo+((0:Nat):Int)*1=lo:=by simp
  have e2:(((hi-lo).toNat:Nat):Int)-((0:Nat):Int)=Builtin.Range.rangeSize lo hi 1:=by rw [rangeSize_one];split<;>omega
  show IsRangeIter _ _ (lo+((0:Nat):Int)*1) ((((hi-lo).toNat:Nat):Int)-((0:Nat):Int)) 1
  rw [e1,e2]
  exact Heap.get?_push_size _ rfl
 ·have e:b=(s.heap.push { cls:=.type "range",data:=.fields #[.int lo t,.int hi u,.int 1 v] }).objs.size:=by simpa using hb
  subst e
  exact I1.my (Nat.le_refl _) (I1.hok.fresh (Nat.le_refl _))
def Ak (ta:TA):TI:=λσ H R=>ta σ H λvs H1=>∃ j:Int,vs=[.int j] /\ -(2^62)<=j/\j<2^62/\R (Aa 0 j.toNat) H1
def Am (ta:TA):TI:=λσ H R=>ta σ H λvs H1=>∃ i j:Int,vs=[.int i,.int j]/\(-(2^62)<=i/\i<2^62 /\ -(2^62)<=j/\j<2^62)/\R (Aa i (j-i).toNat) H1
theorem bZ {a:Expr} {ta:TA} {p pos:Pos} (hg:Gl X "range") (hm:X.mg "range"=none) (ha:PA X [a] ta) (hs:starEach [a] X.env=[(false,eval a X.env)]:=by rfl):PI X tg (.Call (.Name "range" p) [a] [] pos) (Ak ta):=by
 intro pins s σ H R I h
 refine Call_ (gw I hg hm boot_range (PyProof.Rows.callWith_type1 (aQ (ha pos pins s σ H _ I h) λus s1 ⟨vs,H1,I1,r1,q1⟩=>?_) hs rfl))
 obtain⟨j,e,q1,q2,q⟩:=q1
 subst e
 cases r1 with
 | cons r rr =>
  cases rr
  obtain⟨t,rfl⟩:=r
  exact call_range_1 (pH I1 (by omega) (by omega) q1 q2 (by simpa using q))
theorem uD {a b:Expr} {ta:TA} {p pos:Pos} (hg:Gl X "range") (hm:X.mg "range"=none) (ha:PA X [a,b] ta) (hs:starEach [a,b] X.env=[(false,eval a X.env),(false,eval b X.env)]:=by rfl) (hs2:starEach [b] X.env=[(false,eval b X.env)]:=by rfl) :
  PI X tg (.Call (.Name "range" p) [a,b] [] pos) (Am ta):=by
 intro pins s σ H R I h
 refine Call_ (gw I hg hm boot_range (PyProof.Rows.callWith_type1 (aQ (ha pos pins s σ H _ I h) λus s1 ⟨vs,H1,I1,r1,q1⟩=>?_) (by rw [hs,hs2]) (by rw [hs2];rfl)))
 obtain⟨i,j,e,⟨q1,q2,q3,q4⟩,q⟩:=q1
 subst e
 cases r1 with
 | cons r rr =>
  cases rr with
  | cons r' rr =>
   cases rr
   obtain⟨t,rfl⟩:=r
   obtain⟨t',rfl⟩:=r'
   exact call_range_2 (pH I1 q1 q2 q3 q4 q)
def Dc (wi:TI) (g:TG) (tb:TS):TS:=λD σ H=>wi σ H λJ H1=>∃ W:Nat->Nat->St->Hp->Prop,(∃ m,W 0 m σ H1)/\∀ i m σ H,W i m σ H ->
 (J.stop i H/\D.nx σ H)∨(J.go i H/\∃ N:St->Hp->Prop,(∀ σ' H',N σ' H'->∃ m',m'<m/\W (i+1) m' σ' H')/\∀ x H',J.yld i H x H'->g x σ H' λσ2 H2=>tb { D with nx:=N,ct:=N,bk:=D.nx } σ2 H2)
def fu (fp:List Addr) (h:Heap):List (Addr × Obj):=fp.filterMap λb=>(h.get? b).map λo=>(b,o)
theorem cT {fp:List Addr} {h:Heap} {b:Addr} {o:Obj} (hb:b∈fp) (e:h.get? b=some o):(b,o)∈fu fp h:=List.mem_filterMap.mpr ⟨b,hb,by rw [e];rfl⟩
theorem iR {fp:List Addr} {h:Heap} {p:Addr × Obj} (hp:p∈fu fp h):p.1∈fp/\h.get? p.1=some p.2:=by
 obtain⟨b,hb,e⟩:=List.mem_filterMap.mp hp
 cases q:h.get? b with
 | none=>rw [q] at e;cases e
 | some o =>
  rw [q] at e
  have e':(b,o)=p:=Option.some.inj e
  subst e'
  exact⟨hb,q⟩
theorem Inv.pinned {pins:List (Addr × Obj)} {σ:St} {H:Hp} {s:Shared} {fp:List Addr} (I:Inv X pins σ H s) (hf:∀ b∈fp,kL X pins H b) (ho:∀ b∈fp,∃ o,s.heap.get? b=some o/\∀ v,o.data≠.cell v):Inv X (pins++fu fp s.heap) σ H s :=
 I.fS λp hp=>(List.mem_append.mp hp).elim (λz=>I.pin p (List.mem_append_right _ z)) λz=>by
  obtain⟨hb,e⟩:=iR z
  obtain⟨f0,f1,f2,_⟩:=hf p.1 hb
  obtain⟨o,e',d⟩:=ho p.1 hb
  rw [e] at e';cases e'
  exact⟨e,f0,f1,f2,d⟩
theorem Inv.fM {pins pl:List (Addr × Obj)} {σ:St} {H:Hp} {s:Shared} (I:Inv X (pins++pl) σ H s):Inv X pins σ H s:=I.fS λp hp=>I.pin p (List.mem_append_right _ (List.mem_append_left _ hp))
theorem bD {iter:Expr} {body:List Stmt} {wi:TI} {g:TG} {tb:TS} {pos:Pos} (hp:PassesOwn (model X.prog X.w) X.A X.env X.xe) (hc:X.calm=true) (hi:PI X tg iter wi) (hg:PG X tg g) (hb:iD X body tb)
  (hs:∀ x,foldedSetIterable iter X.env x=pure x:=by intro _;rfl):PS X (.For tg iter body [] pos) (Dc wi g tb):=by
 intro pins s σ H D I h
 refine wpAny_For (aQ (hi pins s σ H _ I h) λv s1 h1=>aQ h1 λitv s2 h2=>?_) hs
 obtain⟨it,fp,tn,J,H2,e,I2,T,st2,f2,W,⟨m0,w0⟩,turn⟩:=h2
 subst e
 -- what stays true of the iterator's objects through the loop
 have stat:∀{H':Hp},(∀ b∈fp,H' b=none)->∀ b∈fp,kL X pins H' b:=λhn b hb=>⟨hn b hb,(f2 b hb).2⟩
 refine codeAny_forLoop_any (λn s'=>∃ i σ' H',Inv X pins σ' H' s'/\tn i s'.heap/\(∀ b∈fp,H' b=none)/\W i n σ' H') ?_ m0 ⟨0,σ,H2,I2,st2,λb hb=>(f2 b hb).1,w0⟩
 rintro n s3 ⟨i,σ3,H3,I3,st3,fr3,w3⟩
 rcases turn i n σ3 H3 w3 with⟨stop,qn⟩|⟨go,N,hN,step⟩
 ·refine wpAny_passesOwn hp (aQ (T.done X rfl rfl rfl hc i pins s3 σ3 H3 X.xe I3 (stat fr3) st3 stop) λr s4 ⟨hr,I4⟩=>?_)
  subst hr
  exact wpAny_execs_nil ⟨σ3,H3,I4,qn⟩
 ·refine wpAny_passesOwn hp (aQ (T.item X rfl rfl rfl hc i pins s3 σ3 H3 X.xe I3 (stat fr3) st3 go) λr s4 ⟨u,hr,h4⟩=>?_)
  subst hr
  refine wpAny_passesOwn hp (aQ h4 λ_ s5 ⟨x,H5,I5,r5,y5,st5,fr5⟩=>?_)
  have I5':=I5.pinned (stat fr5) (T.obj _ _ st5)
  refine wpAny_passesOwn hp (aQ (hg _ s5 σ3 H5 x u _ I5' r5 (step x H5 y5)) λ_ s6 ⟨σ6,H6,I6,q6⟩=>?_)
  refine wpAny_passesOwn hp (aQ (hb _ s6 σ6 H6 _ I6 q6) λf s7 q7=>?_)
  have again:∀{σ7:St} {H7:Hp},Inv X (pins++fu fp s5.heap) σ7 H7 s7->N σ7 H7->∃ m,m<n/\∃ i σ' H',Inv X pins σ' H' s7/\tn i s7.heap/\(∀ b∈fp,H' b=none)/\W i m σ' H':=λ{σ7 H7} I7 n7=>by
   obtain⟨m',hm,w7⟩:=hN σ7 H7 n7
   refine⟨m',hm,i+1,σ7,H7,I7.fM,T.keep _ _ _ st5 λb hb o e=>(I7.pin (b,o) (List.mem_append_right _ (List.mem_append_right _ (cT hb e)))).1,λb hb=>?_,w7⟩
   obtain⟨o,e,d⟩:=T.obj _ _ st5 b hb
   exact (I7.pin (b,o) (List.mem_append_right _ (List.mem_append_right _ (cT hb e)))).2.1
  cases f with
  | next=>obtain⟨σ7,H7,I7,n7⟩:=q7;exact again I7 n7
  | cont=>obtain⟨σ7,H7,I7,n7⟩:=q7;exact again I7 n7
  | brk=>obtain⟨σ7,H7,I7,q7⟩:=q7;exact⟨σ7,H7,I7.fM,q7⟩
  | ret v=>obtain⟨x7,σ7,H7,I7,r7,q7⟩:=q7;exact⟨x7,σ7,H7,I7.fM,r7,q7⟩
end
theorem vF {K:PySem.W.Frag} {a:Addr} {xs:List V} {g:TG} {tb:TS} {D:Ends} {σ:St} {H:Hp} (Pv:Nat->St->Hp->Prop) (h0:Pv 0 σ H) (hl:∀ i σ H,i<=xs.length->Pv i σ H->aM K H a xs)
  (hs:∀ i x σ H,xs[i]?=some x->Pv i σ H->g x σ H λσ2 H2=>tb { D with nx:=Pv (i+1),ct:=Pv (i+1),bk:=D.nx } σ2 H2) (hd:∀ σ H,Pv xs.length σ H->D.nx σ H) :
  ∃ W:Nat->Nat->St->Hp->Prop,(∃ m,W 0 m σ H)/\∀ i m σ H,W i m σ H ->
   ((ye K a).stop i H/\D.nx σ H)∨((ye K a).go i H/\∃ N:St->Hp->Prop,(∀ σ' H',N σ' H'->∃ m',m'<m/\W (i+1) m' σ' H')/\∀ x H',(ye K a).yld i H x H'->g x σ H' λσ2 H2=>tb { D with nx:=N,ct:=N,bk:=D.nx } σ2 H2):=by
 refine⟨λi m σ H=>m=xs.length-i/\i<=xs.length/\Pv i σ H,⟨xs.length,by simp,Nat.zero_le _,h0⟩,?_⟩
 rintro i m σ H ⟨rfl,hi,p⟩
 have q:=hl i σ H hi p
 by_cases hlt:i<xs.length
 ·refine .inr ⟨⟨xs,xs[i],q,by simp [hlt]⟩,Pv (i+1),λσ' H' p'=>⟨xs.length-(i+1),by omega,rfl,hlt,p'⟩,λx H' y=>?_⟩
  obtain⟨e,y⟩:=y
  subst e
  exact hs i x σ _ (y xs q) p
 ·have e:i=xs.length:=by omega
  subst e
  exact .inl ⟨⟨xs,q,Nat.le_refl _⟩,hd σ H p⟩
theorem yG {K:PySem.W.Frag} {a:Addr} {xs:List V} {g:TG} {tb:TS} {D:Ends} {σ:St} {H:Hp} (Pv:Nat->St->Hp->Prop) (h0:Pv 0 σ H) (hl:∀ i σ H,i<=xs.length->Pv i σ H->bE K H a xs)
  (hs:∀ i x σ H,xs[i]?=some x->Pv i σ H->g x σ H λσ2 H2=>tb { D with nx:=Pv (i+1),ct:=Pv (i+1),bk:=D.nx } σ2 H2) (hd:∀ σ H,Pv xs.length σ H->D.nx σ H) :
  ∃ W:Nat->Nat->St->Hp->Prop,(∃ m,W 0 m σ H)/\∀ i m σ H,W i m σ H ->
   ((AX K a).stop i H/\D.nx σ H)∨((AX K a).go i H/\∃ N:St->Hp->Prop,(∀ σ' H',N σ' H'->∃ m',m'<m/\W (i+1) m' σ' H')/\∀ x H',(AX K a).yld i H x H'->g x σ H' λσ2 H2=>tb { D with nx:=N,ct:=N,bk:=D.nx } σ2 H2):=by
 refine⟨λi m σ H=>m=xs.length-i/\i<=xs.length/\Pv i σ H,⟨xs.length,by simp,Nat.zero_le _,h0⟩,?_⟩
 rintro i m σ H ⟨rfl,hi,p⟩
 have q:=hl i σ H hi p
 by_cases hlt:i<xs.length
 ·refine .inr ⟨⟨xs,xs[i],q,by simp [hlt]⟩,Pv (i+1),λσ' H' p'=>⟨xs.length-(i+1),by omega,rfl,hlt,p'⟩,λx H' y=>?_⟩
  obtain⟨e,y⟩:=y
  subst e
  exact hs i x σ _ (y xs q) p
 ·have e:i=xs.length:=by omega
  subst e
  exact .inl ⟨⟨xs,q,Nat.le_refl _⟩,hd σ H p⟩
theorem tP {lo:Int} {n:Nat} {g:TG} {tb:TS} {D:Ends} {σ:St} {H:Hp} (Pv:Nat->St->Hp->Prop) (h0:Pv 0 σ H)
  (hs:∀ i σ H,i<n->Pv i σ H->g (.int (lo+i)) σ H λσ2 H2=>tb { D with nx:=Pv (i+1),ct:=Pv (i+1),bk:=D.nx } σ2 H2) (hd:∀ σ H,Pv n σ H->D.nx σ H) :
  ∃ W:Nat->Nat->St->Hp->Prop,(∃ m,W 0 m σ H)/\∀ i m σ H,W i m σ H ->
   ((Aa lo n).stop i H/\D.nx σ H)∨((Aa lo n).go i H/\∃ N:St->Hp->Prop,(∀ σ' H',N σ' H'->∃ m',m'<m/\W (i+1) m' σ' H')/\∀ x H',(Aa lo n).yld i H x H'->g x σ H' λσ2 H2=>tb { D with nx:=N,ct:=N,bk:=D.nx } σ2 H2):=by
 refine⟨λi m σ H=>m=n-i/\i<=n/\Pv i σ H,⟨n,by simp,Nat.zero_le _,h0⟩,?_⟩
 rintro i m σ H ⟨rfl,hi,p⟩
 by_cases hlt:i<n
 ·refine .inr ⟨hlt,Pv (i+1),λσ' H' p'=>⟨n-(i+1),by omega,rfl,hlt,p'⟩,λx H' y=>?_⟩
  obtain⟨e,y⟩:=y
  subst e y
  exact hs i σ _ hlt p
 ·have e:i=n:=by omega
  subst e
  exact .inl ⟨Nat.le_refl _,hd σ H p⟩
abbrev R2:=V->V->Hp->VK->Prop
def gI (X:Cx) (f:Value->Value->Sem Value) (r:R2):Prop :=
 ∀(pins:List (Addr × Obj)) (s:Shared) (σ:St) (H:Hp) (x y:V) (v u:Value) (Q:VK),Inv X pins σ H s->RelV x v->RelV y u->r x y H Q ->
  wpAny (model X.prog X.w) X.A (f v u) (EP X pins σ Q) X.xe s
def DN (X:Cx) (f:Value->Sem Value) (r:V->Hp->VK->Prop):Prop :=
 ∀(pins:List (Addr × Obj)) (s:Shared) (σ:St) (H:Hp) (x:V) (v:Value) (Q:VK),Inv X pins σ H s->RelV x v->r x H Q ->
  wpAny (model X.prog X.w) X.A (f v) (EP X pins σ Q) X.xe s
def cL (X:Cx) (f:Value) (r:List V->Hp->VK->Prop):Prop :=
 ∀(pins:List (Addr × Obj)) (s:Shared) (σ:St) (H:Hp) (xs:List V) (us:List Value) (Q:VK),Inv X pins σ H s->Vals xs us->r xs H Q ->
  wpAny (model X.prog X.w) X.A (call f us) (EP X pins σ Q) X.xe s
def DM (X:Cx) (r:V->Hp->(Bool->Hp->Prop)->Prop):Prop :=
 ∀(pins:List (Addr × Obj)) (s:Shared) (σ:St) (H:Hp) (x:V) (v:Value) (Q:Bool->Hp->Prop),Inv X pins σ H s->RelV x v->r x H Q ->
  wpAny (model X.prog X.w) X.A (truthy v) (TP X pins σ Q) X.xe s
def Di (r:R2) (ta tb:TE):TE:=λσ H Q=>ta σ H λx H1=>tb σ H1 λy H2=>r x y H2 Q
def Ew (r:V->Hp->VK->Prop) (ta:TE):TE:=λσ H Q=>ta σ H λx H1=>r x H1 Q
def rI (C:Int->Int->Prop) (g:Int->Int->V):R2:=λx y H Q=>∃ i j,x=.int i/\y=.int j/\C i j/\Q (g i j) H
def Av (g:Int->Int->V):R2:=λx y H Q=>∃ i j,x=.int i/\y=.int j/\Q (g i j) H
def rU (g:Int->V):V->Hp->VK->Prop:=λx H Q=>∃ i,x=.int i/\Q (g i) H
section
variable {X:Cx} {a b c:Expr} {ta tb tc:TE} {pos:Pos}
theorem A8 (ha:PE X a ta) (hb:PE X b tb) {pins:List (Addr × Obj)} {s:Shared} {σ:St} {H:Hp} {R:V->V->Hp->Prop} (I:Inv X pins σ H s)
  (h:ta σ H λx H1=>tb σ H1 λy H2=>R x y H2) {Q:Value->Shared->Prop} {f:Value->Value->Sem Value}
  (hf:∀ v u s2 x y H2,Inv X pins σ H2 s2->RelV x v->RelV y u->R x y H2->wpAny (model X.prog X.w) X.A (f v u) Q X.xe s2) :
  wpAny (model X.prog X.w) X.A (eval a X.env) (λv s₁=>wpAny (model X.prog X.w) X.A (eval b X.env) (λu s₂=>wpAny (model X.prog X.w) X.A (f v u) Q X.xe s₂) X.xe s₁) X.xe s:=by
 refine aQ (ha pins s σ H _ I h) λv s1 ⟨x,H1,I1,r1,q1⟩=>?_
 refine aQ (hb pins s1 σ H1 _ I1 q1) λu s2 ⟨y,H2,I2,r2,q2⟩=>?_
 exact hf v u s2 x y H2 I2 r1 r2 q2
theorem au {op:Operator} {r:R2} (ho:gI X (binaryOp op) r) (ha:PE X a ta) (hb:PE X b tb):PE X (.BinOp a op b pos) (Di r ta tb):=by
 intro pins s σ H Q I h
 exact wpAny_BinOp (A8 ha hb I h λv u s2 x y H2 I2 rx ry q=>ho pins s2 σ H2 x y v u Q I2 rx ry q)
theorem jg {op:UnaryOp} {r:V->Hp->VK->Prop} (ho:DN X (unaryOp op) r) (ha:PE X a ta):PE X (.UnaryOp op a pos) (Ew r ta):=by
 intro pins s σ H Q I h
 exact UnaryOp_ (aQ (ha pins s σ H _ I h) λv s1 ⟨x,H1,I1,r1,q1⟩=>ho pins s1 σ H1 x v Q I1 r1 q1)
theorem Cd {f:Value->Value->Sem Value} {C:Int->Int->Prop} {g:Int->Int->Int}
  (rule:∀(i j:Int) (t u:Tok) (s:Shared) (Q:Value->Shared->Prop) (E:Value->Shared->Prop),C i j->Q (.int (g i j) s.toks) { s with toks:=s.toks+1 }->wpAny (model X.prog X.w) X.A (f (.int i t) (.int j u)) Q E s) :
  gI X f (rI C λi j=>.int (g i j)):=by
 intro pins s σ H x y v u Q I rx ry h
 obtain⟨i,j,rfl,rfl,hc,q⟩:=h
 obtain⟨t,rfl⟩:=rx
 obtain⟨t',rfl⟩:=ry
 exact rule i j t t' s _ _ hc ⟨.int (g i j),H,I.tok _,⟨_,rfl⟩,q⟩
theorem BC {f:Value->Value->Sem Value} {g:Int->Int->Int}
  (rule:∀(i j:Int) (t u:Tok) (s:Shared) (Q:Value->Shared->Prop) (E:Value->Shared->Prop),Q (.int (g i j) s.toks) { s with toks:=s.toks+1 }->wpAny (model X.prog X.w) X.A (f (.int i t) (.int j u)) Q E s) :
  gI X f (Av λi j=>.int (g i j)):=by
 intro pins s σ H x y v u Q I rx ry h
 obtain⟨i,j,rfl,rfl,q⟩:=h
 obtain⟨t,rfl⟩:=rx
 obtain⟨t',rfl⟩:=ry
 exact rule i j t t' s _ _ ⟨.int (g i j),H,I.tok _,⟨_,rfl⟩,q⟩
theorem CO {f:Value->Value->Sem Value} {g:Int->Int->Bool}
  (rule:∀(i j:Int) (t u:Tok) (s:Shared) (Q:Value->Shared->Prop) (E:Value->Shared->Prop),Q (.bool (g i j)) s->wpAny (model X.prog X.w) X.A (f (.int i t) (.int j u)) Q E s) :
  gI X f (Av λi j=>.bl (g i j)):=by
 intro pins s σ H x y v u Q I rx ry h
 obtain⟨i,j,rfl,rfl,q⟩:=h
 obtain⟨t,rfl⟩:=rx
 obtain⟨t',rfl⟩:=ry
 exact rule i j t t' s _ _ ⟨.bl (g i j),H,I,rfl,q⟩
def Ci (i j:Int):Prop:=0<=j/\j<=1000000/\i.natAbs<2^64
def Cg (i j:Int):Prop:=(-(2^64)<i/\i<2^64)∨(-(2^64)<j/\j<2^64)
theorem Cg.ok {i j:Int} (h:Cg i j):IntMulOk i j:=by
 rcases h with⟨h1,h2⟩|⟨h1,h2⟩
 ·exact .of_left (intBits_le_64 h1 h2)
 ·exact .of_right (intBits_le_64 h1 h2)
theorem b7:gI X (binaryOp .Add) (Av λi j=>.int (i+j)):=BC λ_ _ _ _ _ _ _ q=>add_int q
theorem c6:gI X (binaryOp .Sub) (Av λi j=>.int (i-j)):=BC λ_ _ _ _ _ _ _ q=>sub_int q
theorem aL:gI X (binaryOp .Mod) (rI (λ_ j=>0<j) λi j=>.int (i%j)):=Cd λi j _ _ _ _ _ hc q=>by
 have h1:(0:Int)<j:=hc
 exact mod_int' (by omega) (by rw [Int.fmod_eq_emod_of_nonneg i (by omega)];exact q)
theorem qY:gI X (binaryOp .Pow) (rI Ci λi j=>.int (i^j.toNat)):=Cd λ_ _ _ _ _ _ _ hc q=>pow_int_small hc.1 hc.2.1 hc.2.2 q
theorem mF:gI X (inplaceOp .Add) (Av λi j=>.int (i+j)):=BC λ_ _ _ _ _ _ _ q=>iadd_int q
theorem E6 {f:Value->Sem Value} {g:Int->Int}
  (rule:∀(i:Int) (t:Tok) (s:Shared) (Q:Value->Shared->Prop) (E:Value->Shared->Prop),Q (.int (g i) s.toks) { s with toks:=s.toks+1 }->wpAny (model X.prog X.w) X.A (f (.int i t)) Q E s) :
  DN X f (rU λi=>.int (g i)):=by
 intro pins s σ H x v Q I rx h
 obtain⟨i,rfl,q⟩:=h
 obtain⟨t,rfl⟩:=rx
 exact rule i t s _ _ ⟨.int (g i),H,I.tok _,⟨_,rfl⟩,q⟩
theorem fL:DN X (unaryOp .USub) (rU λi=>.int (-i)):=E6 λ_ _ _ _ _ q=>neg_int q
end
def mY:V->V->Bool
 | .non,.non=>true | .non,.int _=>true | .int _,.non=>true | .non,.bl _=>true | .bl _,.non=>true | .non,.str _=>true | .str _,.non=>true
 | .int _,.int _=>true | .bl _,.bl _=>true | .str _,.str _=>true | .byt _,.byt _=>true
 | .int _,.str _=>true | .str _,.int _=>true | .bl _,.str _=>true | .str _,.bl _=>true
 | _,_=>false
def Eo:R2:=λx y H Q=>mY x y=true/\Q (.bl (decide (x=y))) H
def Ep:R2:=λx y H Q=>mY x y=true/\Q (.bl (!decide (x=y))) H
theorem rM {i j:Int}:decide (V.int i=V.int j)=(i==j):=by
 rw [Bool.eq_iff_iff]
 simp
theorem vi {i j:Bool}:decide (V.bl i=V.bl j)=(i==j):=by
 rw [Bool.eq_iff_iff]
 simp
theorem rN {i j:Str}:decide (V.str i=V.str j)=(i==j):=by
 rw [Bool.eq_iff_iff]
 simp
theorem rL {i j:Array UInt8}:decide (V.byt i=V.byt j)=(i.toList==j.toList):=by
 rw [Bool.eq_iff_iff]
 cases i
 cases j
 simp
section
variable {X:Cx} {a b c:Expr} {ta tb tc:TE} {pos:Pos}
theorem aN {pins:List (Addr × Obj)} {σ:St} {H:Hp} {s:Shared} {Q:VK} {k k':Bool} (I:Inv X pins σ H s) (q:Q (.bl k) H) (e:k=k'):EP X pins σ Q (.bool k') s:=by
 subst e
 exact⟨.bl k,H,I,rfl,q⟩
theorem fq:gI X (compareOp .Eq) Eo:=by
 intro pins s σ H x y v u Q I rx ry h
 obtain⟨hs,q⟩:=h
 cases x with
 | non =>
  cases rx
  cases y with
  | non=>cases ry;exact PySem.EqNone.eq_none_none (aN I q (by simp))
  | bl j=>cases ry;exact PySem.EqNone.eq_none_bool (aN I q (by simp))
  | int j=>obtain⟨t',rfl⟩:=ry;exact PySem.EqNone.eq_none_int (aN I q (by simp))
  | str j=>obtain⟨t',rfl⟩:=ry;exact PySem.EqNone.eq_none_str (aN I q (by simp))
  | _=>exact absurd (show false=true from hs) Bool.false_ne_true
 | bl i =>
  cases rx
  cases y with
  | non=>cases ry;exact PySem.EqNone.eq_bool_none (aN I q (by simp))
  | bl j=>cases ry;exact eq_bool (aN I q vi)
  | str j=>obtain⟨t',rfl⟩:=ry;exact PySem.EqMixed.eq_bool_str (aN I q (by simp))
  | _=>exact absurd (show false=true from hs) Bool.false_ne_true
 | int i =>
  obtain⟨t,rfl⟩:=rx
  cases y with
  | non=>cases ry;exact PySem.EqNone.eq_int_none (aN I q (by simp))
  | int j=>obtain⟨t',rfl⟩:=ry;exact eq_int (aN I q rM)
  | str j=>obtain⟨t',rfl⟩:=ry;exact PySem.EqMixed.eq_int_str (aN I q (by simp))
  | _=>exact absurd (show false=true from hs) Bool.false_ne_true
 | str i =>
  obtain⟨t,rfl⟩:=rx
  cases y with
  | non=>cases ry;exact PySem.EqNone.eq_str_none (aN I q (by simp))
  | bl j=>cases ry;exact PySem.EqMixed.eq_str_bool (aN I q (by simp))
  | int j=>obtain⟨t',rfl⟩:=ry;exact PySem.EqMixed.eq_str_int (aN I q (by simp))
  | str j=>obtain⟨t',rfl⟩:=ry;exact eq_str (aN I q rN)
  | _=>exact absurd (show false=true from hs) Bool.false_ne_true
 | byt i =>
  obtain⟨t,rfl⟩:=rx
  cases y with
  | byt j=>obtain⟨t',rfl⟩:=ry;exact PySem.W.eq_bytes (aN I q rL)
  | _=>exact absurd (show false=true from hs) Bool.false_ne_true
 | _=>cases y<;>exact absurd (show false=true from hs) Bool.false_ne_true
theorem gc:gI X (compareOp .NotEq) Ep:=by
 intro pins s σ H x y v u Q I rx ry h
 obtain⟨hs,q⟩:=h
 cases x with
 | non =>
  cases rx
  cases y with
  | non=>cases ry;exact PySem.EqNone.ne_none_none (aN I q (by simp))
  | bl j=>cases ry;exact PySem.EqNone.ne_none_bool (aN I q (by simp))
  | int j=>obtain⟨t',rfl⟩:=ry;exact PySem.EqNone.ne_none_int (aN I q (by simp))
  | str j=>obtain⟨t',rfl⟩:=ry;exact PySem.EqNone.ne_none_str (aN I q (by simp))
  | _=>exact absurd (show false=true from hs) Bool.false_ne_true
 | bl i =>
  cases rx
  cases y with
  | non=>cases ry;exact PySem.EqNone.ne_bool_none (aN I q (by simp))
  | bl j=>cases ry;exact ne_bool (aN I q (congrArg not vi))
  | str j=>obtain⟨t',rfl⟩:=ry;exact PySem.EqMixed.ne_bool_str (aN I q (by simp))
  | _=>exact absurd (show false=true from hs) Bool.false_ne_true
 | int i =>
  obtain⟨t,rfl⟩:=rx
  cases y with
  | non=>cases ry;exact PySem.EqNone.ne_int_none (aN I q (by simp))
  | int j=>obtain⟨t',rfl⟩:=ry;exact ne_int (aN I q (congrArg not rM))
  | str j=>obtain⟨t',rfl⟩:=ry;exact PySem.EqMixed.ne_int_str (aN I q (by simp))
  | _=>exact absurd (show false=true from hs) Bool.false_ne_true
 | str i =>
  obtain⟨t,rfl⟩:=rx
  cases y with
  | non=>cases ry;exact PySem.EqNone.ne_str_none (aN I q (by simp))
  | bl j=>cases ry;exact PySem.EqMixed.ne_str_bool (aN I q (by simp))
  | int j=>obtain⟨t',rfl⟩:=ry;exact PySem.EqMixed.ne_str_int (aN I q (by simp))
  | str j=>obtain⟨t',rfl⟩:=ry;exact ne_str (aN I q (congrArg not rN))
  | _=>exact absurd (show false=true from hs) Bool.false_ne_true
 | byt i =>
  obtain⟨t,rfl⟩:=rx
  cases y with
  | byt j=>obtain⟨t',rfl⟩:=ry;exact PySem.W.ne_bytes (aN I q (congrArg not rL))
  | _=>exact absurd (show false=true from hs) Bool.false_ne_true
 | _=>cases y<;>exact absurd (show false=true from hs) Bool.false_ne_true
theorem gb:gI X (compareOp .Lt) (Av λi j=>.bl (decide (i<j))):=CO λ_ _ _ _ _ _ _ q=>lt_int q
theorem jf:gI X (compareOp .Gt) (Av λi j=>.bl (decide (j<i))):=CO λ_ _ _ _ _ _ _ q=>gt_int q
theorem qX:gI X (compareOp .Is) (λx y H Q=>y=.non/\Q (.bl (decide (x=.non))) H):=by
 intro pins s σ H x y v u Q I rx ry h
 obtain⟨rfl,q⟩:=h
 cases ry
 refine is_none_gen (aN I q ?_)
 cases x<;>first
  | (cases rx;rfl)
  | (obtain⟨t,rfl⟩:=rx;rfl)
theorem zk:gI X (compareOp .IsNot) (λx y H Q=>y=.non/\Q (.bl (!decide (x=.non))) H):=by
 intro pins s σ H x y v u Q I rx ry h
 obtain⟨rfl,q⟩:=h
 cases ry
 refine isnot_none_gen (aN I q ?_)
 cases x<;>first
  | (cases rx;rfl)
  | (obtain⟨t,rfl⟩:=rx;rfl)
theorem aE (b:Expr) {op:CmpOp} (h:op≠.In:=by decide) (h2:op≠.NotIn:=by decide):behindInMarks op b=false:=by
 have e1:(op==CmpOp.In)=false:=by cases op<;>first | rfl | exact absurd rfl h
 have e2:(op==CmpOp.NotIn)=false:=by cases op<;>first | rfl | exact absurd rfl h2
 cases b<;>simp [behindInMarks,e1,e2]
theorem dB {op:CmpOp} {r:R2} (ho:gI X (compareOp op) r) (ha:PE X a ta) (hb:PE X b tb) (hm:behindInMarks op b=false):PE X (.Compare a [op] [b] pos) (Di r ta tb):=by
 intro pins s σ H Q I h
 exact wpAny_Compare1 (A8 ha hb I h λv u s2 x y H2 I2 rx ry q=>ho pins s2 σ H2 x y v u Q I2 rx ry q) hm
def AM (t:TE):TT:=λσ H Q=>t σ H λx H'=>∃ k,x=.bl k/\Q k H'
theorem aA {op:CmpOp} {r:R2} (ho:gI X (compareOp op) r) (ha:PE X a ta) (hb:PE X b tb) (hm:behindInMarks op b=false):PT X (.Compare a [op] [b] pos) (AM (Di r ta tb)):=by
 intro pins s σ H Q I h
 refine wpAny_isTrue_Compare1 (aQ (ha pins s σ H _ I h) λv s1 ⟨x,H1,I1,r1,q1⟩=>aQ (hb pins s1 σ H1 _ I1 q1) λu s2 ⟨y,H2,I2,r2,q2⟩ =>
  aQ (ho pins s2 σ H2 x y v u _ I2 r1 r2 q2) λc s3 ⟨z,H3,I3,r3,k,e,q3⟩=>?_) hm
 subst e
 cases r3
 exact wpAny_truthy_bool ⟨H3,I3,q3⟩
def yi (K:PySem.W.Frag) (x:V) (H:Hp) (k:Bool):Prop :=
 match x with
 | .non=>k=false
 | .bl b=>k=b
 | .int i=>k=(i != 0)
 | .str y=>y.length<=sizeLine/\k=((y.length:Int) != 0)
 | .byt y=>y.size<=sizeLine/\k=((y.size:Int) != 0)
 | .ref p=>(∃ xs,aM K H p xs/\k=!xs.isEmpty)∨(∃ xs,bE K H p xs/\k=!xs.isEmpty)∨∃ kvs,H p=some (.dK kvs)/\k=!kvs.isEmpty
 | _=>False
theorem qG {κ:Type} {kvs:List (κ × V)} {vs:List (κ × Value)} (r:KV kvs vs):(!vs.isEmpty)=!kvs.isEmpty:=by
 cases r<;>rfl
theorem jX {xs:List V} {its:List Value} (r:Vals xs its):(!its.toArray.isEmpty)=!xs.isEmpty:=by
 cases r<;>simp
theorem mH:(sizeLine:Nat)<2^63:=by rw [sizeLine_eq];decide
theorem BZ:DM X (λx H Q=>∃ k,yi X.K x H k/\Q k H):=by
 intro pins s σ H x v Q I rx h
 obtain⟨k,e,q⟩:=h
 have hl:=mH
 have hs:sizeLine=16777216:=sizeLine_eq
 cases x with
 | non =>
  cases rx
  have e':k=false:=e
  subst e'
  exact truthy_none ⟨H,I,q⟩
 | bl b =>
  cases rx
  have e':k=b:=e
  subst e'
  exact wpAny_truthy_bool ⟨H,I,q⟩
 | int i =>
  obtain⟨t,rfl⟩:=rx
  have e':k=(i != 0):=e
  subst e'
  exact PySem.P.truthy_int ⟨H,I,q⟩
 | str y =>
  obtain⟨t,rfl⟩:=rx
  obtain⟨hy,e'⟩:y.length<=sizeLine/\k=((y.length:Int) != 0):=e
  subst e'
  exact PySem.P.truthy_str (by omega) ⟨H,I.tok _,q⟩
 | byt y =>
  obtain⟨t,rfl⟩:=rx
  obtain⟨hy,e'⟩:y.size<=sizeLine/\k=((y.size:Int) != 0):=e
  subst e'
  exact PySem.W.truthy_bytes (by omega) ⟨H,I.tok _,q⟩
 | ref p =>
  cases rx
  have e':(∃ xs,aM X.K H p xs/\k=!xs.isEmpty)∨(∃ xs,bE X.K H p xs/\k=!xs.isEmpty)∨∃ kvs,H p=some (.dK kvs)/\k=!kvs.isEmpty:=e
  rcases e' with⟨xs,hx,e'⟩|⟨xs,hx,e'⟩|⟨kvs,hx,e'⟩
  ·subst e'
   obtain⟨its,r,pl,hz⟩:=I.list hx
   have hlen:=r.length
   exact wpAny_truthy_list pl.isList (by simp only [List.size_toArray];omega) ⟨H,I.tok _,by rw [jX r];exact q⟩
  ·subst e'
   obtain⟨its,r,pl,hz⟩:=I.tuple hx
   have hlen:=r.length
   exact truthy_tuple pl (by simp only [List.size_toArray];omega) ⟨H,I.tok _,by rw [jX r];exact q⟩
  ·subst e'
   obtain⟨hz,hS,vs,r,m⟩:kvs.length<=sizeLine/\(p==sysModules)=false/\∃ vs,KV kvs vs/\s.heap.DictOf (bj X.prog X.w) p vs:=I.hok p _ hx
   have hlen:kvs.length=vs.length:=Paired.length r
   exact wpAny_truthy_dict hS m (by omega) ⟨H,I.tok _,by rw [qG r];exact q⟩
 | _=>exact (show False from e).elim
theorem b9 (ha:PE X a ta) (he:∀ whole,isTrue a X.env whole=(do let v <- whole;standAt a.pos;holding [v] (truthy v))) :
  PT X a (λσ H Q=>ta σ H λx H'=>∃ k,yi X.K x H' k/\Q k H'):=by
 intro pins s σ H Q I h
 exact isTrue_plain (aQ (ha pins s σ H _ I h) λv s1 ⟨x,H1,I1,r1,q1⟩=>BZ pins s1 σ H1 x v Q I1 r1 q1) (he _)
theorem vals1 {x:V} {us:List Value} (r:Vals [x] us):∃ u,us=[u]/\RelV x u:=by
 cases r with
 | cons r1 r2=>cases r2;exact⟨_,rfl,r1⟩
theorem vals2 {x y:V} {us:List Value} (r:Vals [x,y] us):∃ u w',us=[u,w']/\RelV x u/\RelV y w':=by
 cases r with
 | cons r1 r2 =>
  cases r2 with
  | cons r3 r4=>cases r4;exact⟨_,_,rfl,r1,r3⟩
theorem jP:cL X (.builtin "abs") (λxs H Q=>∃ i,xs=[.int i]/\Q (.int (if i<0 then -i else i)) H):=by
 intro pins s σ H xs us Q I r h
 obtain⟨i,rfl,q⟩:=h
 obtain⟨u,rfl,t,rfl⟩:=vals1 r
 exact call_abs_int λu tk=>⟨.int (if i<0 then -i else i),H,I.tok _,⟨_,rfl⟩,q⟩
theorem tE (hc:X.calm=true):cL X (.builtin "min") (λxs H Q=>∃ i j,xs=[.int i,.int j]/\Q (.int (if j<i then j else i)) H):=by
 intro pins s σ H xs us Q I r h
 obtain⟨i,j,rfl,q⟩:=h
 obtain⟨u,w',rfl,⟨t,rfl⟩,⟨t',rfl⟩⟩:=vals2 r
 refine min_two_ints (I.ok.hd hc) λh' tk k=>⟨_,H,I.kept k,?_,q⟩
 by_cases hj:j<i
 ·rw [if_pos hj,if_pos hj];exact⟨_,rfl⟩
 ·rw [if_neg hj,if_neg hj];exact⟨_,rfl⟩
theorem tf:cL X (.type "int") (λxs H Q=>(∃ i,xs=[.int i]/\Q (.int i) H)∨∃ k,xs=[.bl k]/\Q (.int (if k then 1 else 0)) H):=by
 intro pins s σ H xs us Q I r h
 rcases h with⟨i,rfl,q⟩|⟨k,rfl,q⟩
 ·obtain⟨u,rfl,t,rfl⟩:=vals1 r
  exact call_int_int ⟨.int i,H,I,⟨_,rfl⟩,q⟩
 ·obtain⟨u,rfl,r1⟩:=vals1 r
  cases r1
  exact call_int_bool ⟨.int (if k then 1 else 0),H,I.tok _,⟨_,rfl⟩,q⟩
end
structure qj (h:Heap) (x dx C:Addr) (mA:Str->Option Value):Prop where
 obj:h.get? x=some (PySem.W.instObj C dx)
 ns:h.Ns1 dx mA
 ne:dx≠x
theorem uf {h:Heap} {dx:Addr} {mA:Str->Option Value} (n:h.Ns1 dx mA):∃ od,h.get? dx=some od/\∀ name,PySem.W.lookIn name od=some (mA name):=by
 obtain⟨o,es,ep,ho,hd,hk,_,hm⟩:=n
 refine⟨o,ho,λname=>?_⟩
 have e:=hm name
 unfold nsFind findBy at e
 rw [<- Array.find?_toList] at e
 unfold PySem.W.lookIn
 rw [hd]
 dsimp only
 split
 ·rename_i y q
  rw [q] at e
  exact congrArg some e
 ·rename_i q
  rw [q] at e
  have a:es.toList.any (·.refKey)=false:=by
   rw [List.any_eq_false]
   intro y hy
   obtain⟨z,t,hkey⟩:=hk y (Array.mem_toList_iff.mp hy)
   simp [DictEntry.refKey,hkey]
  have a':¬es.toList.any (·.refKey)=true:=by rw [a];exact Bool.false_ne_true
  rw [if_neg a']
  exact congrArg some e
theorem qj.look {h:Heap} {x dx C:Addr} {mA:Str->Option Value} (I:qj h x dx C mA):∃ od,PySem.W.InstAt h x (PySem.W.instObj C dx) C (some od)/\∀ name,PySem.W.lookIn name od=some (mA name) :=
 let ⟨od,ho,hl⟩:=uf I.ns
 ⟨od,⟨I.obj,rfl,rfl,ho⟩,hl⟩
section
variable {prog:Program} {w:World} {A:Around} {E:Value->Shared->Prop} {s:Shared} {K:PySem.W.Frag} {x dx C f:Addr} {mA:Str->Option Value} {name:Str} {v:Value}
theorem get_map {expr:Bool} {Q:Value->Shared->Prop} (X:K.In s.heap) (I:qj s.heap x dx C mA) (hg:PySem.W.plainGet K C name=true) (hh:PySem.W.hasDictIn K C=true)
  (ha:PySem.W.findIn K (.ref C) name=some none) (hv:mA name=some v) (hv':PySem.W.handedIn v=true) (h:Q v { s with toks:=s.toks+1 }) :
  wpAny (model prog w) A (getAttr (.ref x) name expr) Q E s:=by
 obtain⟨od,J,hl⟩:=I.look
 exact PySem.W.get_value X J (PySem.W.plainGet_of hg).1 (PySem.W.findObj_own hh ha rfl (by rw [hl,hv])) hv' h
theorem vI {pl:Sem Bool} {Q:Value × List Value->Shared->Prop} (X:K.In s.heap) (I:qj s.heap x dx C mA) (hg:PySem.W.plainGet K C name=true)
  (hf:PySem.W.findIn K (.ref C) name=some (some (.ref f))) (ht:PySem.W.isFn K (.ref f)=true) (hv:mA name=none) (h:Q (.ref f,[.ref x]) s) :
  wpAny (model prog w) A (getMethod (.ref x) name pl) Q E s:=by
 obtain⟨od,J,hl⟩:=I.look
 exact PySem.W.method_fn X J (PySem.W.plainGet_of hg).1 (PySem.W.plainGet_of hg).2 hf (beq_iff_eq.mp ht) (by show (PySem.W.lookIn name od).map (·.isSome)=some false;rw [hl,hv];rfl) h
theorem zT {ns:List Str} {Q:Unit->Shared->Prop} (X:K.In s.heap) (I:qj s.heap x dx C mA)
  (hs:PySem.W.findIn K (.ref C) "__setattr__"=some (some (.builtin "object.__setattr__"))) (hp:PySem.W.plainOver K C=true) (ht:PySem.W.takerIn K C name=some none) (hh:PySem.W.hasDictIn K C=true)
  (hw:PySem.Within mA ns) (hsz:ns.length<=sizeLine)
  (h:∀ h',qj h' x dx C (λy=>if y=name then some v else mA y)->Heap.SameBut dx s.heap h'->Q () { s with heap:=h',toks:=s.toks+2 }) :
  wpAny (model prog w) A (setAttr (.ref x) name v) Q E s:=by
 obtain⟨od,J,hl⟩:=I.look
 refine PySem.W.set_plain X J hs (PySem.W.osa_open (s:={ s with toks:=s.toks+1 }) (r:=none) X J hp ht λb=>?_)
 obtain⟨cd,hc,hd'⟩:=PySem.W.any_some hh
 have hx:s.heap.get? x=some ⟨.ref C,some dx,.plain,#[]⟩:=I.obj
 refine wpAny_bind (wpAny_pure (wpAny_bind (wpAny_bind (wpAny_loadPart hx (wpAny_bind (PySem.W.Looks.here (s:={ s with toks:=s.toks+1 }) (PySem.W.looks_clsIn X hc) ?_))))))
 rw [hd']
 refine wpAny_pure (a:=some dx) (wpAny_bind (wpAny_pure (wpAny_bind ?_)))
 refine wpAny_nsSet1 (s:={ s with toks:=s.toks+1 }) I.ns λh' hn2 hs2=>?_
 obtain⟨oD,esD,epD,hoD,hdD,hcD⟩:=hn2.count (PySem.Within.cons name v hw)
 refine wpAny_bind (wpAny_lookBehind hoD (by rw [hdD];exact pastItsLine_dict (Nat.le_trans hcD (by rw [List.length_cons];omega))) ?_)
 exact wpAny_pure (h _ ⟨(hs2.2 _ (Ne.symm I.ne)).trans I.obj,hn2,I.ne⟩ hs2)
theorem vV {R:Result->Shared->Prop} {vs:List Value} {kw:List (Str × Value)} (X:K.In s.heap) (hm:PySem.W.makesIn K C=true)
  (hi:PySem.W.findIn K (.ref C) "__init__"=some (some (.ref f))) (hf:PySem.W.typeIn K (.ref f)=some (.type "function"))
  (h:codeAny (model prog w) (A.under (.builtin "type.__call__" ⟨.ref C::vs,kw⟩)) (.call (.ref f) ⟨.ref (s.heap.objs.size+1)::vs,kw⟩) (PySem.W.InitBack (s.heap.objs.size+1) R)
   { s with heap:=(s.heap.push PySem.W.emptyDict).push (PySem.W.instObj C s.heap.objs.size) }) :
  codeAny (model prog w) A (.call (.ref C) ⟨vs,kw⟩) R s:=by
 obtain⟨hh,g,d,t,os⟩:=s
 exact PySem.W.make_core (PySem.W.makes_of X hm) (PySem.W.looks_findIn X hi) (λself=>PySem.W.bind_fn X self hf) (.inl rfl) h
end
def fz (f:Str) (v:V):List (Str × V)->List (Str × V)
 | []=>[(f,v)]
 | (g,x)::r=>if g=f then (g,v)::r else (g,x)::fz f v r
theorem i9 (f g:Str) (v:V):∀ fs:List (Str × V),(fz f v fs).lookup g=if g=f then some v else fs.lookup g
 | []=>by
  show List.lookup g [(f,v)]=_
  by_cases h:g=f
  ·have hb:(g==f)=true:=beq_iff_eq.mpr h
   simp only [List.lookup,hb,if_pos h]
  ·have hb:(g==f)=false:=beq_eq_false_iff_ne.mpr h
   simp only [List.lookup,hb,if_neg h]
 | (k,x)::r=>by
  have ih:=i9 f g v r
  rw [show fz f v ((k,x)::r)=(if k=f then (k,v)::r else (k,x)::fz f v r) from rfl]
  by_cases hk:k=f
  ·rw [if_pos hk]
   by_cases h:g=k
   ·have hb:(g==k)=true:=beq_iff_eq.mpr h
    simp only [List.lookup,hb,if_pos (h.trans hk)]
   ·have hb:(g==k)=false:=beq_eq_false_iff_ne.mpr h
    simp only [List.lookup,hb,if_neg (λe:g=f=>h (e.trans hk.symm))]
  ·rw [if_neg hk]
   by_cases h:g=k
   ·have hb:(g==k)=true:=beq_iff_eq.mpr h
    simp only [List.lookup,hb,if_neg (λe:g=f=>hk (h.symm.trans e))]
   ·have hb:(g==k)=false:=beq_eq_false_iff_ne.mpr h
    simp only [List.lookup,hb]
    exact ih
theorem iP (f:Str) (v:V):∀ fs:List (Str × V),f∈(fz f v fs).map (·.1)/\∀ g,g∈fs.map (·.1)->g∈(fz f v fs).map (·.1)
 | []=>⟨by simp [fz],λg h=>by simp at h⟩
 | (k,x)::r=>by
  obtain⟨i1,i2⟩:=iP f v r
  rw [show fz f v ((k,x)::r)=(if k=f then (k,v)::r else (k,x)::fz f v r) from rfl]
  by_cases hk:k=f
  ·rw [if_pos hk]
   subst hk
   exact⟨by simp,λg h=>by simpa using h⟩
  ·rw [if_neg hk]
   refine⟨?_,λg h=>?_⟩
   ·rw [List.map_cons]
    exact List.mem_cons_of_mem _ i1
   ·rw [List.map_cons] at h ⊢
    rcases List.mem_cons.mp h with e | e
    ·exact List.mem_cons.mpr (.inl e)
    ·exact List.mem_cons_of_mem _ (i2 g e)
theorem i8 (f:Str) (v:V):∀ fs:List (Str × V),(fz f v fs).length<=fs.length+1
 | []=>by simp [fz]
 | (k,x)::r=>by
  have ih:=i8 f v r
  rw [show fz f v ((k,x)::r)=(if k=f then (k,v)::r else (k,x)::fz f v r) from rfl]
  by_cases hk:k=f
  ·rw [if_pos hk,List.length_cons,List.length_cons];omega
  ·rw [if_neg hk,List.length_cons,List.length_cons];omega
theorem dS.some_of {v:V} {o:Option Value} (r:dS (some v) o):∃ u,o=some u/\RelV v u:=by
 cases o with
 | none=>exact (show False from r).elim
 | some u=>exact⟨u,rfl,r⟩
theorem dS.none_of {o:Option Value} (r:dS none o):o=none:=by
 cases o with
 | none=>rfl
 | some u=>exact (show False from r).elim
theorem tR {v:V} {u:Value} (r:RelV v u):PySem.W.handedIn u=true:=by
 cases v with
 | non=>cases (show u=Value.none from r);rfl
 | bl b=>cases (show u=Value.bool b from r);rfl
 | int i=>obtain⟨t,e⟩:=(show ∃ t,u=Value.int i t from r);cases e;rfl
 | str x=>obtain⟨t,e⟩:=(show ∃ t,u=Value.str x t from r);cases e;rfl
 | byt b=>obtain⟨t,e⟩:=(show ∃ t,u=Value.bytes b t from r);cases e;rfl
 | flt b=>obtain⟨t,e⟩:=(show ∃ t,u=Value.float b t from r);cases e;rfl
 | ref a=>cases (show u=Value.ref a from r);rfl
 | ty n=>cases (show u=Value.type n from r);rfl
section
variable {P:Program} {w:World} {H H':Hp} {h h':Heap} {a C dx:Addr} {fs fs':List (Str × V)}
theorem jH (hok:eX P w H h) (e:H a=some (.ins C dx fs)):∃ mA,qj h a dx C mA/\(∀ f,dS (fs.lookup f) (mA f))/\PySem.Within mA (fs.map (·.1))/\fs.length<=1000/\H dx=some (.own a):=by
 obtain⟨d,z,ne,ob,mA,n,r,q⟩:=(show aZ P w H h a (.ins C dx fs) from hok a _ e)
 exact⟨mA,⟨ob,n,ne⟩,r,q,z,d⟩
end
structure kU (K:PySem.W.Frag) (C:Addr):Prop where
 pg:PySem.W.plainGet K C Str.empty=true
 hd:PySem.W.hasDictIn K C=true
 po:PySem.W.plainOver K C=true
 sa:PySem.W.findIn K (.ref C) "__setattr__"=some (some (.builtin "object.__setattr__"))
theorem kU.get {K:PySem.W.Frag} {C:Addr} (c:kU K C) (f:Str):PySem.W.plainGet K C f=true:=c.pg
def cu (K:PySem.W.Frag) (C:Addr) (f:Str):Prop:=PySem.W.findIn K (.ref C) f=some none
theorem cu.Dr {K:PySem.W.Frag} {C:Addr} {f:Str} (n:cu K C f):PySem.W.takerIn K C f=some none:=by
 unfold PySem.W.takerIn
 rw [show PySem.W.findIn K (.ref C) f=some none from n]
 rfl
structure Meth (K:PySem.W.Frag) (C:Addr) (m:Str) (f:Addr):Prop where
 at_:PySem.W.findIn K (.ref C) m=some (some (.ref f))
 fn:PySem.W.isFn K (.ref f)=true
 kp:PySem.W.keepIn K (.ref f)=true
section
variable {X:Cx} {pins:List (Addr × Obj)} {σ:St} {H:Hp} {s:Shared} {a C dx:Addr} {fs:List (Str × V)} {f:Str} {v:V} {A:Around} {E:Value->Shared->Prop}
theorem jU {b:Bool} {Q:Value->Shared->Prop} (I:Inv X pins σ H s) (e:H a=some (.ins C dx fs)) (c:kU X.K C) (n:cu X.K C f) (l:fs.lookup f=some v)
  (h:∀ u s',Inv X pins σ H s'->RelV v u->Q u s'):wpAny (model X.prog X.w) A (getAttr (.ref a) f b) Q E s:=by
 obtain⟨mA,O,r,_,_,_⟩:=jH I.hok e
 obtain⟨u,hu,ru⟩:=dS.some_of (v:=v) (o:=mA f) (by rw [<- l];exact r f)
 exact get_map I.d6 O (c.get f) c.hd n hu (tR ru) (h u _ (I.tok _) ru)
theorem jV {m:Str} {g:Addr} {pl:Sem Bool} {Q:Value × List Value->Shared->Prop} (I:Inv X pins σ H s) (e:H a=some (.ins C dx fs)) (c:kU X.K C) (k:Meth X.K C m g) (l:fs.lookup m=none)
  (h:Q (.ref g,[.ref a]) s):wpAny (model X.prog X.w) A (getMethod (.ref a) m pl) Q E s:=by
 obtain⟨mA,O,r,_,_,_⟩:=jH I.hok e
 have hn:mA m=none:=dS.none_of (by rw [<- l];exact r m)
 exact vI I.d6 O (c.get m) k.at_ k.fn hn h
theorem kG {y:V} {u:Value} {Q:Unit->Shared->Prop} (I:Inv X pins σ H s) (e:H a=some (.ins C dx fs)) (c:kU X.K C) (n:cu X.K C f) (hl:fs.length<1000) (ry:RelV y u)
  (h:∀ s',Inv X pins σ (upd H a (.ins C dx (fz f y fs))) s'->Q () s'):wpAny (model X.prog X.w) A (setAttr (.ref a) f u) Q E s:=by
 obtain⟨mA,O,r,wi,_,ho⟩:=jH I.hok e
 have hz:(fs.map (·.1)).length<=sizeLine:=by rw [List.length_map,sizeLine_eq];omega
 refine zT I.d6 O c.sa c.po n.Dr c.hd wi hz λh' O' sb=>h _ ?_
 have hd:∃ o,h'.get? dx=some o:=let ⟨o,_,_,e',_⟩:=O'.ns;⟨o,e'⟩
 refine I.write (x:=a) (e:=dx) (by rw [e];exact True.intro) (.inr ho) (λb q hb z=>(sb.2 b hb).trans z) hd ?_
 refine⟨by rw [ao O.ne];exact ho,?_,O.ne,O'.obj,_,O'.ns,λg=>?_,λg hg=>?_⟩
 ·have:=i8 f y fs;omega
 ·show dS ((fz f y fs).lookup g) (if g=f then some u else mA g)
  rw [i9]
  by_cases q:g=f
  ·rw [if_pos q,if_pos q];exact ry
  ·rw [if_neg q,if_neg q];exact r g
 ·by_cases q:g=f
  ·rw [q];exact (iP f y fs).1
  ·refine (iP f y fs).2 g (wi g λz=>hg ?_)
   show (if g=f then some u else mA g)=none
   rw [if_neg q];exact z
theorem Inv.made (I:Inv X pins σ H s):Inv X pins σ (upd (upd H s.heap.objs.size (.own (s.heap.objs.size+1))) (s.heap.objs.size+1) (.ins C s.heap.objs.size []))
  { s with heap:=(s.heap.push PySem.W.emptyDict).push (PySem.W.instObj C s.heap.objs.size) }:=by
 have e1:(s.heap.push PySem.W.emptyDict).get? s.heap.objs.size=some PySem.W.emptyDict:=Heap.get?_push_size s.heap rfl
 have e2:((s.heap.push PySem.W.emptyDict).push (PySem.W.instObj C s.heap.objs.size)).get? (s.heap.objs.size+1)=some (PySem.W.instObj C s.heap.objs.size):=by
  have:=Heap.get?_push_size (s.heap.push PySem.W.emptyDict) (o:=PySem.W.instObj C s.heap.objs.size) rfl
  rwa [Heap.size_push] at this
 have e3:(s.heap.push PySem.W.emptyDict).Ns s.heap.objs.size (λ_=>none):=⟨PySem.W.emptyDict,#[],_,e1,rfl,(λe he=>absurd he (by simp)),λ_=>rfl⟩
 have I1:=I.laid (a:=s.heap.objs.size) (o:=.own (s.heap.objs.size+1)) (h':=s.heap.push PySem.W.emptyDict) (t':=s.toks) (λb u q=>Heap.get?_push_of_some _ q) (Nat.le_refl _) ⟨_,e1⟩
 refine I1.laid (a:=s.heap.objs.size+1) (o:=.ins C s.heap.objs.size []) (t':=s.toks) (λb u q=>Heap.get?_push_of_some _ q) (Nat.le_of_eq (Heap.size_push _ _)) ?_
 have ne:s.heap.objs.size≠s.heap.objs.size+1:=Nat.ne_of_lt (Nat.lt_succ_self _)
 refine⟨by rw [ao ne,af],Nat.zero_le _,ne,e2,λ_=>none,(Heap.Ns1.of_empty e3).at λo q=>Heap.get?_push_of_some _ q,λ_=>True.intro,λy hy=>absurd rfl hy⟩
theorem yp {prog:Program} {w:World} {env:Env} {e:Expr} {f:Str} {pos:Pos} {s:Shared} {Q:Value->Shared->Prop} (hb:attributeBase e f env (eval e env)=eval e env)
  (h:wpAny (model prog w) A (eval e env) (λo s₁=>wpAny (model prog w) A (getAttr o f true) Q E s₁) E s):wpAny (model prog w) A (eval (.Attribute e f pos) env) Q E s :=
 Attribute_any_ h (by rw [arm_eval_Attribute,hb])
end
def C9 (K:PySem.W.Frag) (ta:TE) (f:Str):TE:=λσ H Q=>ta σ H λx H1=>∃ a C dx fs v,x=.ref a/\H1 a=some (.ins C dx fs)/\kU K C/\cu K C f/\fs.lookup f=some v/\Q v H1
def C3 (K:PySem.W.Frag) (ta tv:TE) (f:Str):TS:=λD σ H=>tv σ H λy H1=>ta σ H1 λx H2=>∃ a C dx fs,x=.ref a/\H2 a=some (.ins C dx fs)/\kU K C/\cu K C f/\fs.length<1000 /\
 D.nx σ (upd H2 a (.ins C dx (fz f y fs)))
def Cm (X:Cx) (op:Operator) (rd:V->V->Hp->VK->Prop):Prop :=
 ∀(pins:List (Addr × Obj)) (s:Shared) (σ:St) (H:Hp) (x y:V) (u v:Value) (Q:VK),Inv X pins σ H s->RelV x u->RelV y v->rd x y H Q->wpAny (model X.prog X.w) X.A (inplaceOp op u v) (EP X pins σ Q) X.xe s
def mX (K:PySem.W.Frag) (ta tv:TE) (rd:V->V->Hp->VK->Prop) (f:Str):TS:=λD σ H=>ta σ H λx H1=>∃ a C dx fs v,x=.ref a/\H1 a=some (.ins C dx fs)/\kU K C/\cu K C f/\fs.lookup f=some v /\
 tv σ H1 λy H2=>rd v y H2 λz H3=>∃ dx' fs',H3 a=some (.ins C dx' fs')/\fs'.length<1000/\D.nx σ (upd H3 a (.ins C dx' (fz f z fs')))
section
variable {X:Cx} {o e value:Expr} {f:Str} {pos pos' tpos:Pos} {ta tv:TE}
theorem gz (he:PE X e ta) (hb:attributeBase e f X.env (eval e X.env)=eval e X.env):PE X (.Attribute e f pos) (C9 X.K ta f):=by
 intro pins s σ H Q I h
 refine yp hb (aQ (he pins s σ H _ I h) λu s1 ⟨x,H1,I1,rx,a,C,dx,fs,v,ex,ea,c,n,l,q⟩=>?_)
 subst ex
 obtain rfl:u=Value.ref a:=rx
 exact jU I1 ea c n l λu' s2 I2 ru=>⟨v,H1,I2,ru,q⟩
theorem ri (ha:PE X o ta) (hv:PE X value tv) (hs:swapsWith value (some (.Attribute o f pos')) pos.line X.env=pure false):PS X (.Assign [.Attribute o f pos'] value pos) (C3 X.K ta tv f):=by
 intro pins s σ H D I h
 refine plainObj_wpAny_Assign_Attribute (aQ (hv pins s σ H _ I h) λu s1 ⟨y,H1,I1,ry,q⟩=>aQ (ha pins s1 σ H1 _ I1 q) λov s2 ⟨x,H2,I2,rx,a,C,dx,fs,ex,ea,c,n,l,q2⟩=>?_) hs
 subst ex
 obtain rfl:ov=Value.ref a:=rx
 exact kG I2 ea c n l ry λs3 I3=>⟨σ,_,I3,q2⟩
theorem uG {op:Operator} {rd:V->V->Hp->VK->Prop} (ha:PE X o ta) (hv:PE X value tv) (hop:Cm X op rd):PS X (.AugAssign (.Attribute o f tpos) op value pos) (mX X.K ta tv rd f):=by
 intro pins s σ H D I h
 refine wpAny_AugAssign_AttributeAny (aQ (ha pins s σ H _ I h) λov s1 ⟨x,H1,I1,rx,a,C,dx,fs,v,ex,ea,c,n,l,q⟩=>?_)
 subst ex
 obtain rfl:ov=Value.ref a:=rx
 refine jU I1 ea c n l λu s2 I2 ru=>aQ (hv pins s2 σ H1 _ I2 q) λw3 s3 ⟨y,H2,I3,ry,q3⟩=>aQ (hop pins s3 σ H2 v y u w3 _ I3 ru ry q3) λw4 s4 ⟨z,H3,I4,rz,dx',fs',ea',l',q4⟩=>?_
 exact kG I4 ea' c n l' rz λs5 I5=>⟨σ,_,I5,q4⟩
def D3:V->V->Hp->VK->Prop:=λx y H Q=>∃ i j,x=.int i/\y=.int j/\Q (.int (i+j)) H
theorem Bj:Cm X .Add D3:=by
 rintro pins s σ H x y u v Q I rx ry ⟨i,j,rfl,rfl,q⟩
 obtain⟨t,rfl⟩:=(show ∃ t,u=Value.int i t from rx)
 obtain⟨t',rfl⟩:=(show ∃ t',v=Value.int j t' from ry)
 exact PyProof.Rows.iadd_int ⟨.int (i+j),H,I.tok _,⟨_,rfl⟩,q⟩
end
section
variable {X:Cx} {pins:List (Addr × Obj)} {σ:St} {H:Hp} {s:Shared} {A:Around} {E:Value->Shared->Prop} {Q:Value->Shared->Prop} {c:Value} {b:Bool}
inductive eU (K:PySem.W.Frag) (H:Hp):V->Value->Prop where
 | non:eU K H .non (.type "NoneType")
 | bl (x:Bool):eU K H (.bl x) (.type "bool")
 | int (i:Int):eU K H (.int i) (.type "int")
 | str (x:Str):eU K H (.str x) (.type "str")
 | flt (x:UInt64):eU K H (.flt x) (.type "float")
 | lst {a:Addr} {xs:List V} (e:H a=some (.lst xs)):eU K H (.ref a) (.type "list")
 | frz {a:Addr} {o:Obj} {xs:List V} (e:H a=some (.frz o (.lst xs))):eU K H (.ref a) (.type "list")
 | tup {a:Addr} {xs:List V} (e:H a=some (.tup xs)):eU K H (.ref a) (.type "tuple")
 | dK {a:Addr} {kvs:List (Key × V)} (e:H a=some (.dK kvs)):eU K H (.ref a) (.type "dict")
 | dT {a:Addr} {kvs:List (List Key × V)} (e:H a=some (.dT kvs)):eU K H (.ref a) (.type "dict")
 | ins {a C dx:Addr} {fs:List (Str × V)} (e:H a=some (.ins C dx fs)) (cl:kU K C) (ha:PySem.W.findIn K (.ref C) "__class__"=some (some (.builtin "object.__class__")))
   (hn:PySem.W.specialIn K (.builtin "object.__class__") "__get__"=some (some (.builtin "getset_descriptor.__get__"))) (htk:PySem.W.takesIn K (.builtin "object.__class__")=some true)
   (hm:PySem.W.mroIn K C (.type "object")=some true):eU K H (.ref a) (.ref C)
theorem dW {x:V} {u t:Value} (I:Inv X pins σ H s) (rx:RelV x u) (ty:eU X.K H x t) (e:PySem.W.kitOne X.K t c=some b) (h:∀ tk,Q (.bool b) { s with toks:=tk }) :
  wpAny (model X.prog X.w) A (call (.builtin "isinstance") [u,c]) Q E s:=by
 cases ty with
 | non=>cases (show u=Value.none from rx);exact PySem.W.kia_one PySem.W.kitx_none I.d6 True.intro e (λz=>nomatch z) h
 | bl y=>cases (show u=Value.bool y from rx);exact PySem.W.kia_one PySem.W.kitx_bool I.d6 True.intro e (λz=>nomatch z) h
 | int i=>obtain⟨t,q⟩:=(show ∃ t,u=Value.int i t from rx);cases q;exact PySem.W.kia_one PySem.W.kitx_int I.d6 True.intro e (λz=>nomatch z) h
 | str y=>obtain⟨t,q⟩:=(show ∃ t,u=Value.str y t from rx);cases q;exact PySem.W.kia_one PySem.W.kitx_str I.d6 True.intro e (λz=>nomatch z) h
 | flt y=>obtain⟨t,q⟩:=(show ∃ t,u=Value.float y t from rx);cases q;exact PySem.W.kia_one PySem.W.kitx_float I.d6 True.intro e (λz=>nomatch z) h
 | @lst a xs ea =>
  cases (show u=Value.ref a from rx)
  obtain⟨_,_,n,_,h1⟩:=(show aZ X.prog X.w H s.heap a (.lst xs) from I.hok a _ ea)
  exact PySem.W.kia_one PySem.W.kitx_list I.d6 ⟨_,h1,rfl⟩ e (λz=>nomatch z) h
 | @frz a ob xs ea =>
  cases (show u=Value.ref a from rx)
  obtain⟨_,_,_,n,_,h1⟩:=(show aZ X.prog X.w H s.heap a (.frz ob (.lst xs)) from I.hok a _ ea)
  exact PySem.W.kia_one PySem.W.kitx_list I.d6 ⟨_,h1,rfl⟩ e (λz=>nomatch z) h
 | @tup a xs ea =>
  cases (show u=Value.ref a from rx)
  obtain⟨_,_,_,p⟩:=(show aZ X.prog X.w H s.heap a (.tup xs) from I.hok a _ ea)
  obtain⟨o,h1,h2,_⟩:=p
  exact PySem.W.kia_one PySem.W.kitx_tuple I.d6 ⟨o,h1,h2⟩ e (λz=>nomatch z) h
 | @dK a kvs ea =>
  cases (show u=Value.ref a from rx)
  obtain⟨_,_,vs,_,p⟩:=(show aZ X.prog X.w H s.heap a (.dK kvs) from I.hok a _ ea)
  obtain⟨o,es,ep,h1,h2,_⟩:=p
  exact PySem.W.kia_one PySem.W.kitx_dict I.d6 ⟨o,h1,h2.1⟩ e (λz=>nomatch z) h
 | @dT a kvs ea =>
  cases (show u=Value.ref a from rx)
  obtain⟨_,_,xs,_,o,es,ep,h1,h2,_⟩:=(show aZ X.prog X.w H s.heap a (.dT kvs) from I.hok a _ ea)
  exact PySem.W.kia_one PySem.W.kitx_dict I.d6 ⟨o,h1,h2.1⟩ e (λz=>nomatch z) h
 | @ins a C dx fs ea cl ha hn htk hm =>
  cases (show u=Value.ref a from rx)
  obtain⟨mA,O,_⟩:=jH I.hok ea
  obtain⟨od,J,_⟩:=O.look
  exact PySem.W.kia_one (PySem.W.kitx_own (cl.get _) cl.hd ha hn htk hm) I.d6 J e (λz=>nomatch z) h
end
structure bF (k:Nat) (A:Around):Prop where
 hd:A.handled=none
 dp:A.depth+3*k+5<recursionLimit
 un:A.units+16*k+200<cLine
theorem bF.mono {j k:Nat} {A:Around} (r:bF k A) (h:j<=k):bF j A:=⟨r.hd,by have:=r.dp;omega,by have:=r.un;omega⟩
theorem bF.deeper {k:Nat} {A:Around} (r:bF (k+1) A) (env:Env):bF k (A.deeper env) :=
 ⟨r.hd,by have:=r.dp;show A.depth+1+3*k+5<_;omega,by have:=r.un;show A.units+3+16*k+200<_;omega⟩
theorem qJ {A:Around} {C:Addr} {us:List Value} {kw:List (Str × Value)}:(A.under (.builtin "type.__call__" ⟨.ref C::us,kw⟩)).depth=A.depth+1:=by
 first | rfl | simp [Around.under,Code.weight,Code.isCreation,Code.isGuard,Code.isCaller,Code.frames,Code.isFrame,guardIds]
theorem qK {A:Around} {C:Addr} {us:List Value} {kw:List (Str × Value)}:(A.under (.builtin "type.__call__" ⟨.ref C::us,kw⟩)).units=A.units+1:=by
 first | rfl | simp [Around.under,Code.cUnits,Code.frames,Code.isFrame]
theorem bF.make {k:Nat} {A:Around} (r:bF (k+1) A) (C:Addr) (us:List Value) (kw:List (Str × Value)):bF k (A.under (.builtin "type.__call__" ⟨.ref C::us,kw⟩)) :=
 ⟨r.hd,by have:=r.dp;rw [qJ];omega,by have:=r.un;rw [qK];omega⟩
theorem bF.depth {k:Nat} {A:Around} (r:bF k A):A.depth<recursionLimit:=by have:=r.dp;omega
theorem bF.units {k:Nat} {A:Around} (r:bF k A):A.units+64<cLine:=by have:=r.un;omega
def xQ:TA:=λ_ H Q=>Q [] H
def xK (ta:TE) (tr:TA):TA:=λσ H Q=>ta σ H λx H1=>tr σ H1 λxs H2=>Q (x::xs) H2
section
variable {X:Cx} {e:Expr} {es:List Expr} {te:TE} {t:TA} {pos:Pos}
theorem ag:PA X [] xQ:=λ_ _ _ _ H Q I h=>Calls.spliced_nil ⟨[],H,I,.nil,h⟩
theorem aa (ha:PE X e te) (hr:PA X es t) (hs:starEach (e::es) X.env=(false,eval e X.env)::starEach es X.env:=by rfl):PA X (e::es) (xK te t):=by
 intro pos pins s σ H Q I h
 rw [hs]
 show wpAny _ _ (spliced ((false,eval e X.env)::backTo pos (starEach es X.env))) _ _ s
 refine Calls.spliced_cons (aQ (ha pins s σ H _ I h) λu s1 ⟨x,H1,I1,r1,q1⟩=>?_)
 exact aQ (hr pos pins s1 σ H1 _ I1 q1) λus s2 ⟨xs,H2,I2,r2,q2⟩=>⟨x::xs,H2,I2,.cons r1 r2,q2⟩
def Dq (t:TA):TE:=λσ H Q=>t σ H λxs H1=>xs.length<=sizeLine/\∀ p,H1 p=none->Q (.ref p) (upd H1 p (.tup xs))
def Df (t:TA):TE:=λσ H Q=>t σ H λxs H1=>xs.length<=sizeLine/\∀ p,H1 p=none->Q (.ref p) (upd H1 p (.lst xs))
theorem aG {x1} (h:PA X es t):PE X (.Tuple es x1 pos) (Dq t):=by
 intro pins s σ H Q I hq
 refine wpAny_Tuple_spliced (aQ (h pos pins s σ H _ I hq) λus s1 ⟨xs,H1,I1,r,z,q⟩=>⟨by rw [<- r.length];exact z,?_⟩)
 have hf:H1 s1.heap.objs.size=none:=I1.hok.fresh (Nat.le_refl _)
 refine⟨.ref s1.heap.objs.size,upd H1 s1.heap.objs.size (.tup xs),I1.laid (t':=s1.toks) (λb u e=>Heap.get?_push_of_some _ e) (Nat.le_refl _) ?_,rfl,q _ hf⟩
 exact⟨z,us,r,⟨_,Heap.get?_push_size _ rfl,rfl,_,rfl⟩⟩
theorem dt (h:PA X es t):PE X (.List es pos) (Df t):=by
 intro pins s σ H Q I hq
 refine wpAny_List_spliced (aQ (h pos pins s σ H _ I hq) λus s1 ⟨xs,H1,I1,r,z,q⟩=>⟨by rw [<- r.length];exact z,?_⟩)
 have hf:H1 s1.heap.objs.size=none:=I1.hok.fresh (Nat.le_refl _)
 refine⟨.ref s1.heap.objs.size,upd H1 s1.heap.objs.size (.lst xs),I1.laid (t':=s1.toks) (λb u e=>Heap.get?_push_of_some _ e) (Nat.le_refl _) ?_,rfl,q _ hf⟩
 exact⟨z,us,0,r,Heap.get?_push_size _ rfl⟩
end
abbrev Sp:=List V->Hp->VK->XK->Prop
abbrev jq:=List Env->Hp->Shared->XK->Value->Shared->Prop
structure qg (P:Program) (w:World) (K:PySem.W.Frag) (mg:Str->Option Value) (base:Heap) (A:Around) (outer:List Env) (s:Shared) (H:Hp):Prop where
 frames:A.frames=some outer
 mod:Mod K mg base
 bs:∀ b o,base.get? b=some o->s.heap.get? b=some o/\H b=none
 bsz:base.objs.size<=s.heap.objs.size
 iL:s.heap.FunFrames base outer
 frf:∀ b∈c9 outer,H b=none
 hok:eX P w H s.heap
 bare:AllBare s.gens
def CE (outer:List Env) (P:Program) (w:World) (H:Hp) (s:Shared) (Q:VK) (u:Value) (s':Shared):Prop :=
 ∃ v H',s'.os=s.os/\AllBare s'.gens/\Un (c9 outer) [] H H' s.heap s'.heap/\eX P w H' s'.heap/\RelV v u/\Q v H'
def CR (CX:jq) (outer:List Env) (P:Program) (w:World) (H:Hp) (s:Shared) (Q:VK) (E:XK) (r:Result) (s':Shared):Prop :=
 match r with
 | .ok (.ret u)=>CE outer P w H s Q u s'
 | .ok _=>False
 | .error e=>CX outer H s E e s'
structure cq (P:Program) (w:World) (K:PySem.W.Frag) (mg:Str->Option Value) (base:Heap) (CX:jq) (k:Nat) (f:Addr) (fd:FuncData) (ps:List Str) (sp:Sp):Prop where
 len:∀ vs H Q E,sp vs H Q E->vs.length=ps.length
 run:∀(A:Around) (outer:List Env) (s:Shared) (H:Hp) (args:Args) (us:List Value) (vs:List V) (Q:VK) (E:XK),bF k A->qg P w K mg base A outer s H->BindsTo s fd args (ps.zip us)->Vals vs us->sp vs H Q E ->
  codeAny (model P w) A (.call (.ref f) args) (CR CX outer P w H s Q E) s
theorem cq.mono {P:Program} {w:World} {K:PySem.W.Frag} {mg:Str->Option Value} {base:Heap} {CX:jq} {j k:Nat} {f:Addr} {fd:FuncData} {ps:List Str} {sp:Sp} (F:cq P w K mg base CX j f fd ps sp) (h:j<=k) :
  cq P w K mg base CX k f fd ps sp:=⟨F.len,λA outer s H args us vs Q E hr=>F.run A outer s H args us vs Q E (hr.mono h)⟩
theorem cq.imp {P:Program} {w:World} {K:PySem.W.Frag} {mg:Str->Option Value} {base:Heap} {CX:jq} {k:Nat} {f:Addr} {fd:FuncData} {ps:List Str} {sp sp':Sp} (F:cq P w K mg base CX k f fd ps sp)
  (h:∀ vs H Q E,sp' vs H Q E->sp vs H Q E):cq P w K mg base CX k f fd ps sp' :=
 ⟨λvs H Q E q=>F.len vs H Q E (h _ _ _ _ q),λA outer s H args us vs Q E hr he hb hv hs=>F.run A outer s H args us vs Q E hr he hb hv (h _ _ _ _ hs)⟩
theorem qg.make {P:Program} {w:World} {K:PySem.W.Frag} {mg:Str->Option Value} {base:Heap} {A:Around} {outer:List Env} {s:Shared} {H:Hp} (e:qg P w K mg base A outer s H) (C:Addr) (us:List Value) (kw:List (Str × Value)) :
  qg P w K mg base (A.under (.builtin "type.__call__" ⟨.ref C::us,kw⟩)) outer s H:=⟨by first | exact e.frames | (simpa [Around.under,Code.envs,Code.isFrame,pushEnvs] using e.frames),e.mod,e.bs,e.bsz,e.iL,e.frf,e.hok,e.bare⟩
section
variable {X:Cx} {pins:List (Addr × Obj)} {σ:St} {H:Hp} {s s':Shared}
theorem Inv.yB (I:Inv X pins σ H s):qg X.prog X.w X.K X.mg X.base X.A X.stack s H :=
 ⟨I.ok.frames,I.ok.mod,I.bs,Nat.le_trans I.ok.bsz I.sz,I.stack,I.cJ,I.hok,I.bare⟩
theorem Inv.after {Q:VK} {u:Value} (I:Inv X pins σ H s) (h:CE X.stack X.prog X.w H s Q u s'):EP X pins σ Q u s':=by
 obtain⟨v,H',os,bare,un,hok,r,q⟩:=h
 obtain⟨hh,g,d,t,os'⟩:=s'
 obtain rfl:os'=s.os:=os
 exact⟨v,H',I.call (h':=hh) (g':=g) (d':=d) (t':=t) (ch:=[]) un hok bare (λb z=>absurd z (by simp)),r,q⟩
end
def sO (sp:Sp) (aF:List V) (E:XK) (t:TA):TE:=λσ H Q=>t σ H λvs H1=>sp (vs++aF) H1 Q E
def pW (C:Addr) (m:Str) (sp:Sp) (aF:List V) (E:XK) (ta:TE) (t:TA):TE:=λσ H Q=>ta σ H λx H1=>∃ a dx fs,x=.ref a/\H1 a=some (.ins C dx fs)/\fs.lookup m=none /\
 t σ H1 λvs H2=>sp (x::(vs++aF)) H2 Q E
def xP (C:Addr) (sp:Sp) (aF:List V) (E:XK) (t:TA):TE:=λσ H Q=>t σ H λvs H1=>∀ x dx,H1 x=none->H1 dx=none->dx≠x ->
 sp (.ref x::(vs++aF)) (upd (upd H1 dx (.own x)) x (.ins C dx [])) (λv H2=>v=.non/\Q (.ref x) H2) E
def Binds (K:PySem.W.Frag) (fd:FuncData) (ps:List Str) (ds:List Value):Prop :=
 ∀(s:Shared) (us:List Value),K.In s.heap->(us++ds).length=ps.length->BindsTo s fd ⟨us,[]⟩ (ps.zip (us++ds))
theorem Binds.all {K:PySem.W.Frag} {fd:FuncData} {ps:List Str} (h:∀ us:List Value,us.length=ps.length->bindArgs fd ⟨us,[]⟩=pure (ps.zip us)):Binds K fd ps []:=λs us _ hl=>by
 rw [List.append_nil] at hl ⊢
 exact .of_eq (h us hl)
def Passes (CX:jq) (X:Cx) (E:XK):Prop:=∀(pins:List (Addr × Obj)) (σ:St) (H:Hp) (s:Shared) (e:Value) (s':Shared),Inv X pins σ H s->CX X.stack H s E e s'->X.xe e s'
section
variable {X:Cx} {CX:jq} {k:Nat} {f C:Addr} {fd:FuncData} {ps:List Str} {sp:Sp} {aF:List V} {ds:List Value} {E:XK} {x m:Str} {p pos apos:Pos} {e o:Expr} {es:List Expr} {ta:TE} {t:TA}
theorem rq {pins:List (Addr × Obj)} {σ:St} {H:Hp} {s:Shared} {Q:VK} {us:List Value} {vs:List V} (F:cq X.prog X.w X.K X.mg X.base CX k f fd ps sp) (hr:bF k X.A) (hb:Binds X.K fd ps ds) (hd:Vals aF ds) (hx:Passes CX X E)
  (I:Inv X pins σ H s) (r:Vals vs us) (h:sp (vs++aF) H Q E):wpAny (model X.prog X.w) X.A (call (.ref f) us) (EP X pins σ Q) X.xe s:=by
 have r2:Vals (vs++aF) (us++ds):=r.append hd
 have hl:(us++ds).length=ps.length:=by rw [<- r2.length];exact F.len _ _ _ _ h
 refine wpAny_call (codeAny_mono (F.run X.A X.stack s H ⟨us,[]⟩ (us++ds) (vs++aF) Q E hr I.yB (hb s us I.d6 hl) r2 h) λr s' hq=>?_)
 cases r with
 | error e=>exact hx pins σ H s e s' I hq
 | ok fl =>
  cases fl with
  | ret u=>exact I.after hq
  | next=>exact False.elim hq
  | brk=>exact False.elim hq
  | cont=>exact False.elim hq
theorem zz (F:cq X.prog X.w X.K X.mg X.base CX k f fd ps sp) (hr:bF k X.A) (hg:Gl X x) (hm:X.mg x=some (.ref f)) (hk:PySem.W.keepIn X.K (.ref f)=true) (hb:Binds X.K fd ps ds) (hd:Vals aF ds) (hx:Passes CX X E)
  (ha:PA X (e::es) t) (hdb:(x==("__debug__":Str))=false:=by decide) (he:starEach (e::es) X.env=(false,eval e X.env)::starEach es X.env:=by rfl) (hpl:(backTo pos (starEach es X.env)).any (·.1)=false:=by rfl) :
  PE X (.Call (.Name x p) (e::es) [] pos) (sO sp aF E t):=by
 intro pins s σ H Q I h
 refine wpAny_Call_Name_kw (eB I hg hm ?_ hdb)
 refine PySem.W.callWith_K (h₀:=X.base) I.ok.mod.kin hk (aQ (ha pos pins s σ H _ I h) λus s1 ⟨vs,H1,I1,r,q⟩=>⟨I1.d6,?_⟩) he hpl
 exact rq F hr hb hd hx I1 r q
theorem zC {pl:Sem Bool} (he:PE X o ta) (c:kU X.K C) (hm:Meth X.K C m f) (F:cq X.prog X.w X.K X.mg X.base CX k f fd ps sp) (hr:bF k X.A) (hb:Binds X.K fd ps ds) (hd:Vals aF ds) (hx:Passes CX X E) (ha:PA X (e::es) t)
  (hst:starEach (e::es) X.env=(false,eval e X.env)::starEach es X.env:=by rfl) (hpl:(backTo pos (starEach es X.env)).any (·.1)=false:=by rfl)
  (ht:eval (.Call (.Attribute o m apos) (e::es) [] pos) X.env=(do
   let ov <- eval o X.env
   standAt apos.atName
   let (f,first) <- holding [ov] (getMethod ov m pl)
   callWith pos f first (backTo pos (starEach (e::es) X.env)) (backToKw pos (keywordEach [] X.env))):=by rfl) :
  PE X (.Call (.Attribute o m apos) (e::es) [] pos) (pW C m sp aF E ta t):=by
 intro pins s σ H Q I h
 refine PySem.W.methodCall_KW (pl:=pl) (aQ (he pins s σ H _ I h) λu s1 ⟨x,H1,I1,rx,a,dx,fs,ex,ea,l,q⟩=>?_) ht
 subst ex
 obtain rfl:u=Value.ref a:=rx
 refine jV I1 ea c hm l ?_
 refine PySem.W.callWith_K (first:=[.ref a]) (h₀:=X.base) I.ok.mod.kin hm.kp (aQ (ha pos pins s1 σ H1 _ I1 q) λus s2 ⟨vs,H2,I2,r,q2⟩=>⟨I2.d6,?_⟩) hst hpl
 exact rq (us:=.ref a::us) (vs:=.ref a::vs) F hr hb hd hx I2 (.cons rfl r) q2
theorem wM {pl:Sem Bool} (he:PE X o ta) (c:kU X.K C) (hm:Meth X.K C m f) (F:cq X.prog X.w X.K X.mg X.base CX k f fd ps sp) (hr:bF k X.A) (hb:Binds X.K fd ps ds) (hd:Vals aF ds) (hx:Passes CX X E)
  (ht:eval (.Call (.Attribute o m apos) [] [] pos) X.env=(do
   let ov <- eval o X.env
   standAt apos.atName
   let (f,first) <- holding [ov] (getMethod ov m pl)
   callWith pos f first (backTo pos (starEach [] X.env)) (backToKw pos (keywordEach [] X.env))):=by rfl) :
  PE X (.Call (.Attribute o m apos) [] [] pos) (pW C m sp aF E ta xQ):=by
 intro pins s σ H Q I h
 refine PySem.W.methodCall_KW (pl:=pl) (aQ (he pins s σ H _ I h) λu s1 ⟨x,H1,I1,rx,a,dx,fs,ex,ea,l,q⟩=>?_) ht
 subst ex
 obtain rfl:u=Value.ref a:=rx
 refine jV I1 ea c hm l ?_
 exact PySem.W.callWith_K0 (first:=[.ref a]) I1.d6 hm.kp (rq (us:=[.ref a]) (vs:=[.ref a]) F hr hb hd hx I1 (.cons rfl .nil) q)
structure Mk (K:PySem.W.Frag) (C f:Addr):Prop where
 makes:PySem.W.makesIn K C=true
 init:PySem.W.findIn K (.ref C) "__init__"=some (some (.ref f))
 fn:PySem.W.isFn K (.ref f)=true
 kp:PySem.W.keepIn K (.ref C)=true
theorem xt {pins:List (Addr × Obj)} {σ:St} {H:Hp} {s:Shared} {Q:VK} {us:List Value} {vs:List V} (M:Mk X.K C f) (F:cq X.prog X.w X.K X.mg X.base CX k f fd ps sp) (hr:bF (k+1) X.A) (hb:Binds X.K fd ps ds) (hd:Vals aF ds)
  (hx:Passes CX X E) (I:Inv X pins σ H s) (r:Vals vs us)
  (h:∀ x dx,H x=none->H dx=none->dx≠x->sp (.ref x::(vs++aF)) (upd (upd H dx (.own x)) x (.ins C dx [])) (λv H2=>v=.non/\Q (.ref x) H2) E) :
  wpAny (model X.prog X.w) X.A (call (.ref C) us) (EP X pins σ Q) X.xe s:=by
 have hq:=h (s.heap.objs.size+1) s.heap.objs.size (I.hok.fresh (Nat.le_succ _)) (I.hok.fresh (Nat.le_refl _)) (Nat.ne_of_lt (Nat.lt_succ_self _))
 have I2:=Inv.made (C:=C) I
 have r2:Vals (V.ref (s.heap.objs.size+1)::(vs++aF)) (Value.ref (s.heap.objs.size+1)::(us++ds)):=.cons rfl (r.append hd)
 have hl:(Value.ref (s.heap.objs.size+1)::us++ds).length=ps.length:=by
  have e:=r2.length
  rw [F.len _ _ _ _ hq] at e
  exact e.symm
 refine wpAny_call (vV (f:=f) I.d6 M.makes M.init (beq_iff_eq.mp M.fn) (codeAny_mono (F.run _ X.stack _ _ ⟨Value.ref (s.heap.objs.size+1)::us,[]⟩ (Value.ref (s.heap.objs.size+1)::(us++ds)) _ _ E (hr.make C us [])
  (I2.yB.make C us []) (hb _ (Value.ref (s.heap.objs.size+1)::us) I2.d6 hl) r2 hq) λr s' hq'=>?_))
 cases r with
 | error e=>exact hx pins σ _ _ e s' I2 hq'
 | ok fl =>
  cases fl with
  | ret u =>
   obtain⟨v,H',I3,rv,ev,q3⟩:=I2.after hq'
   subst ev
   exact⟨rv,⟨V.ref (s.heap.objs.size+1),H',I3,rfl,q3⟩⟩
  | next=>exact False.elim hq'
  | brk=>exact False.elim hq'
  | cont=>exact False.elim hq'
theorem zB (M:Mk X.K C f) (F:cq X.prog X.w X.K X.mg X.base CX k f fd ps sp) (hr:bF (k+1) X.A) (hg:Gl X x) (hm:X.mg x=some (.ref C)) (hb:Binds X.K fd ps ds) (hd:Vals aF ds) (hx:Passes CX X E)
  (ha:PA X (e::es) t) (hdb:(x==("__debug__":Str))=false:=by decide) (he:starEach (e::es) X.env=(false,eval e X.env)::starEach es X.env:=by rfl) (hpl:(backTo pos (starEach es X.env)).any (·.1)=false:=by rfl) :
  PE X (.Call (.Name x p) (e::es) [] pos) (xP C sp aF E t):=by
 intro pins s σ H Q I h
 refine wpAny_Call_Name_kw (eB I hg hm ?_ hdb)
 refine PySem.W.callWith_K (h₀:=X.base) I.ok.mod.kin M.kp (aQ (ha pos pins s σ H _ I h) λus s1 ⟨vs,H1,I1,r,q⟩=>⟨I1.d6,?_⟩) he hpl
 exact xt M F hr hb hd hx I1 r q
end
section
variable {X:Cx} {CX:jq} {k:Nat} {f C:Addr} {fd:FuncData} {ps ks:List Str} {sp:Sp} {E:XK} {x m:Str} {p pos apos kpos:Pos} {e o:Expr} {es:List Expr} {kws:List Keyword} {te ta:TE} {t tk:TA} {nm:Option Str}
variable {g:List Value->List Value->List Value} {gV:List V->List V->List V}
end
structure av (N P:List Str) (sc:Scope):Prop where
 kind:sc.kind=.function
 co:sc.isCoroutine=false
 gen:sc.isGenerator=false
 nd:N.Nodup
 pre:N.take P.length=P
 par:∀ x∈P,sc.names.lookup x=some .local∨sc.names.lookup x=some .cell
 nofree:∀ y∈sc.names,y.2≠.free
theorem la {kindOf:Str->Option NameKind} {x:Str}:∀{binds:List (Str × Value)} {m:Str->Option Value},(∀ v,(x,v)∉binds)->bindL kindOf binds m x=m x
 | [],_,_=>rfl
 | (n,v)::r,m,h=>by
  unfold bindL
  rw [la λw hw=>h w (List.mem_cons_of_mem _ hw)]
  split
  ·have:x≠n:=by rintro rfl;exact h v List.mem_cons_self
   simp [this]
  ·rfl
theorem kX {kindOf:Str->Option NameKind} {x:Str}:∀{binds:List (Str × Value)} {m:Str->Option Value},(∀ v,(x,v)∉binds)->bindC kindOf binds m x=m x
 | [],_,_=>rfl
 | (n,v)::r,m,h=>by
  unfold bindC
  rw [kX λw hw=>h w (List.mem_cons_of_mem _ hw)]
  split
  ·rfl
  ·have:x≠n:=by rintro rfl;exact h v List.mem_cons_self
   simp [this]
theorem kZ {kindOf:Str->Option NameKind} {x:Str} {v:Value}:∀{P:List Str} {vs:List Value} {i:Nat} {m:Str->Option Value},P.Nodup->P[i]?=some x->vs[i]?=some v->kindOf x=some .local ->
  bindL kindOf (P.zip vs) m x=some v
 | [],_,_,_,_,h,_,_=>by simp at h
 | _::_,[],_,_,_,_,h,_=>by simp at h
 | p::P,w::vs,0,m,nd,h1,h2,hk=>by
  simp at h1 h2;subst h1;subst h2
  show bindL kindOf ((p,w)::P.zip vs) m p=_
  unfold bindL
  rw [la λv hv=>(List.nodup_cons.mp nd).1 (List.of_mem_zip hv).1,if_pos hk]
  simp
 | p::P,w::vs,i+1,m,nd,h1,h2,hk=>by
  show bindL kindOf ((p,w)::P.zip vs) m x=_
  unfold bindL
  exact kZ (i:=i) (List.nodup_cons.mp nd).2 (by simpa using h1) (by simpa using h2) hk
theorem kW {kindOf:Str->Option NameKind} {x:Str} {v:Value}:∀{P:List Str} {vs:List Value} {i:Nat} {m:Str->Option Value},P.Nodup->P[i]?=some x->vs[i]?=some v->kindOf x≠some .local ->
  bindC kindOf (P.zip vs) m x=some v
 | [],_,_,_,_,h,_,_=>by simp at h
 | _::_,[],_,_,_,_,h,_=>by simp at h
 | p::P,w::vs,0,m,nd,h1,h2,hk=>by
  simp at h1 h2;subst h1;subst h2
  show bindC kindOf ((p,w)::P.zip vs) m p=_
  unfold bindC
  rw [kX λv hv=>(List.nodup_cons.mp nd).1 (List.of_mem_zip hv).1,if_neg hk]
  simp
 | p::P,w::vs,i+1,m,nd,h1,h2,hk=>by
  show bindC kindOf ((p,w)::P.zip vs) m x=_
  unfold bindC
  exact kW (i:=i) (List.nodup_cons.mp nd).2 (by simpa using h1) (by simpa using h2) hk
def start (N:List Str) (vs:List V):St:=vs.map some++List.replicate (N.length-vs.length) none
def cQ (CX:jq) (P:Program) (w:World) (K:PySem.W.Frag) (mg:Str->Option Value) (base:Heap) (N:List Str) (qual:Str) (scope:Scope) (f:Addr) (cd:Value) (A:Around) (outer:List Env) (s:Shared) (H:Hp) (E:XK):Cx where
 prog:=P
 w:=w
 K:=K
 mg:=mg
 base:=base
 A:=A.deeper (envOfC qual scope s.heap.objs.size f cd)
 N:=N
 s₀:=s
 H₀:=H
 env:=envOfC qual scope s.heap.objs.size f cd
 outer:=outer
 stack:=envOfC qual scope s.heap.objs.size f cd::outer
 ex:=[]
 calm:=true
 fn:=λ_=>true
 pn:=[]
 xe:=λe s'=>wpAny (model P w) (A.deeper (envOfC qual scope s.heap.objs.size f cd)) (leaving (envOfC qual scope s.heap.objs.size f cd) e) (λ_ s''=>CX outer H s E e s'') (λe' s''=>CX outer H s E e' s'') s'
theorem nN {sc:Scope} {n:Nat} {x:Str} (h:sc.names.lookup x=some .cell):∃ c,(cellsFrom n sc.names []).lookup x=some c:=by
 have q:=PySem.W.cellsFrom_some sc.names n [] (.inl h)
 exact Option.isSome_iff_exists.mp q
theorem tW {CX:jq} {P:Program} {w:World} {K:PySem.W.Frag} {mg:Str->Option Value} {base:Heap} {N ps:List Str} {qual:Str} {scope:Scope} {f:Addr} {cd:Value} {A:Around} {outer:List Env} {s s1:Shared} {H:Hp} {E:XK} {us:List Value} {vs:List V}
  (S:av N ps scope) (hd:A.handled=none) (e0:qg P w K mg base A outer s H) (hl:vs.length=ps.length) (r:Vals vs us)
  (x:InCallC s s.heap.objs.size (bindL (envOfC qual scope s.heap.objs.size f cd).kindOf (ps.zip us) λ_=>none) (cellsFrom (s.heap.objs.size+1) scope.names []) (bindC (envOfC qual scope s.heap.objs.size f cd).kindOf (ps.zip us) λ_=>none) s1) :
  Inv (cQ CX P w K mg base N qual scope f cd A outer s H E) [] (start N vs) H s1:=by
 have hpl:ps.length<=N.length:=by have:=congrArg List.length S.pre;rw [List.length_take] at this;omega
 obtain⟨h1,tk,rfl,hk⟩:=x.done
 have noA:∀ b:Addr,b∉(cQ CX P w K mg base N qual scope f cd A outer s H E).ex:=λb z=>absurd (show b∈([]:List Addr) from z) (by simp)
 refine⟨⟨e0.mod,S.kind,rfl,rfl,Nat.le_refl _,λy z c h1 h2=>?_,λy hy=>?_,λy c _ h=>?_,λ_=>hd,Around.frames_deeper e0.frames,.inr ⟨rfl,rfl⟩,λb z=>absurd z (noA b),e0.bs,e0.bsz,λb _ _=>noA b,λb z=>absurd z (noA b),e0.iL,e0.frf⟩,
  rfl,e0.bare,Un.kept hk,⟨_,x.toInCall.ns,λi y v h1 h2 h3=>?_⟩,λy c h=>⟨_,x.cell y c h⟩,e0.hok.fresh (Nat.le_refl _),λy c h=>?_,λp hp=>absurd (show p∈([]:List (Addr × Obj)) from hp) (by simp),e0.hok.kept hk,?_⟩
 ·exact name_of_addr x.apart (PySem.mem_of_lookup h1) (PySem.mem_of_lookup h2)
 ·have hy:scope.names.lookup y=some .cell∨scope.names.lookup y=some .free:=hy
  rcases hy with hy | hy
  ·exact nN hy
  ·exact absurd rfl (S.nofree _ (PySem.mem_of_lookup hy))
 ·exact Nat.le_of_lt (x.above y c (PySem.mem_of_lookup h))
 ·have hi:i<vs.length:=by
   unfold start at h2
   by_cases hi:i<vs.length
   ·exact hi
   ·rw [List.getElem?_append_right (by simpa using hi)] at h2
    rw [List.getElem?_replicate] at h2
    split at h2<;>cases h2
  have ha:vs[i]?=some v:=by
   unfold start at h2
   rw [List.getElem?_append_left (by simpa using hi),List.getElem?_map] at h2
   cases e:vs[i]? with
   | none=>rw [e] at h2;cases h2
   | some a=>rw [e] at h2;cases h2;rfl
  obtain⟨u,hu,rv⟩:=r.get ha
  have hp:ps[i]?=some y:=by
   rw [<- S.pre,List.getElem?_take_of_lt (by omega)];exact h1
  have ndP:ps.Nodup:=by rw [<- S.pre];exact S.nd.sublist (List.take_sublist _ _)
  refine⟨u,rv,?_⟩
  rcases S.par y (List.mem_of_getElem? hp) with k | k
  ·exact .inl ⟨k,kZ ndP hp hu k⟩
  ·obtain⟨c,e⟩:=nN (n:=s.heap.objs.size+1) k
   refine .inr ⟨.inl k,c,e,?_⟩
   have q:=x.cell y c e
   rw [kW ndP hp hu (by show scope.names.lookup y≠_;rw [k];decide)] at q
   exact q
 ·exact e0.hok.fresh (Nat.le_of_lt (x.above y c (PySem.mem_of_lookup h)))
 ·unfold start
  show _=N.length
  rw [List.length_append,List.length_map,List.length_replicate]
  omega
theorem vE {CX:jq} {P:Program} {w:World} {K:PySem.W.Frag} {mg:Str->Option Value} {base:Heap} {k:Nat} {f:Addr} {name qual:Str} {params:Arguments} {body:List Stmt} {scope:Scope} {dV kV doc pm cdv ct oc:Value} {an od:Option Addr}
  {osl:Array (Option Value)} {N ps:List Str} {sp:Sp} (lk:K.lookup f=some ⟨oc,od,.func (PySem.W.fnOf name qual params body scope dV kV doc pm an cdv ct),osl⟩) (hcd:PySem.W.codeIn K cdv qual=true) (S:av N ps scope)
  (len:∀ vs H Q E,sp vs H Q E->vs.length=ps.length)
  (hbody:∀(A:Around) (outer:List Env) (s:Shared) (H:Hp) (vs:List V) (Q:VK) (E:XK),bF k (A.deeper (envOfC qual scope s.heap.objs.size f cdv))->sp vs H Q E ->
   ∃ t,iD (cQ CX P w K mg base N qual scope f cdv A outer s H E) body t/\t { nx:=λ_ H'=>Q .non H',rt:=Q } (start N vs) H) :
  cq P w K mg base CX (k+1) f (PySem.W.fnOf name qual params body scope dV kV doc pm an cdv ct) ps sp:=by
 refine⟨len,λA outer s H args us vs Q E hr e0 hb r hsp=>?_⟩
 have hl:=len _ _ _ _ hsp
 have KX:K.In s.heap:=e0.mod.kin.keeps λb o e=>(e0.bs b o e).1
 have lim:s.heap.NoLimit:=e0.mod.nolimit.keeps λb o e=>(e0.bs b o e).1
 have hkind:∀ y∈ps.zip us,scope.names.lookup y.1=some .local∨(scope.names.lookup y.1=some .cell/\((cellsFrom (s.heap.objs.size+1) scope.names []).lookup y.1).isSome=true):=fun⟨n,v⟩ hy=>by
  rcases S.par n (List.of_mem_zip hy).1 with q | q
  ·exact .inl q
  ·exact .inr ⟨q,PySem.W.cellsFrom_some _ _ _ (.inl q)⟩
 refine codeAny_call_function hr.depth (KX _ _ lk) rfl S.co S.gen rfl (PySem.W.codeRec_of KX hcd) (hb _ _ _ _ ?_)
 refine wpAny_newFunctionEnv_cells S.kind hkind λenv he s1 x=>?_
 subst he
 refine⟨lim.keeps x.toInCall.keep,codeAny_func ?_⟩
 obtain⟨t,ht,hq⟩:=hbody A outer s H vs Q E (hr.deeper _) hsp
 have I:Inv (cQ CX P w K mg base N qual scope f cdv A outer s H E) [] (start N vs) H s1:=tW S hr.hd e0 hl r x
 refine wpAny_mono (ht [] s1 (start N vs) H _ I hq) (λfl s' hs=>?_) λe s' hs=>hs
 have fin:∀{σ':St} {H':Hp} {v:V} {u:Value},Inv (cQ CX P w K mg base N qual scope f cdv A outer s H E) [] σ' H' s'->RelV v u->Q v H'->CE outer P w H s Q u s' :=
  λ{σ' H' v u} J rv q=>⟨v,H',J.os,J.bare,J.base,J.hok,rv,q⟩
 cases fl with
 | ret u =>
  obtain⟨v,σ',H',J,rv,q⟩:=hs
  exact fin J rv q
 | next =>
  obtain⟨σ',H',J,q⟩:=hs
  exact fin (v:=V.non) (u:=Value.none) J rfl q
 | brk =>
  obtain⟨_,_,_,q⟩:=hs
  exact False.elim q
 | cont =>
  obtain⟨_,_,_,q⟩:=hs
  exact False.elim q
section
variable {X:Cx} {x:Str} {p pos:Pos} {e:Expr} {es:List Expr} {t:TA} {id T:String} {r:List V->Hp->VK->Prop}
def Eb (r:List V->Hp->VK->Prop) (t:TA):TE:=λσ H Q=>t σ H λvs H1=>r vs H1 Q
theorem aD (hc:cL X (.builtin id) r) (hg:Gl X x) (hm:X.mg x=none) (hv:bootBuiltins x=some (.builtin id)) (ha:PA X (e::es) t) (hn:x ≠ "__name__":=by decide) (hdb:(x==("__debug__":Str))=false:=by decide)
  (he:starEach (e::es) X.env=(false,eval e X.env)::starEach es X.env:=by rfl) (hpl:(backTo pos (starEach es X.env)).any (·.1)=false:=by rfl):PE X (.Call (.Name x p) (e::es) [] pos) (Eb r t):=by
 intro pins s σ H Q I h
 refine wpAny_Call_Name_kw (gw I hg hm hv ?_ hn hdb)
 exact PyProof.Rows.callWith_builtin1 (aQ (ha pos pins s σ H _ I h) λus s1 ⟨vs,H1,I1,r1,q1⟩=>hc pins s1 σ H1 vs us Q I1 r1 q1) he hpl
theorem bY (hc:cL X (.type T) r) (hg:Gl X x) (hm:X.mg x=none) (hv:bootBuiltins x=some (.type T)) (ha:PA X (e::es) t) (hn:x ≠ "__name__":=by decide) (hdb:(x==("__debug__":Str))=false:=by decide)
  (he:starEach (e::es) X.env=(false,eval e X.env)::starEach es X.env:=by rfl) (hpl:(backTo pos (starEach es X.env)).any (·.1)=false:=by rfl):PE X (.Call (.Name x p) (e::es) [] pos) (Eb r t):=by
 intro pins s σ H Q I h
 refine wpAny_Call_Name_kw (gw I hg hm hv ?_ hn hdb)
 exact PyProof.Rows.callWith_type1 (aQ (ha pos pins s σ H _ I h) λus s1 ⟨vs,H1,I1,r1,q1⟩=>hc pins s1 σ H1 vs us Q I1 r1 q1) he hpl
end
end L2
namespace HT
open PySem PyProof.Rows
section
open PySem.SeqAt
open PySem.AutoSeq1 (wpAny_loadPart')
open PySem.MeetsSeq PySem.MeetsSeq2 PySem.MeetsSeq3
end
section
variable {prog:Program} {w:World} {A:Around} {E:Value->Shared->Prop} {s:Shared}
theorem yv {t b:Addr} {vs ws:List Value} {Q:Value->Shared->Prop} (ht:IsTup s.heap t vs.toArray) (hb:IsTup s.heap b ws.toArray) (hv:vs≠[])
  (h1:ws=[]->Q (.ref t) s) (h2:ws≠[]->Q (.ref s.heap.objs.size) { s with heap:=s.heap.push { cls:=.type "tuple",data:=.seq (vs++ws).toArray } })
  (hsz:vs.length+ws.length<=sizeLine):wpAny (model prog w) A (binaryOp .Add (.ref t) (.ref b)) Q E s:=by
 obtain⟨⟨cls,dd,data,sl⟩,ho,hc,n,hd⟩:=id ht
 obtain⟨⟨cls2,dd2,data2,sl2⟩,ho2,hc2,n2,hd2⟩:=id hb
 simp only at hc hd hc2 hd2
 subst hc hd hc2 hd2
 have e:vs.toArray++ws.toArray=(vs++ws).toArray:=by simp
 by_cases hw:ws=[]
 ·exact concat_meets ⟨_,ho,rfl⟩ ⟨_,ho2,rfl⟩ noFill_tuple_add seq_tuple_add PySem.F.slot_tuple_add PySem.F.entry_tuple_add (PySem.F.args_tuple_add_2 _ _)
   (tuple_addW1 t b vs.toArray ws.toArray n n2 dd dd2 sl sl2 (by simpa using hv) (by simp [hw])) ⟨ho,ho2,h1 hw⟩
 ·refine concat_meets ⟨_,ho,rfl⟩ ⟨_,ho2,rfl⟩ noFill_tuple_add seq_tuple_add PySem.F.slot_tuple_add PySem.F.entry_tuple_add (PySem.F.args_tuple_add_2 _ _)
   (tuple_addW2 t b vs.toArray ws.toArray n n2 dd dd2 sl sl2 (by simpa using hv) (by simpa using hw) (by rw [List.size_toArray,List.size_toArray];exact hsz)) ⟨ho,ho2,?_⟩
  rw [e]
  exact h2 hw
def cK (n d:Nat):Option Int->Nat
 | none=>d
 | some v=>if v<0 then (v+(n:Int)).toNat else min v.toNat n
theorem BO (n d:Nat) (hd:d<=n) (o:Option Int):cK n d o<=n:=by
 cases o with
 | none=>exact hd
 | some v =>
  show (if v<0 then (v+(n:Int)).toNat else min v.toNat n)<=n
  by_cases hv:v<0
  ·rw [if_pos hv];omega
  ·rw [if_neg hv];exact Nat.min_le_right _ _
theorem rK (v:Int) (n d:Nat):(if v<0 then max (v+(n:Int)) 0 else min v (n:Int))=((cK n d (some v):Nat):Int):=by
 show (if v<0 then max (v+(n:Int)) 0 else min v (n:Int))=(((if v<0 then (v+(n:Int)).toNat else min v.toNat n):Nat):Int)
 by_cases hv:v<0
 ·simp only [if_pos hv];omega
 ·simp only [if_neg hv];omega
theorem qp (lo hi:Option Int) (n:Nat):Builtin.Slice.sliceAdjust lo hi 1 (n:Int)=(((cK n 0 lo:Nat):Int),((cK n n hi:Nat):Int)):=by
 have h1:¬((1:Int)<0):=by omega
 unfold Builtin.Slice.sliceAdjust
 simp only [h1,if_false]
 refine Prod.ext ?_ ?_
 ·cases lo with
  | none=>rfl
  | some v=>exact rK v n 0
 ·cases hi with
  | none=>rfl
  | some v=>exact rK v n n
theorem rh (i j:Nat):Builtin.Slice.slicePlaces (i:Int) (j:Int) 1=j-i:=by
 unfold Builtin.Slice.slicePlaces
 have h1:(1:Int) > 0:=by omega
 simp only [h1,if_true,Int.ediv_one]
 split<;>omega
theorem gF {v:Value} {o:Option Int} {Q:Option Int->Shared->Prop} (p:IsPart v o) (h:Q o s):wpAny (model prog w) A (Builtin.Slice.slicePartIndex v) Q E s:=by
 cases p with
 | none=>exact slicePart_none h
 | int i t=>exact slicePart_int h
theorem iW {sl:Addr} {vl vu:Value} {lo hi:Option Int} {n:Nat} {Q:Int × Int × Nat->Shared->Prop} (hs:s.heap.IsSliceOf sl vl vu .none) (pl:IsPart vl lo) (pu:IsPart vu hi)
  (h:Q (((cK n 0 lo:Nat):Int),1,cK n n hi-cK n 0 lo) s):wpAny (model prog w) A (Builtin.Slice.sliceApplied (.ref sl) (pure (n:Int))) Q E s:=by
 obtain⟨os,hos,hcs,hds⟩:=id hs
 unfold Builtin.Slice.sliceApplied Builtin.Slice.sliceFields
 refine wpAny_bind (wpAny_bind (wpAny_field hos hds (x:=vl) rfl (wpAny_bind (wpAny_field hos hds (x:=vu) rfl (wpAny_bind (wpAny_field hos hds (x:=.none) rfl (wpAny_pure ?_)))))))
 refine wpAny_bind (slicePart_none ?_)
 show wpAny _ _ (if ((1:Int)==0)=true then _ else _) _ _ s
 rw [if_neg (by decide)]
 refine wpAny_bind (gF pl (wpAny_bind (gF pu (wpAny_bind (wpAny_pure ?_)))))
 show wpAny _ _ (match Builtin.Slice.sliceAdjust lo hi 1 (n:Int) with | (lo,hi)=>pure (lo,(1:Int),Builtin.Slice.slicePlaces lo hi 1)) _ _ s
 rw [qp lo hi n]
 show wpAny _ _ (pure (((cK n 0 lo:Nat):Int),(1:Int),Builtin.Slice.slicePlaces ((cK n 0 lo:Nat):Int) ((cK n n hi:Nat):Int) 1)) _ _ s
 rw [rh]
 exact wpAny_pure h
theorem wV (xs:Array Value) (i k:Nat):((List.range k).filterMap fun(m:Nat)=>xs[((i:Int)+(m:Int)*1).toNat]?).toArray=((xs.toList.drop i).take k).toArray:=by
 have e:(fun(m:Nat)=>xs[((i:Int)+(m:Int)*1).toNat]?)=λm=>xs[i+m]?:=by
  funext m
  have:((i:Int)+(m:Int)*1).toNat=i+m:=by omega
  rw [this]
 rw [e]
 have:=pick_run xs i k
 rw [List.filterMap_map] at this
 have e2:((λx=>xs[x]?)∘λx=>i+x)=λm=>xs[i+m]?:=rfl
 rw [e2] at this
 rw [this]
theorem gS {t sl:Addr} {items:Array Value} {vl vu:Value} {lo hi:Option Int} {Q:Value->Shared->Prop} (ht:IsTup s.heap t items) (hs:s.heap.IsSliceOf sl vl vu .none) (pl:IsPart vl lo) (pu:IsPart vu hi)
  (hw:¬(cK items.size 0 lo=0/\cK items.size items.size hi=items.size))
  (h:Q (.ref s.heap.objs.size) { s with heap:=s.heap.push { cls:=.type "tuple",data:=.seq ((items.toList.drop (cK items.size 0 lo)).take (cK items.size items.size hi-cK items.size 0 lo)).toArray } })
  (hsz:items.size<=sizeLine):wpAny (model prog w) A (getItem (.ref t) (.ref sl)) Q E s:=by
 have htake:sizeOk (.seq ((items.toList.drop (cK items.size 0 lo)).take (cK items.size items.size hi-cK items.size 0 lo)).toArray):=by
  show ((items.toList.drop (cK items.size 0 lo)).take (cK items.size items.size hi-cK items.size 0 lo)).toArray.size<=sizeLine
  rw [List.size_toArray,List.length_take,List.length_drop,Array.length_toList]
  omega
 have hj:cK items.size items.size hi<=items.size:=BO _ _ (Nat.le_refl _) hi
 obtain⟨os,hos,hcs,hds⟩:=id hs
 have hTs:s.TypeIs (.ref sl) "slice":=⟨os,hos,hcs⟩
 unfold getItem
 try with_reducible refine wpAny_holding ?_
 first | refine wpAny_bind (wpAny_pure ?_) | skip
 refine wpAny_bind (wpAny_sequenceKey ht.typeIs (by decide) ?_)
 refine wpAny_bind (wpAny_callSpecial?_slot (name:=Str.ofString "__getitem__") ht.typeIs PyProof.Rows.slot_tuple_getitem
  (wpAny_call_entry PyProof.Rows.slot_tuple_getitem ht.typeIs entry_tuple_getitem ?_ (args_tuple_getitem _ _)))
 show wpAny _ _ (Builtin.Tuple.tupleItemsOf (.ref t) >>= _) _ _ s
 refine wpAny_bind (tupleItemsOf_ ht ?_)
 refine wpAny_bind (wpAny_typeOf hTs ?_)
 rw [if_pos (by decide)]
 refine wpAny_bind (iW hs pl pu ?_)
 have hno:¬((((cK items.size 0 lo:Nat):Int)==0 && (1:Int)==1 && (cK items.size items.size hi-cK items.size 0 lo)==items.size)=true):=by
  intro q
  rw [Bool.and_eq_true,Bool.and_eq_true] at q
  have q1:((cK items.size 0 lo:Nat):Int)=0:=eq_of_beq q.1.1
  have q2:cK items.size items.size hi-cK items.size 0 lo=items.size:=eq_of_beq q.2
  exact hw ⟨by omega,by omega⟩
 show wpAny _ _ (if (((cK items.size 0 lo:Nat):Int)==0 && (1:Int)==1 && (cK items.size items.size hi-cK items.size 0 lo)==items.size)=true then _ else _) _ _ s
 rw [if_neg hno,wV]
 first
  | exact wpAny_bind (m:=Builtin.Tuple.tupleExact _) (wpAny_newObj_type (wpAny_pure ⟨_,rfl,wpAny_pure h⟩) htake)
  | exact wpAny_bind (m:=Builtin.Tuple.tupleExact _) (wpAny_newObj_type (wpAny_bind (wpAny_pure (wpAny_pure ⟨_,rfl,wpAny_pure h⟩))) htake)
  | exact wpAny_bind (wpAny_bind (m:=Builtin.Tuple.tupleExact _) (wpAny_newObj_type (wpAny_pure (wpAny_pure ⟨_,rfl,wpAny_pure h⟩)) htake))
  | exact wpAny_bind (wpAny_bind (m:=Builtin.Tuple.tupleExact _) (wpAny_newObj_type (wpAny_pure ⟨_,rfl,wpAny_pure h⟩) htake))
end
end HT
namespace L2
open PySem PySem.Spec PyProof.Rows
abbrev TO:=St->Hp->(Option Int->Hp->Prop)->Prop
def PO (X:Cx) (e:Option Expr) (t:TO):Prop :=
 ∀(pins:List (Addr × Obj)) (s:Shared) (σ:St) (H:Hp) (Q:Option Int->Hp->Prop),Inv X pins σ H s->t σ H Q ->
  wpAny (model X.prog X.w) X.A (evalPart e X.env) (λu s'=>∃ o H',Inv X pins σ H' s'/\IsPart u o/\Q o H') X.xe s
def sQ:TO:=λ_ H Q=>Q none H
def AK (t:TE):TO:=λσ H Q=>t σ H λx H1=>∃ i,x=.int i/\Q (some i) H1
section
variable {X:Cx} {e:Expr} {te:TE} {lo hi:Option Expr} {tl th:TO} {pos p2:Pos}
theorem mS:PO X none sQ:=by
 intro pins s σ H Q I h
 rw [evalPart_none]
 exact wpAny_pure ⟨none,H,I,.none,h⟩
theorem eF (h:PE X e te):PO X (some e) (AK te):=by
 intro pins s σ H Q I hw
 rw [evalPart_some]
 refine aQ (h pins s σ H _ I hw) λu s1 ⟨x,H1,I1,r1,q1⟩=>?_
 obtain⟨i,rfl,q⟩:=q1
 obtain⟨t,rfl⟩:=r1
 exact⟨some i,H1,I1,.int i t,q⟩
def DJ (X:Cx) (r:V->Option Int->Option Int->Hp->VK->Prop):Prop :=
 ∀(pins:List (Addr × Obj)) (s:Shared) (σ:St) (H:Hp) (x:V) (v vl vu:Value) (lo hi:Option Int) (sl:Addr) (Q:VK),Inv X pins σ H s->RelV x v->s.heap.IsSliceOf sl vl vu .none->IsPart vl lo->IsPart vu hi->r x lo hi H Q ->
  ∃ T id,typeLookup (.type T) "__getitem__"=pure (some (.builtin id))/\s.TypeIs v T/\wpAny (model X.prog X.w) X.A (getItem v (.ref sl)) (EP X pins σ Q) X.xe s
def Eu (r:V->Option Int->Option Int->Hp->VK->Prop) (te:TE) (tl th:TO):TE:=λσ H Q=>te σ H λx H1=>tl σ H1 λl H2=>th σ H2 λu H3=>r x l u H3 Q
theorem gX {r:V->Option Int->Option Int->Hp->VK->Prop} (hr:DJ X r) (he:PE X e te) (hl:PO X lo tl) (hu:PO X hi th):PE X (.Subscript e (.Slice lo hi none p2) pos) (Eu r te tl th):=by
 intro pins s σ H Q I h
 refine Subscript_ (aQ (he pins s σ H _ I h) λv s1 ⟨x,H1,I1,r1,q1⟩=>?_)
 refine wpAny_Slice (aQ (hl pins s1 σ H1 _ I1 q1) λvl s2 ⟨l,H2,I2,pl,q2⟩=>aQ (hu pins s2 σ H2 _ I2 q2) λvu s3 ⟨u,H3,I3,pu,q3⟩=>?_)
 rw [evalPart_none]
 refine wpAny_pure ?_
 have I4:Inv X pins σ H3 { s3 with heap:=s3.heap.push { cls:=.type "slice",data:=.fields #[vl,vu,.none] } }:=I3.kept (t':=s3.toks) λb ob q=>Heap.get?_push_of_some _ q
 obtain⟨T,id,hT,ht,hg⟩:=hr pins { s3 with heap:=s3.heap.push { cls:=.type "slice",data:=.fields #[vl,vu,.none] } } σ H3 x v vl vu l u s3.heap.objs.size Q I4 r1 (Heap.IsSliceOf.new ..) pl pu q3
 show wpAny (model X.prog X.w) X.A (subscriptTail e (.Slice lo hi none p2) v (.ref s3.heap.objs.size)) (EP X pins σ Q) X.xe { s3 with heap:=s3.heap.push { cls:=.type "slice",data:=.fields #[vl,vu,.none] } }
 exact tail_any (ops:=[.ref s3.heap.objs.size,v]) ht hT hg (by with_unfolding_all rfl)
def dP (xs:List V) (lo hi:Option Int):List V:=(xs.drop (HT.cK xs.length 0 lo)).take (HT.cK xs.length xs.length hi-HT.cK xs.length 0 lo)
theorem fb (xs:List V) (lo hi:Option Int):(dP xs lo hi).length<=xs.length:=by
 unfold dP
 rw [List.length_take,List.length_drop]
 omega
def D8 (K:PySem.W.Frag):V->Option Int->Option Int->Hp->VK->Prop:=λx lo hi H Q=>∃ a xs,x=.ref a/\bE K H a xs /\
 ¬(HT.cK xs.length 0 lo=0/\HT.cK xs.length xs.length hi=xs.length)/\∀ p,H p=none->Q (.ref p) (upd H p (.tup (dP xs lo hi)))
theorem BQ:DJ X (D8 X.K):=by
 intro pins s σ H x v vl vu lo hi sl Q I rx hs pl pu h
 obtain⟨a,xs,rfl,hx,hw,q⟩:=h
 cases rx
 obtain⟨its,r,ht,hz⟩:=I.tuple hx
 have hlen:its.toArray.size=xs.length:=by rw [List.size_toArray];exact r.length.symm
 refine⟨"tuple",_,PyProof.Rows.slot_tuple_getitem.lookup,ht.typeIs,?_⟩
 refine HT.gS ht hs pl pu (by rw [hlen];exact hw) ?_ (by rw [hlen];exact hz)
 rw [hlen]
 refine⟨.ref s.heap.objs.size,_,I.laid (t':=s.toks) (o:=.tup (dP xs lo hi)) (λb ob q=>Heap.get?_push_of_some _ q) (Nat.le_refl _) ?_,rfl,q _ (I.hok.fresh (Nat.le_refl _))⟩
 exact⟨Nat.le_trans (fb xs lo hi) hz,_,(r.drop (HT.cK xs.length 0 lo)).take (HT.cK xs.length xs.length hi-HT.cK xs.length 0 lo),IsTup.new _ _⟩
def CW (K:PySem.W.Frag):R2:=λx y H Q=>∃ a b xs ys,x=.ref a/\y=.ref b/\bE K H a xs/\bE K H b ys/\xs≠[]/\xs.length+ys.length<=sizeLine /\
 (ys=[]->Q (.ref a) H)/\(ys≠[]->∀ p,H p=none->Q (.ref p) (upd H p (.tup (xs++ys))))
theorem Vals.jK {xs:List V} {us:List Value} (r:Vals xs us):us=[]↔xs=[]:=by
 cases r with
 | nil=>simp
 | cons _ _=>simp
theorem zj:gI X (binaryOp .Add) (CW X.K):=by
 intro pins s σ H x y v u Q I rx ry h
 obtain⟨a,b,xs,ys,rfl,rfl,ha,hb,hx,hz,q1,q2⟩:=h
 cases rx
 cases ry
 obtain⟨its,r1,p1,_⟩:=I.tuple ha
 obtain⟨its2,r2,p2,_⟩:=I.tuple hb
 refine HT.yv p1 p2 (λz=>hx (r1.jK.mp z)) (λz=>⟨.ref a,H,I,rfl,q1 (r2.jK.mp z)⟩) (λz=>?_) (by rw [<- r1.length,<- r2.length];exact hz)
 refine⟨.ref s.heap.objs.size,_,I.laid (t':=s.toks) (o:=.tup (xs++ys)) (λb ob q=>Heap.get?_push_of_some _ q) (Nat.le_refl _) ?_,rfl,q2 (λw=>z (r2.jK.mpr w)) _ (I.hok.fresh (Nat.le_refl _))⟩
 exact⟨by rw [List.length_append];exact hz,_,r1.append r2,IsTup.new _ _⟩
end
def vP (n:Nat) (i:Int):Option Nat:=if 0<=i then (if i<n then some i.toNat else none) else if -(n:Int)<=i then some (i+n).toNat else none
def qc {α:Type} (xs:List α) (i:Int):Option α:=(vP xs.length i).bind λj=>xs[j]?
theorem yM {n:Nat} {i:Int} {j:Nat} (h:vP n i=some j):seqIndex? i n=some j/\j<n /\ -(n:Int)<=i/\i<n:=by
 unfold vP at h
 by_cases h0:0<=i
 ·rw [if_pos h0] at h
  by_cases h1:i<n
  ·rw [if_pos h1] at h
   have e:i.toNat=j:=Option.some.inj h
   exact⟨by rw [seqIndex_of h0 h1,e],by omega,by omega,h1⟩
  ·rw [if_neg h1] at h;cases h
 ·rw [if_neg h0] at h
  by_cases h1:-(n:Int)<=i
  ·rw [if_pos h1] at h
   have e:(i+n).toNat=j:=Option.some.inj h
   exact⟨by rw [seqIndex_neg (by omega) h1,e],by omega,h1,by omega⟩
  ·rw [if_neg h1] at h;cases h
theorem rJ {α:Type} {xs:List α} {i:Int} {v:α} (h:qc xs i=some v):∃ j,seqIndex? i xs.length=some j/\xs[j]?=some v/\j<xs.length /\ -(xs.length:Int)<=i/\i<xs.length:=by
 unfold qc at h
 cases e:vP xs.length i with
 | none=>rw [e] at h;cases h
 | some j =>
  rw [e] at h
  obtain⟨h1,h2,h3,h4⟩:=yM e
  exact⟨j,h1,h,h2,h3,h4⟩
theorem dA {α:Type} {xs:List α} {j:Nat} {v:α} (h:xs[j]?=some v):qc xs (j:Int)=some v:=by
 have hj:j<xs.length:=(List.getElem?_eq_some_iff.mp h).1
 have e:vP xs.length (j:Int)=some j:=by
  unfold vP
  rw [if_pos (by omega),if_pos (by omega)];simp
 unfold qc;rw [e];exact h
theorem uZ {α:Type} (xs:List α) (v:α):qc (xs++[v]) (-1)=some v:=by
 have hl:(xs++[v]).length=xs.length+1:=by simp
 have e:vP (xs++[v]).length (-1)=some xs.length:=by
  unfold vP
  rw [hl,if_neg (by decide),if_pos (by omega)]
  congr 1
  omega
 unfold qc
 rw [e]
 show (xs++[v])[xs.length]?=some v
 simp
def yg (b:Expr):Prop:=∀ o i,subscripted b false o i=operate [o,i] (getItem o i)
def Dx (X:Cx) (r:R2):Prop :=
 ∀(value slice:Expr) (pins:List (Addr × Obj)) (s:Shared) (σ:St) (H:Hp) (x y:V) (v u:Value) (Q:VK),Inv X pins σ H s->RelV x v->RelV y u->r x y H Q ->
  subscripted slice false v u=operate [v,u] (getItem v u)->wpAny (model X.prog X.w) X.A (subscriptTail value slice v u) (EP X pins σ Q) X.xe s
def Ej (X:Cx) (id:String) (r:V->List V->Hp->VK->Prop):Prop :=
 ∀(pins:List (Addr × Obj)) (s:Shared) (σ:St) (H:Hp) (x:V) (xs:List V) (v:Value) (us:List Value) (Q:VK),Inv X pins σ H s->RelV x v->Vals xs us->r x xs H Q ->
  wpAny (model X.prog X.w) X.A (call (.builtin id) (v::us)) (EP X pins σ Q) X.xe s
section
variable {X:Cx} {a b:Expr} {ta tb:TE} {pos:Pos}
theorem aB {r:R2} (hr:Dx X r) (ha:PE X a ta) (hb:PE X b tb) (hs:yg b):PE X (.Subscript a b pos) (Di r ta tb):=by
 intro pins s σ H Q I h
 exact Subscript_ (A8 ha hb I h λv u s2 x y H2 I2 rx ry q=>hr a b pins s2 σ H2 x y v u Q I2 rx ry q (hs _ _))
def mW (K:PySem.W.Frag):R2:=λx y H Q=>∃ p xs i v,x=.ref p/\y=.int i/\aM K H p xs/\qc xs i=some v/\Q v H
def BK (K:PySem.W.Frag):R2:=λx y H Q=>∃ p xs i v,x=.ref p/\y=.int i/\bE K H p xs/\qc xs i=some v/\Q v H
theorem aJ:Dx X (mW X.K):=by
 intro value slice pins s σ H x y v u Q I rx ry h hs
 obtain⟨p,xs,i,z,rfl,rfl,hq,he,q⟩:=h
 cases rx
 obtain⟨t,rfl⟩:=ry
 obtain⟨its,r,pl,hz⟩:=I.list hq
 obtain⟨j,h1,h2,h3,h4,h5⟩:=rJ he
 obtain⟨w,ew,rw'⟩:=r.get h2
 have hl:=r.length
 have hn:=mH
 have fin:EP X pins σ Q w s:=⟨z,H,I,rw',q⟩
 by_cases h0:0<=i
 ·have hj:i.toNat=j:=by
   rw [seqIndex_of h0 h5] at h1
   exact Option.some.inj h1
  exact item_listR pl.isList h0 (by omega) (by rw [hj];simpa using ew) fin hs
 ·have hj:(i+(its.toArray.size:Int)).toNat=j:=by
   rw [seqIndex_neg (by omega) h4] at h1
   rw [List.size_toArray,<- hl]
   exact Option.some.inj h1
  exact subscriptTail_builtinR (x:=w) pl.isList.typeIs slot_list_getitem.lookup
   (wpAny_getItem_list_neg (Q:=λr s'=>r=w/\EP X pins σ Q r s') pl.isList (by omega) (by rw [List.size_toArray]<;>omega) (by omega) (by rw [hj];simpa using ew) ⟨rfl,fin⟩) hs
theorem aV:Dx X (BK X.K):=by
 intro value slice pins s σ H x y v u Q I rx ry h hs
 obtain⟨p,xs,i,z,rfl,rfl,hq,he,q⟩:=h
 cases rx
 obtain⟨t,rfl⟩:=ry
 obtain⟨its,r,pl,hz⟩:=I.tuple hq
 obtain⟨j,h1,h2,h3,h4,h5⟩:=rJ he
 obtain⟨w,ew,rw'⟩:=r.get h2
 have hl:=r.length
 have hn:=mH
 have fin:EP X pins σ Q w s:=⟨z,H,I,rw',q⟩
 exact subscriptTail_builtinR (x:=w) pl.typeIs slot_tuple_getitem.lookup
  (getItem_tuple (j:=j) (Q:=λr s'=>r=w/\EP X pins σ Q r s') pl (by omega) (by omega) (by rw [List.size_toArray,<- hl];exact h1) (by simpa using ew) ⟨rfl,fin⟩) hs
theorem Inv.lst {pins:List (Addr × Obj)} {σ:St} {H:Hp} {s:Shared} {p:Addr} {xs:List V} (I:Inv X pins σ H s) (h:H p=some (.lst xs)) :
  ∃(its:List Value) (n:Nat),Vals xs its/\s.heap.get? p=some { cls:=.type "list",data:=.seq its.toArray n }/\xs.length<=sizeLine:=by
 obtain⟨z,its,n,r,e⟩:=I.hok p _ h
 exact⟨its,n,r,e,z⟩
theorem m9 (lo hi:Option Int) (n:Nat):(sliceBounds lo hi none n).1=((HT.cK n 0 lo:Nat):Int)/\(sliceBounds lo hi none n).2.1=((HT.cK n n hi:Nat):Int)/\(sliceBounds lo hi none n).2.2=1:=by
 refine⟨?_,?_,rfl⟩
 ·cases lo with
  | none=>simp [sliceBounds,HT.cK]
  | some i =>
   simp only [sliceBounds,HT.cK,Option.getD_none,show (1:Int) > 0 by decide,if_true]
   by_cases h:i<0
   ·simp only [h,if_true]<;>omega
   ·simp only [h,if_false]<;>omega
 ·cases hi with
  | none=>simp [sliceBounds,HT.cK]
  | some i =>
   simp only [sliceBounds,HT.cK,Option.getD_none,show (1:Int) > 0 by decide,if_true]
   by_cases h:i<0
   ·simp only [h,if_true]<;>omega
   ·simp only [h,if_false]<;>omega
theorem kP (its:List Value) (lo hi:Option Int):slicePick its.toArray lo hi none=((its.drop (HT.cK its.length 0 lo)).take (HT.cK its.length its.length hi-HT.cK its.length 0 lo)).toArray:=by
 obtain⟨h1,h2,h3⟩:=m9 lo hi its.toArray.size
 unfold slicePick
 rw [h1,h2,h3]
 simp only [sliceRange_one,pick_run,List.size_toArray]<;>rfl
def D7 (K:PySem.W.Frag):V->Option Int->Option Int->Hp->VK->Prop:=λx lo hi H Q=>∃ a xs,x=.ref a/\aM K H a xs/\∀ p,H p=none->Q (.ref p) (upd H p (.lst (dP xs lo hi)))
theorem m8:DJ X (D7 X.K):=by
 intro pins s σ H x v vl vu lo hi sl Q I rx hs pl pu h
 obtain⟨a,xs,rfl,hx,q⟩:=h
 cases rx
 obtain⟨its,r,ht,hz⟩:=I.list hx
 have hlen:=r.length
 refine⟨"list",_,slot_list_getitem.lookup,ht.isList.typeIs,?_⟩
 refine wpAny_getItem_list_slice ht.isList hs pl pu .none (by simp) ?_ (by rw [List.size_toArray]<;>omega)
 rw [kP,<- hlen]
 refine⟨.ref s.heap.objs.size,_,I.laid (t':=s.toks) (o:=.lst (dP xs lo hi)) (λb ob q=>Heap.get?_push_of_some _ q) (Nat.le_refl _) ?_,rfl,q _ (I.hok.fresh (Nat.le_refl _))⟩
 exact⟨Nat.le_trans (fb xs lo hi) hz,_,0,(r.drop (HT.cK xs.length 0 lo)).take (HT.cK xs.length xs.length hi-HT.cK xs.length 0 lo),Heap.get?_push_size _ rfl⟩
def cW:V->Bool
 | .non=>true
 | .bl _=>true
 | .int _=>true
 | .str _=>true
 | _=>false
def mn:V->V->Bool
 | .non,.non=>true
 | .bl a,.bl b=>a==b
 | .bl a,.int b=>(if a then 1 else 0)==b
 | .int a,.bl b=>a==(if b then 1 else 0)
 | .int a,.int b=>a==b
 | .str a,.str b=>a==b
 | _,_=>false
theorem Be {A:Around} {s:Shared} {y x:V} {u v:Value} (ry:RelV y u) (rx:RelV x v) (fy:cW y=true) (fx:cW x=true):SeqAt.EqAt A s u v (mn y x):=by
 cases y with
 | non =>
  cases ry
  cases x with
  | non=>cases rx;exact SeqAt.EqAt.same _
  | bl b=>cases rx;exact SeqAt.EqAt.none_bool b
  | int b=>obtain⟨t,rfl⟩:=rx;exact SeqAt.EqAt.none_int b t
  | str b=>obtain⟨t,rfl⟩:=rx;exact SeqAt.EqAt.none_str b t
  | _=>exact absurd (show false=true from fx) Bool.false_ne_true
 | bl a =>
  cases ry
  cases x with
  | non=>cases rx;exact SeqAt.EqAt.bool_none a
  | bl b=>cases rx;exact SeqAt.EqAt.bool_bool a b
  | int b=>obtain⟨t,rfl⟩:=rx;exact SeqAt.EqAt.bool_int a b t
  | str b=>obtain⟨t,rfl⟩:=rx;exact SeqAt.EqAt.bool_str a b t
  | _=>exact absurd (show false=true from fx) Bool.false_ne_true
 | int a =>
  obtain⟨t',rfl⟩:=ry
  cases x with
  | non=>cases rx;exact SeqAt.EqAt.int_none a t'
  | bl b=>cases rx;exact SeqAt.EqAt.int_bool a t' b
  | int b=>obtain⟨t,rfl⟩:=rx;exact SeqAt.EqAt.int_int a t' b t
  | str b=>obtain⟨t,rfl⟩:=rx;exact SeqAt.EqAt.int_str a t' b t
  | _=>exact absurd (show false=true from fx) Bool.false_ne_true
 | str a =>
  obtain⟨t',rfl⟩:=ry
  cases x with
  | non=>cases rx;exact SeqAt.EqAt.str_none a t'
  | bl b=>cases rx;exact SeqAt.EqAt.str_bool a t' b
  | int b=>obtain⟨t,rfl⟩:=rx;exact SeqAt.EqAt.str_int a t' b t
  | str b=>obtain⟨t,rfl⟩:=rx;exact SeqAt.EqAt.str_str a t' b t
  | _=>exact absurd (show false=true from fx) Bool.false_ne_true
 | _=>exact absurd (show false=true from fy) Bool.false_ne_true
def ml (x:V) (u:Value):Bool:=match u with
 | .none=>mn .non x
 | .bool b=>mn (.bl b) x
 | .int i _=>mn (.int i) x
 | .str z _=>mn (.str z) x
 | _=>false
theorem qD {x y:V} {u:Value} (r:RelV y u) (f:cW y=true):ml x u=mn y x:=by
 cases y with
 | non=>cases r;rfl
 | bl b=>cases r;rfl
 | int i=>obtain⟨t,rfl⟩:=r;rfl
 | str z=>obtain⟨t,rfl⟩:=r;rfl
 | _=>exact absurd (show false=true from f) Bool.false_ne_true
theorem gK {x:V}:∀{xs:List V} {us:List Value},Vals xs us->xs.all cW=true->us.any (ml x)=xs.any λy=>mn y x
 | _,_,.nil,_=>rfl
 | y::xs,u::us,.cons r t,f=>by
  rw [List.all_cons,Bool.and_eq_true] at f
  rw [List.any_cons,List.any_cons,qD r f.1,gK t f.2]
theorem dX {A:Around} {s:Shared} {x:V} {v:Value} (rx:RelV x v) (fx:cW x=true):∀{xs:List V} {us:List Value},Vals xs us->xs.all cW=true->∀ u∈us,SeqAt.EqAt A s u v (ml x u)
 | _,_,.nil,_=>λu hu=>by cases hu
 | y::xs,u::us,.cons r t,f=>λu' hu=>by
  rw [List.all_cons,Bool.and_eq_true] at f
  rcases List.mem_cons.mp hu with rfl | hu
  ·rw [qD r f.1];exact Be r rx f.1 fx
  ·exact dX rx fx t f.2 u' hu
def Bi (x:V) (xs:List V):Bool:=xs.any λy=>mn y x
def D6 (K:PySem.W.Frag) (neg:Bool):R2:=λx y H Q=>∃ p xs,y=.ref p/\(aM K H p xs∨bE K H p xs)/\cW x=true/\xs.all cW=true/\Q (.bl (if neg then !Bi x xs else Bi x xs)) H
theorem uw:gI X (compareOp .In) (D6 X.K false):=by
 intro pins s σ H x y v u Q I rx ry h
 obtain⟨p,xs,rfl,hq,fx,fs,q⟩:=h
 cases ry
 rcases hq with hq | hq
 ·obtain⟨its,r,pl,hz⟩:=I.list hq
  refine SeqAt.in_listAt (ml x) pl.isList (λw hw=>dX rx fx r fs w (by simpa using hw)) ⟨.bl _,H,I,rfl,?_⟩
  rw [show its.toArray.any (ml x)=its.any (ml x) by simp,gK r fs]
  exact q
 ·obtain⟨its,r,pl,hz⟩:=I.tuple hq
  refine SeqAt.in_tupleAt (ml x) pl (λw hw=>dX rx fx r fs w (by simpa using hw)) ⟨.bl _,H,I,rfl,?_⟩
  rw [show its.toArray.any (ml x)=its.any (ml x) by simp,gK r fs]
  exact q
theorem gU:gI X (compareOp .NotIn) (D6 X.K true):=by
 intro pins s σ H x y v u Q I rx ry h
 obtain⟨p,xs,rfl,hq,fx,fs,q⟩:=h
 cases ry
 rcases hq with hq | hq
 ·obtain⟨its,r,pl,hz⟩:=I.list hq
  refine SeqAt.notIn_listAt (ml x) pl.isList (λw hw=>dX rx fx r fs w (by simpa using hw)) ⟨.bl _,H,I,rfl,?_⟩
  rw [show its.toArray.any (ml x)=its.any (ml x) by simp,gK r fs]
  exact q
 ·obtain⟨its,r,pl,hz⟩:=I.tuple hq
  refine SeqAt.notIn_tupleAt (ml x) pl (λw hw=>dX rx fx r fs w (by simpa using hw)) ⟨.bl _,H,I,rfl,?_⟩
  rw [show its.toArray.any (ml x)=its.any (ml x) by simp,gK r fs]
  exact q
theorem ma:cL X (.builtin "len") (λxs H Q=>∃ p ys,xs=[.ref p]/\(aM X.K H p ys∨bE X.K H p ys)/\Q (.int ys.length) H):=by
 intro pins s σ H xs us Q I r h
 obtain⟨p,ys,rfl,hq,q⟩:=h
 obtain⟨u,rfl,rx⟩:=vals1 r
 cases rx
 have hn:=mH
 rcases hq with hq | hq
 ·obtain⟨its,r',pl,hz⟩:=I.list hq
  have hlen:=r'.length
  exact Calls.call_len_list pl.isList (by simp only [List.size_toArray]<;>omega) ⟨.int ys.length,H,I.tok _,⟨s.toks+1,by rw [List.size_toArray,hlen]⟩,q⟩
 ·obtain⟨its,r',pl,hz⟩:=I.tuple hq
  have hlen:=r'.length
  exact len_tuple pl (by simp only [List.size_toArray]<;>omega) ⟨.int ys.length,H,I.tok _,⟨s.toks+1,by rw [List.size_toArray,hlen]⟩,q⟩
theorem me:cL X (.type "list") (λxs H Q=>∃ p ys,xs=[.ref p]/\(aM X.K H p ys∨bE X.K H p ys)/\∀ l,H l=none->Q (.ref l) (upd H l (.lst ys))):=by
 intro pins s σ H xs us Q I r h
 obtain⟨p,ys,rfl,hq,q⟩:=h
 obtain⟨u,rfl,rx⟩:=vals1 r
 cases rx
 have fin:∀(its:List Value),Vals ys its->ys.length<=sizeLine->∀(h':Heap) (c':Nat),(∀ b o',s.heap.get? b=some o'->h'.get? b=some o') ->
   h'.get? s.heap.objs.size=some { cls:=.type "list",dict:=none,data:=.seq its.toArray c',slots:=#[] }->EP X pins σ Q (.ref s.heap.objs.size) { s with heap:=h' }:=λits r' hz h' c' kp e =>
  ⟨.ref s.heap.objs.size,_,I.laid (t':=s.toks) kp (Nat.le_refl _) (show aZ X.prog X.w _ h' _ (.lst ys) from ⟨hz,its,c',r',e⟩),rfl,q _ (I.hok.fresh (Nat.le_refl _))⟩
 rcases hq with hq | hq
 ·obtain⟨its,r',pl,hz⟩:=I.list hq
  have hlen:=r'.length
  obtain⟨o,ho,hc,n,hd⟩:=pl.isList
  exact call_list_seq p (.inl rfl) ho hc hd (λh' c' kp e=>fin its r' hz h' c' kp e) (by simp only [List.size_toArray]<;>omega)
 ·obtain⟨its,r',pl,hz⟩:=I.tuple hq
  have hlen:=r'.length
  obtain⟨o,ho,hc,n,hd⟩:=pl
  exact call_list_seq p (.inr rfl) ho hc hd (λh' c' kp e=>fin its r' hz h' c' kp e) (by simp only [List.size_toArray]<;>omega)
theorem bR:cL X (.type "tuple") (λxs H Q=>∃ p ys,xs=[.ref p]/\((aM X.K H p ys/\∀ l,H l=none->Q (.ref l) (upd H l (.tup ys)))∨(bE X.K H p ys/\Q (.ref p) H))):=by
 intro pins s σ H xs us Q I r h
 obtain⟨p,ys,rfl,h⟩:=h
 obtain⟨u,rfl,rx⟩:=vals1 r
 cases rx
 rcases h with⟨hq,q⟩|⟨hq,q⟩
 ·obtain⟨its,r',pl,hz⟩:=I.list hq
  have hlen:=r'.length
  refine call_tuple_list pl.isList (λh' kp=>?_) (by simp only [List.size_toArray]<;>omega)
  have I1:Inv X pins σ H { s with heap:=h' }:=I.kept (t':=s.toks) kp
  have I2:Inv X pins σ (upd H h'.objs.size (.tup ys)) { s with heap:=h'.push { cls:=.type "tuple",data:=.seq its.toArray } } :=
   I1.laid (t':=s.toks) (λb o e=>Heap.get?_push_of_some _ e) (Nat.le_refl _) (show aZ X.prog X.w _ _ _ (.tup ys) from ⟨hz,its,r',IsTup.new _ _⟩)
  exact⟨.ref h'.objs.size,_,I2,rfl,q _ (I1.hok.fresh (Nat.le_refl _))⟩
 ·obtain⟨its,r',pl,hz⟩:=I.tuple hq
  exact call_tuple_same pl ⟨.ref p,H,I,rfl,q⟩
def Ee (K:PySem.W.Frag) (T:String) (x:V) (H:Hp):Prop:=match x with
 | .str _=>T = "str"
 | .int _=>T = "int"
 | .ref p=>(T = "list"/\∃ xs,aM K H p xs)∨(T = "tuple"/\∃ o,K.lookup p=some o/\o.cls=.type "tuple"/\o.dict=none) ∨
   (T = "dict"/\((∃ kvs,H p=some (.dK kvs))∨∃ kvs,H p=some (.dT kvs)))∨(T = "set"/\∃ S n,H p=some (.set S n))
 | _=>False
theorem B0 {pins:List (Addr × Obj)} {σ:St} {H:Hp} {s:Shared} {T:String} {x:V} {v:Value} (I:Inv X pins σ H s) (r:RelV x v) (ty:Ee X.K T x H) :
  s.TypeIs v T/\∀ a,v=.ref a->∃ ob,s.heap.get? a=some ob/\ob.dict=none:=by
 cases x with
 | str z =>
  obtain⟨t,rfl⟩:=r
  cases (show T = "str" from ty)
  exact⟨typeIs_str s z t,λ_ e=>nomatch e⟩
 | int i =>
  obtain⟨t,rfl⟩:=r
  cases (show T = "int" from ty)
  exact⟨typeIs_int s i t,λ_ e=>nomatch e⟩
 | ref p =>
  cases r
  rcases ty with⟨rfl,xs,hq⟩|⟨rfl,o,hk,hc,hd⟩|⟨rfl,hk⟩|⟨rfl,S,n,hk⟩
  ·obtain⟨its,_,pl,_⟩:=I.list hq
   refine⟨pl.isList.typeIs,λa e=>?_⟩
   cases e
   obtain⟨o,n,e,c,hd,_⟩:=pl
   exact⟨o,e,hd⟩
  ·refine⟨⟨o,I.d6 p o hk,hc⟩,λa e=>?_⟩
   cases e
   exact⟨o,I.d6 _ o hk,hd⟩
  ·have z:∃ o,s.heap.get? p=some o/\o.ExactDict:=by
    rcases hk with⟨kvs,hk⟩|⟨kvs,hk⟩
    ·obtain⟨_,_,_,_,o,_,_,e,ex,_⟩:=I.hok p _ hk
     exact⟨o,e,ex⟩
    ·obtain⟨_,_,_,_,o,_,_,e,ex,_⟩:=I.hok p _ hk
     exact⟨o,e,ex⟩
   obtain⟨o,e,ex⟩:=z
   refine⟨⟨o,e,ex.1⟩,λa e2=>?_⟩
   cases e2
   exact⟨o,e,ex.2.1⟩
  ·obtain⟨o,_,_,_,e,ex,_⟩:=I.hok p _ hk
   refine⟨⟨o,e,ex.1⟩,λa e2=>?_⟩
   cases e2
   exact⟨o,e,ex.2.1⟩
 | _=>exact False.elim ty
def Ea (K:PySem.W.Frag) (T:String) (r:V->List V->Hp->VK->Prop) (to:TE):TE:=λσ H Q=>to σ H λx H1=>Ee K T x H1/\r x [] H1 Q
def Er (K:PySem.W.Frag) (T:String) (r:V->List V->Hp->VK->Prop) (to:TE) (t:TA):TE:=λσ H Q=>to σ H λx H1=>Ee K T x H1/\t σ H1 λxs H2=>r x xs H2 Q
variable {o e:Expr} {es:List Expr} {to:TE} {t:TA} {name:Str} {apos cpos:Pos} {T id:String} {r:V->List V->Hp->VK->Prop}
theorem oU (pa:PlainAttrs T) (slot:Slot T name id) (hty:typeOf (.builtin id)=pure (.type "method_descriptor")) (hm:Ej X id r) (ho:PE X o to) (ha:PA X (e::es) t)
  (hbase:attributeBase o name X.env (eval o X.env)=eval o X.env:=by rfl)
  (hfew:((backTo cpos (starEach (e::es) X.env)).all (λx=>!x.1) && (backToKw cpos (keywordEach [] X.env)).all (λx=>x.1.isSome)
   && decide ((e::es).length+([]:List Keyword).length+(if ([]:List Keyword).isEmpty then 0 else 1)<30))=true:=by rfl)
  (hline:(apos.endLine==cpos.line)=true:=by rfl) (hs:starEach (e::es) X.env=(false,eval e X.env)::starEach es X.env:=by rfl) (hplain:(backTo cpos (starEach es X.env)).any (·.1)=false:=by rfl) :
  PE X (.Call (.Attribute o name apos) (e::es) [] cpos) (Er X.K T r to t):=by
 intro pins s σ H Q I h
 refine wpAny_Call_method_late hbase hfew hline rfl (aQ (ho pins s σ H _ I h) λv s1 ⟨x,H1,I1,r1,ty,q1⟩=>?_)
 obtain⟨h1,h2⟩:=B0 I1 r1 ty
 refine⟨T,id,pa,slot,hty,h1,h2,?_⟩
 have hA:=ha cpos pins s1 σ H1 _ I1 q1
 rw [hs] at hA ⊢
 refine Calls.callWith_builtin (by show (false || (backTo cpos (starEach es X.env)).any (·.1))=false;rw [hplain]<;>rfl) (Calls.evalArgs_plain ?_)
 exact aQ hA λus s2 ⟨vs,H2,I2,r2,q2⟩=>hm pins s2 σ H2 x vs v us Q I2 r1 r2 q2
/- xs.append(e),list.index on a module's tuple .. are Ej facts of 06m -/
end
def Ei (X:Cx) (id:String) (r:V->List V->Hp->VK->Prop):Prop :=
 ∀(pins:List (Addr × Obj)) (s:Shared) (σ:St) (H:Hp) (x:V) (xs:List V) (v:Value) (us:List Value) (Q:VK),Inv X pins σ H s->RelV x v->Vals xs us->r x xs H Q ->
  wpAny (model X.prog X.w) X.A (call (.builtin id) (v::us)) (EP X pins σ Q) X.xe s
theorem Vals.one:∀{x:V} {us:List Value},Vals [x] us->∃ u,us=[u]/\RelV x u
 | _,_,.cons r .nil=>⟨_,rfl,r⟩
theorem Vals.two:∀{x y:V} {us:List Value},Vals [x,y] us->∃ u v,us=[u,v]/\RelV x u/\RelV y v
 | _,_,_,.cons r (.cons q .nil)=>⟨_,_,rfl,r,q⟩
theorem Vals.zero:∀{us:List Value},Vals [] us->us=[]
 | _,.nil=>rfl
section
variable {X:Cx} {pins:List (Addr × Obj)} {σ:St} {H:Hp} {s:Shared} {l b:Addr} {xs ys zs:List V}
theorem Inv.D0 {its its':List Value} {n:Nat} {f:Array Value->Array Value} {t':Nat} (I:Inv X pins σ H s) (hH:H l=some (.lst xs))
  (e:s.heap.get? l=some { cls:=.type "list",data:=.seq its.toArray n }) (hf:f its.toArray=its'.toArray) (hv:Vals ys its') (hz:ys.length<=sizeLine) :
  Inv X pins σ (upd H l (.lst ys)) { s with heap:=s.heap.update l (Obj.mapSeq f),toks:=t' }:=by
 have q:=PySem.IsL.update e f
 rw [hf] at q
 refine I.write (x:=l) (e:=l) (by rw [hH];exact trivial) (.inl rfl) (λb' u hb hu=>(Heap.get?_update_other s.heap (Obj.mapSeq f) (Ne.symm hb)).trans hu) ⟨_,q⟩ ?_
 exact⟨hz,its',_,hv,q⟩
theorem Inv.DZ {its:List Value} {t':Nat} (I:Inv X pins σ H s) (hv:Vals ys its) (hz:ys.length<=sizeLine) :
  Inv X pins σ (upd H s.heap.objs.size (.lst ys)) { s with heap:=s.heap.push { cls:=.type "list",data:=.seq its.toArray },toks:=t' } :=
 I.laid (λ_ _ q=>Heap.get?_push_of_some _ q) (Nat.le_refl _) ⟨hz,its,0,hv,Heap.get?_push_size _ rfl⟩
theorem Inv.fresh (I:Inv X pins σ H s):H s.heap.objs.size=none:=I.hok.fresh (Nat.le_refl _)
theorem Inv.yR (I:Inv X pins σ H s) (hH:H l=some (.lst xs)):xs.length<=sizeLine/\∃(its:List Value) (n:Nat),Vals xs its/\xs.length=its.length/\s.heap.get? l=some { cls:=.type "list",data:=.seq its.toArray n }:=by
 obtain⟨z,its,n,r,e⟩:=I.hok l _ hH
 exact⟨z,its,n,r,r.length,e⟩
end
section
variable {X:Cx}
def zI:V->List V->Hp->VK->Prop:=λx vs H Q=>∃ l xs y,x=.ref l/\vs=[y]/\H l=some (.lst xs)/\xs.length<sizeLine/\Q .non (upd H l (.lst (xs++[y])))
theorem fQ:Ei X "list.append" zI:=by
 intro pins s σ H x vs v us Q I rx rv h
 obtain⟨l,xs,y,rfl,rfl,hH,hz,q⟩:=h
 cases rx
 obtain⟨u,rfl,ru⟩:=rv.one
 obtain⟨z,its,n,r,hl,e⟩:=I.yR hH
 refine call_meets F.slot_list_append ⟨_,e,rfl⟩ F.entry_list_append (F.args_list_append_2 _ _) (PySem.list_append l its.toArray n u (by rw [List.size_toArray];omega)) ⟨e,?_⟩
 refine⟨.non,_,I.D0 (its':=its++[u]) hH e (by simp) (r.append (.cons ru .nil)) ?_,rfl,q⟩
 rw [List.length_append,List.length_singleton]
 omega
def D5:R2:=λx y H Q=>∃ l b xs zs,x=.ref l/\y=.ref b/\H l=some (.lst xs)/\H b=some (.lst zs)/\xs.length+zs.length<=sizeLine/\∀ p,H p=none->Q (.ref p) (upd H p (.lst (xs++zs)))
theorem wC:gI X (binaryOp .Add) D5:=by
 intro pins s σ H x y v u Q I rx ry h
 obtain⟨l,b,xs,zs,rfl,rfl,hH,hB,hz,q⟩:=h
 cases rx
 cases ry
 obtain⟨z,its,n,r,hl,e⟩:=I.yR hH
 obtain⟨z2,its2,n2,r2,hl2,e2⟩:=I.yR hB
 refine PySem.P.add_list e e2 ?_ (by rw [List.size_toArray,List.size_toArray];omega)
 have ea:its.toArray++its2.toArray=(its++its2).toArray:=by simp
 rw [ea]
 exact⟨.ref _,_,I.DZ (t':=s.toks) (r.append r2) (by rw [List.length_append];omega),rfl,q _ I.fresh⟩
end
section
variable {prog:Program} {w:World} {A:Around} {E:Value->Shared->Prop} {s:Shared}
end
section
variable {X:Cx}
end
end L2
namespace Att
open PySem PySem.W PySem.Calls PyProof.Rows
theorem ju {P:Params} {h:Heap}:∀(ns:List Int) (vs:List Value),WellAll P h vs (ns.map WData.int)->IntsAre vs ns:=by
 intro ns
 induction ns with
 | nil =>
  intro vs w
  rw [List.map_nil] at w
  cases w
  exact .nil
 | cons n ns ih =>
  intro vs w
  rw [List.map_cons] at w
  cases w with
  | cons a b =>
   cases a
   exact .cons _ _ (ih _ b)
theorem uI {l:OpenLaw} {n:Nat} (hn:l.most=some n) {P:Params} {h:Heap} {args:List WData} {vals:List Value}
  (hpre:l.row.toRowW.claim.pre args=true) (hwl:WellAll P h vals args) :
  ∃ a vs ns,vals=[Value.ref a]/\args=[WData.list (ns.map WData.int)]/\h.get? a=some { cls:=.type "list",data:=.seq vs.toArray }/\IntsAre vs ns/\ns.length<=n:=by
 have hsh:WShape.hasAll [] args [.list .int]=true:=(pre_splitW hpre).1
 have hc:l.pre.holds [] { args:=args }=true:=(pre_splitW hpre).2
 obtain⟨d,r,rfl,h1,h2⟩:=hasAllW_cons hsh
 obtain rfl:=hasAllW_nil h2
 obtain⟨xs,rfl,h3⟩:=hasW_list h1
 obtain⟨ns,rfl⟩:=items_int h3
 have hlen:ns.length<=n:=by
  unfold OpenLaw.pre at hc
  have h4:(WTm.not (.lt (.lit (.int (n:Int))) (.len (.arg 0)))).holds [] { args:=[.list (ns.map .int)] }=true:=by
   have h4:=(holds_andW hc).1
   rw [hn] at h4
   exact h4
  have h5:=condW_of h4 (w_not (w_lt w_lit (w_len_list (w_arg rfl))))
  rw [List.length_map] at h5
  refine Nat.le_of_not_lt λq=>?_
  have q':(n:Int)<((ns.length:Nat):Int):=by omega
  first
   | (rw [decide_eq_true q'] at h5;exact absurd h5 (by decide))
   | (simp at h5;omega)
 cases hwl with
 | cons w1 w2 =>
  cases w2
  cases w1 with
  | list ho hall=>exact⟨_,_,ns,rfl,rfl,ho,ju ns _ hall,hlen⟩
theorem uE (l:OpenLaw) (args:List WData):l.row.toRowW.claim.post args (.bool true) args=true :=
 postW_of (r:=l.row.toRowW) (X:=(true==true))
  (show WShape.has [] (.bool true) .bool=true by first | rfl | decide | simp [WShape.has,WShape.arms,WShape.armsAll])
  (show (WTm.eq .res (.lit (.bool true))).value [] { args:=args,res:=some (.bool true),after:=args }=some (.bool (true==true)) from w_eq_bool (w_res rfl) w_lit) rfl
theorem nF {l:OpenLaw} {n:Nat} {q:Program} {loose:List Str} {XP:(Str->Option Value)->Heap->Prop} {YP:World->Heap->Prop} {d:DefRec}
  (hn:l.most=some n) (hdf:d.params.defaults=[])
  (call:∀(w:World) (s₀ s₁:Shared) (mg mb:Str->Option Value) (fa:Addr) (o:Obj) (pm cd doc:Value) (a:Addr) (vs:List Value) (ns:List Int),
   Ground q loose [] XP w s₀ mg mb s₁.heap->YP w s₁.heap ->
   s₁.heap.get? fa=some o->o.data=.func (docDef d.name d.params d.body d.scope pm cd doc)->s₁.heap.CodeRec cd d.name->mg d.name=some (.ref fa) ->
   s₁.heap.get? a=some { cls:=.type "list",data:=.seq vs.toArray }->IntsAre vs ns->ns.length<=n->s₁.gens=#[] ->
   codeAny (model l.prog w) callerA (.call (.ref fa) ⟨[.ref a],[]⟩) (λr s'=>r=.ok (.ret (.bool true))/\OldK s₁.heap s'.heap/\s'.os=s₁.os/\AllBare s'.gens) s₁) :
  WalkO q loose XP YP l.row.toRowW d [] (λf vs=>PySem.call f vs):=by
 intro w s₀ s₁ mg mb G Y fa o pm cd doc dV kV ho hd hcd hD hmg hg args vals as hpre hlay hrd hwl hlo
 obtain rfl:dV=.none:=Dflts.none hD hdf
 obtain rfl:kV=.none:=Dflts.noKw hD
 obtain⟨a,vs,ns,rfl,rfl,hobj,hints,hlen⟩:=uI hn hpre hwl
 refine enter_call (codeAny_mono (call w s₀ s₁ mg mb fa o pm cd doc a vs ns G Y ho (fd_plain hd) hcd hmg hobj hints hlen hg) λr s' hq=>?_)
 obtain⟨rfl,h2,h3,h4⟩:=hq
 exact⟨.inl ⟨.bool true,.bool true,[],rfl,λ_=>rfl,.bool true,uE l _,λ_=>⟨List.Pairwise.nil,λ_ hm=>(nomatch hm)⟩⟩,h2,h3,h4⟩
section
variable {prog:Program} {w:World} {A:Around} {E:Value->Shared->Prop} {s:Shared} {K:Frag}
end
end Att
namespace L2
open PySem PySem.Spec PyProof.Rows
theorem l6:∀{vs:List Value} {ns:List Int},IntsAre vs ns->Vals (ns.map V.int) vs
 | _,_,.nil=>.nil
 | _,_,.cons n t h=>.cons ⟨t,rfl⟩ (l6 h)
def yf (H:Hp):Prop:=∀ b,H b=none∨∃ o xs,H b=some (.frz o (.lst xs))
theorem vR {P:Program} {w:World} {K:PySem.W.Frag} {mg mb:Str->Option Value} {CX:jq} {k:Nat} {fa a:Addr} {fd:FuncData} {x:Str} {sp:Sp} {s₁:Shared} {vs:List Value} {ns:List Int}
  (KX:K.In s₁.heap) (hns:s₁.heap.Ns mainGlobals mg) (hb:s₁.heap.Ns builtinsNs mb) (hbb:∀ x:Str,x ≠ "__name__"->mb x=bootBuiltins x) (hlim:s₁.heap.NoLimit) (hg:s₁.gens=#[])
  (ha:s₁.heap.get? a=some { cls:=.type "list",data:=.seq vs.toArray }) (hi:IntsAre vs ns) (hl:ns.length<=sizeLine) (hr:bF k callerA)
  (F:∀ base:Heap,K.In base->base.Ns mainGlobals mg->cq P w K mg base CX k fa fd [x] sp) (hbind:∀(s:Shared) (u:Value),BindsTo s fd ⟨[u],[]⟩ [(x,u)])
  (hsp:∀ H:Hp,yf H->aM K H a (ns.map V.int)->sp [.ref a] H (λv _=>v=.bl true) λ_ _ _=>False)
  (hCX:∀ H e s',CX [] H s₁ (λ_ _ _=>False) e s'->False) :
  codeAny (model P w) callerA (.call (.ref fa) ⟨[.ref a],[]⟩) (λr s'=>r=.ok (.ret (.bool true))/\OldK s₁.heap s'.heap/\s'.os=s₁.os/\AllBare s'.gens) s₁:=by
 have rv:=l6 hi
 have lenV:=hi.length
 -- from an abstract heap in which nothing but the script may be tracked
 have core:∀ H:Hp,yf H->aM K H a (ns.map V.int)->eX P w H s₁.heap->(∀ b,H b≠none->b=a)->(H a≠none->K.lookup a=none) ->
   codeAny (model P w) callerA (.call (.ref fa) ⟨[.ref a],[]⟩) (λr s'=>r=.ok (.ret (.bool true))/\OldK s₁.heap s'.heap/\s'.os=s₁.os/\AllBare s'.gens) s₁:=by
  intro H hO hS hok hA hK
  have base_of:∀{b:Addr} {o:Obj},s₁.heap.get? b=some o->H b=none->(mD s₁.heap H).get? b=some o:=λe n=>vL e n
  have noA:∀{b:Addr} {o:Obj} {es:Array DictEntry} {ep:Nat},s₁.heap.get? b=some o->o.data=.dict es ep->H b=none:=λ{b o es ep} e d=>by
   cases q:H b with
   | none=>rfl
   | some u =>
    have e':b=a:=hA b (by rw [q];simp)
    subst e'
    rw [ha] at e;cases e
    have d':Data.seq vs.toArray _=Data.dict es ep:=d
    cases d'
  have nsK:∀{b:Addr} {m:Str->Option Value},s₁.heap.Ns b m->(mD s₁.heap H).Ns b m:=λ{b m} ⟨o,es,ep,e,d,r⟩=>⟨o,es,ep,base_of e (noA e d),d,r⟩
  have hKb:K.In (mD s₁.heap H):=λb o e=>base_of (KX b o e) (by
   cases q:H b with
   | none=>rfl
   | some u =>
    have e':b=a:=hA b (by rw [q];simp)
    subst e'
    rw [hK (by rw [q];simp)] at e;cases e)
  have hM:Mod K mg (mD s₁.heap H):=⟨hKb,nsK hns,⟨mb,nsK hb,hbb⟩,let ⟨mc,h1,h2⟩:=hlim;⟨mc,nsK h1,h2⟩⟩
  have e0:qg P w K mg (mD s₁.heap H) callerA [] s₁ H:=⟨rfl,hM,λb o e=>yW e,Nat.le_of_eq (tU _ _),trivial,λb hb=>absurd (show b∈([]:List Addr) from hb) (by simp),hok,.of_eq hg⟩
  refine codeAny_mono ((F _ hKb (nsK hns)).run callerA [] s₁ H ⟨[.ref a],[]⟩ [.ref a] [.ref a] _ _ hr e0 (hbind s₁ (.ref a)) (.cons rfl .nil) (hsp H hO hS)) λr s' h=>?_
  cases r with
  | error e=>exact (hCX H e s' h).elim
  | ok fl =>
   cases fl with
   | next=>exact False.elim h
   | brk=>exact False.elim h
   | cont=>exact False.elim h
   | ret u =>
    obtain⟨v,H',os,bare,un,hok',r',q⟩:=h
    have q':v=.bl true:=q
    subst q'
    obtain rfl:u=Value.bool true:=r'
    refine⟨rfl,OldK.of_keep λb o e=>?_,os,bare⟩
    cases q:H b with
    | none=>exact un.keep b o e q (by intro z;exact absurd (show b∈([]:List Addr) from z) (by simp)) (by simp)
    | some u =>
     rcases hO b with z | ⟨ob,xs,z⟩
     ·rw [q] at z;cases z
     ·have z2:=un.frzs b ob _ z
      obtain⟨e1,_⟩:=hok b _ z
      obtain⟨e2,_⟩:=hok' b _ z2
      rw [e] at e1;cases e1
      exact e2
 cases hk:K.lookup a with
 | some o =>
  -- the script is one of the module's own objects
  have e:=KX a o hk
  rw [ha] at e
  cases e
  refine core (λ_=>none) (λ_=>.inl rfl) (.inr ⟨_,vs.toArray,_,hk,rfl,rfl,rfl,by rw [List.size_toArray,lenV];exact hl,by simpa using rv⟩) (λb u z=>by have z':(none:Option HO)=some u:=z;cases z') (λb z=>absurd rfl z) λz=>absurd rfl z
 | none =>
  refine core (λb=>if b=a then some (.frz { cls:=.type "list",data:=.seq vs.toArray } (.lst (ns.map V.int))) else none) (λb=>?_) (.inl (.inr ⟨{ cls:=.type "list",data:=.seq vs.toArray },if_pos rfl⟩)) (λb u z=>?_) (λb z=>?_) λ_=>hk
  ·by_cases hb:b=a
   ·exact .inr ⟨_,_,if_pos hb⟩
   ·exact .inl (if_neg hb)
  ·by_cases hb:b=a
   ·have z':=(if_pos hb).symm.trans z
    cases z'
    subst hb
    exact⟨ha,by rw [List.length_map];exact hl,vs,_,rv,ha⟩
   ·have z':=(if_neg hb).symm.trans z
    cases z'
  ·by_cases hb:b=a
   ·exact hb
   ·exact absurd (if_neg hb) z
abbrev dz {K:PySem.W.Frag} {h:Heap} (_:K.In h):PySem.W.Frag:=K
theorem sS {l:PySem.W.OpenLaw} {n k:Nat} {q:Program} {loose:List Str} {XP:(Str->Option Value)->Heap->Prop} {YP:World->Heap->Prop} {d:DefRec} {K:Params->PySem.W.Frag} {CX:World->jq} {sp:World->Sp} {x:Str}
  (hn:l.most=some n) (hn2:n<=sizeLine) (hdf:d.params.defaults=[]) (hr:bF k callerA)
  (hY:∀(w:World) (h:Heap),YP w h->(K w.params).In h)
  (F:∀(w:World) (mg:Str->Option Value) (fa:Addr) (h:Heap),(K w.params).In h->h.Ns mainGlobals mg->mg d.name=some (.ref fa) ->
   ∃ fd:FuncData,(∀(s:Shared) (u:Value),BindsTo s fd ⟨[u],[]⟩ [(x,u)]) /\
    ∀ base:Heap,(K w.params).In base->base.Ns mainGlobals mg->cq l.prog w (K w.params) mg base (CX w) k fa fd [x] (sp w))
  (hsp:∀(w:World) (H:Hp) (a:Addr) (ns:List Int),ns.length<=n->yf H->aM (K w.params) H a (ns.map V.int)->sp w [.ref a] H (λv _=>v=.bl true) λ_ _ _=>False)
  (hCX:∀(w:World) (H:Hp) (s:Shared) (e:Value) (s':Shared),CX w [] H s (λ_ _ _=>False) e s'->False) :
  PySem.W.WalkO q loose XP YP l.row.toRowW d [] (λf vs=>PySem.call f vs):=by
 refine Att.nF hn hdf λw s₀ s₁ mg mb fa o pm cd doc a vs ns G Y ho hd hcd hmg hobj hints hlen hg=>?_
 have KX:=hY w _ Y
 obtain⟨fd,hb,hF⟩:=F w mg fa _ KX G.T.g hmg
 exact vR KX G.T.g G.T.b G.T.builtins G.T.nolimit hg hobj hints (Nat.le_trans hlen hn2) hr hF hb (λH hO hS=>hsp w H a ns hlen hO hS) λH e s'=>hCX w H s₁ e s'
theorem x4 {l:PySem.W.OpenLaw} {n k:Nat} {q:Program} {loose:List Str} {XP:(Str->Option Value)->Heap->Prop} {YP:World->Heap->Prop} {d:DefRec} {K:Params->PySem.W.Frag} {CX:jq} {sp:PySem.W.Frag->Sp} {x:Str}
  (hn:l.most=some n) (hn2:n<=sizeLine) (hdf:d.params.defaults=[]) (hr:bF k callerA)
  (hY:∀(w:World) (h:Heap),YP w h->(K w.params).In h)
  (F:∀(w:World) (mg:Str->Option Value) (fa:Addr) (h:Heap),(K w.params).In h->h.Ns mainGlobals mg->mg d.name=some (.ref fa) ->
   ∃ fd:FuncData,(∀(s:Shared) (u:Value),BindsTo s fd ⟨[u],[]⟩ [(x,u)]) /\
    ∀ base:Heap,(K w.params).In base->base.Ns mainGlobals mg->cq l.prog w (K w.params) mg base CX k fa fd [x] (sp (K w.params)))
  (hsp:∀(K:PySem.W.Frag) (H:Hp) (a:Addr) (ns:List Int),ns.length<=n->yf H->aM K H a (ns.map V.int)->sp K [.ref a] H (λv _=>v=.bl true) λ_ _ _=>False)
  (hCX:∀(H:Hp) (s:Shared) (e:Value) (s':Shared),CX [] H s (λ_ _ _=>False) e s'->False) :
  PySem.W.WalkO q loose XP YP l.row.toRowW d [] (λf vs=>PySem.call f vs) :=
 sS (K:=K) (CX:=λ_=>CX) (sp:=λw=>sp (K w.params)) hn hn2 hdf hr hY F (λw H a ns h1 h2 h3=>hsp (K w.params) H a ns h1 h2 h3) λ_ H s e s'=>hCX H s e s'
end L2
/- THE LAST THEOREM (shape;LID,My.* are yours):
   My.Adr: a structure of the addresses that your layer names (classes,functions);My.Txt K t: a structure (Prop) of the equations over K;
   My.txt_mk:{K} {implicit addresses ..} (e1:nsIn K mainGlobals "law"=some (some (.ref f))) (e2:K.lookup f=some ⟨oc,od,.func (fnOf "law" "law" params body scope dV kV doc pm an cdv ct),sl⟩) (e3:codeIn K cdv "law"=true) ..:∃ t,My.Txt K t
set_option maxRecDepth 100000 in
set_option maxHeartbeats 0 in
theorem PySem.Challenge.cw_LID_holds : PySem.Challenge.rw_LID.Holds := by
 w_on;o_law;k_head;(case hw=>w_witness2)
 k_fill
 refine L2.sS (l:=PySem.Challenge.rw_LID) (n:=63) (k:=40) (x := "script") (CX:=λw=>..) (sp:=λ_=>My.sp_law) rfl (by decide) rfl ⟨rfl,by decide,by decide⟩ (λw h Y=>PySem.W.kIn_of Y) ?F ?S ?C
 case F =>
  intro w mg fa h KX G hmg
  have T:∃ t,My.Txt (L2.dz KX) t:=by
   dsimp only [L2.dz]                          -- K must stand as «<heap const> w.params» for k_is
   refine' My.txt_mk ?e1 ?e2 ?e3 ..
   (case e1=>PySem.W.k_is)                    -- in the order: a name -> its address -> its object -> its parts
   (case e2=>PySem.W.k_is)
   ..
  obtain⟨t,T⟩:=T
  have e0:=hmg.symm.trans (PySem.W.mg_of KX G T.law)
  cases e0                                       -- fa is the law's own address
  exact⟨_,λs u=>.of_eq rfl,λbase kb nb=>My.law_fn T kb nb⟩     -- if «.of_eq rfl» comes too early: refine' ⟨_,?b,λbase kb nb=>My.law_fn T kb nb⟩;exact λs u=>.of_eq rfl
 case S=>exact λw H a ns hl hO hS=>..
 case C=>exact ..
(the tactic k_is has no namespace: write k_is) -/
namespace L2
open PySem PySem.Spec PyProof.Rows
def inClass (s:Stmt) (j:Nat):Stmt:=match s with
 | .ClassDef _ _ _ body _ _ _ _ _ _ _=>body.getD j (.Pass ⟨0,0,0,0⟩)
 | _=>.Pass ⟨0,0,0,0⟩
def aR (s:Stmt):Arguments:=match s with
 | .FunctionDef _ a _ _ _ _ _ _ _ _=>a
 | _=>{ posonlyargs:=[],args:=[],vararg:=none,kwonlyargs:=[],kw_defaults:=[],kwarg:=none,defaults:=[] }
def aH (s:Stmt):List Stmt:=match s with
 | .FunctionDef _ _ b _ _ _ _ _ _ _=>b
 | _=>[]
def aj (s:Stmt):Scope:=match s with
 | .FunctionDef _ _ _ _ _ _ sc _ _ _=>sc
 | _=>{ kind:=.function,names:=[],isGenerator:=false,isCoroutine:=false }
abbrev aO:jq:=λ_ _ _ _ _ _=>False
abbrev E0:XK:=λ_ _ _=>False
theorem aC {X:Cx}:Passes aO X E0:=λ_ _ _ _ _ _ _ h=>h.elim
structure uS (K:PySem.W.Frag) (x qual:Str) (st:Stmt) (f:Addr) (fd:FuncData):Prop where
 ex:∃(oc:Value) (od:Option Addr) (kV doc pm:Value) (an:Option Addr) (cdv ct:Value) (osl:Array (Option Value)),
  fd=PySem.W.fnOf x qual (aR st) (aH st) (aj st) .none kV doc pm an cdv ct/\K.lookup f=some ⟨oc,od,.func fd,osl⟩/\PySem.W.codeIn K cdv qual=true
 kp:PySem.W.keepIn K (.ref f)=true
section
variable {P:Program} {w:World} {K:PySem.W.Frag} {mg:Str->Option Value} {base:Heap}
theorem uS.ok {x qual:Str} {st:Stmt} {f:Addr} {fd:FuncData} {N ps:List Str} {k:Nat} {sp:Sp} (F:uS K x qual st f fd) (S:av N ps (aj st)) (len:∀ vs H Q E,sp vs H Q E->vs.length=ps.length)
  (hbody:∀(cdv:Value) (A:Around) (outer:List Env) (s:Shared) (H:Hp) (vs:List V) (Q:VK) (E:XK),bF k (A.deeper (envOfC qual (aj st) s.heap.objs.size f cdv))->sp vs H Q E ->
   ∃ t,iD (cQ aO P w K mg base N qual (aj st) f cdv A outer s H E).lL (aH st) t/\t { nx:=λ_ H'=>Q .non H',rt:=Q } (start N vs) H):cq P w K mg base aO (k+1) f fd ps sp:=by
 obtain⟨oc,od,kV,doc,pm,an,cdv,ct,osl,rfl,lk,hcd⟩:=F.ex
 refine vE lk hcd S len λA outer s H vs Q E hr hsp=>?_
 obtain⟨t,h,q⟩:=hbody cdv A outer s H vs Q E hr hsp
 exact⟨t,h.lL,q⟩
theorem uS.binds {x qual:Str} {st:Stmt} {f:Addr} {fd:FuncData} {ps:List Str} (F:uS K x qual st f fd)
  (h:∀(kV doc pm:Value) (an:Option Addr) (cdv ct:Value) (us:List Value),us.length=ps.length->bindArgs (PySem.W.fnOf x qual (aR st) (aH st) (aj st) .none kV doc pm an cdv ct) ⟨us,[]⟩=pure (ps.zip us)):Binds K fd ps []:=by
 obtain⟨oc,od,kV,doc,pm,an,cdv,ct,osl,rfl,lk,hcd⟩:=F.ex
 exact .all (h kV doc pm an cdv ct)
theorem qE {x qual:Str} {st:Stmt} {f:Addr} {oc:Value} {od an:Option Addr} {osl:Array (Option Value)} {kV doc pm cdv ct:Value} (l:K.lookup f=some ⟨oc,od,.func (PySem.W.fnOf x qual (aR st) (aH st) (aj st) .none kV doc pm an cdv ct),osl⟩)
  (c:PySem.W.codeIn K cdv qual=true) (k:PySem.W.keepIn K (.ref f)=true):uS K x qual st f (PySem.W.fnOf x qual (aR st) (aH st) (aj st) .none kV doc pm an cdv ct):=⟨⟨oc,od,kV,doc,pm,an,cdv,ct,osl,rfl,l,c⟩,k⟩
end
theorem dh {A:Around} {k:Nat} (hr:bF k A):A.units+1<cLine:=Nat.lt_of_le_of_lt (Nat.add_le_add_left (by decide:1<=64) _) hr.units
theorem uJ {n:Nat} (h:n<=1000):n<sizeLine:=Nat.lt_of_le_of_lt h (by decide)
section
variable {X:Cx}
theorem pv (i:Nat) {x:Str} {pos:Pos} (hN:X.N[i]?=some x:=by rfl) (hv:B9 X.env.scope x:=by first | exact Or.inl rfl | exact Or.inr (Or.inl rfl) | exact Or.inr (Or.inr rfl)) (hd:(x==("__debug__":Str))=false:=by decide)
  (hcd:(x==("__classdict__":Str))=false:=by decide):PE X (.Name x pos) (BV i):=rf hN hv hd hcd
end
theorem bV {c A B:Prop} [Decidable c] (h1:c->A) (h2:¬c->B):if c then A else B:=by
 by_cases h:c
 ·rw [if_pos h]
  exact h1 h
 ·rw [if_neg h]
  exact h2 h
def ax (H H':Hp):Prop:=∀ b o,H b=some o->H' b=some o
theorem ax.refl (H:Hp):ax H H:=λ_ _ h=>h
theorem ax.trans {H H1 H2:Hp} (a:ax H H1) (b:ax H1 H2):ax H H2:=λc o h=>b c o (a c o h)
theorem ax.free {H H':Hp} (e:ax H H') {l:Addr} (h:H' l=Option.none):H l=Option.none:=by
 cases q:H l with
 | none=>rfl
 | some o =>
  rw [e l o q] at h
  cases h
theorem ax.seq {K:PySem.W.Frag} {H H':Hp} {a:Addr} {xs:List V} (e:ax H H') (h:aM K H a xs):aM K H' a xs:=by
 rcases h with (h | ⟨o,h⟩) | h
 ·exact .inl (.inl (e _ _ h))
 ·exact .inl (.inr ⟨o,e _ _ h⟩)
 ·exact .inr h
end L2
set_option maxHeartbeats 1000000
namespace L2
open PySem PySem.Spec PyProof.Rows
theorem gM {Ex:Value->Shared->Prop} {prog:Program} {w:World} {A:Around} {R:Result->Shared->Prop} {s:Shared} {elt target:Expr} {gens:List Comprehension} {scope:Scope} {pos ps:Pos} {ifs:List Expr} {d:Nat} {B:Sem Unit} {it acc:Value} {env:Env} (I:Nat->Shared->Prop)
  (ht:compTurn (.ListComp elt gens scope pos) d it acc env=(do
   standAt ps
   match <- pyNext it with
   | none=>pure (.done .next)
   | some v =>
    letOwnedTupleGo target it v
    assign target env v
    let mut ok:=true
    for c in ifs do
     if ok then ok <- isTrue c env (eval c env)
    if ok then B
    again (.compLoop (.ListComp elt gens scope pos) d it acc env)))
  (turn:∀ n s,I n s->wpAny (model prog w) A (pyNext it) (λr s₁=>match r with
   | none=>R (.ok .next) s₁
   | some v=>wpAny (model prog w) A (letOwnedTupleGo target it v) (λ_ s₁'=>wpAny (model prog w) A (assign target env v) (λ_ s₂ =>
     wpAny (model prog w) A (forIn ifs true λc r=>if r=true then do let ok <- isTrue c env (eval c env);pure (ForInStep.yield ok) else pure (ForInStep.yield r)) (λok s₃ =>
      if ok=true then wpAny (model prog w) A B (λ_ s₅=>∃ m,m<n/\I m s₅) Ex s₃
      else ∃ m,m<n/\I m s₃) Ex s₂) Ex s₁') Ex s₁) Ex s)
  (n:Nat) (h:I n s) (hE:∀ e s',Ex e s'->notedBy (model prog w) A env (λe s''=>R (.error e) s'') e s') :
  codeAny (model prog w) A (.compLoop (.ListComp elt gens scope pos) d it acc env) R s:=by
 refine codeAny_loop rfl I (λn s hI=>?_) n h
 show wpAny _ A ((compTurn (.ListComp elt gens scope pos) d it acc env).onRaise (λx=>do noteFrame x env;theTreesLotGoes x)) _ _ s
 refine wpAny_noted ?_
 rw [ht]
 refine wpAny_bind (wpAny_standAt (wpAny_bind (wpAny_mono (turn n s hI) (λr s₁ h₁=>?_) λ_ _ h'=>hE _ _ h')))
 cases r with
 | none=>exact wpAny_pure h₁
 | some v =>
  refine wpAny_bind (wpAny_mono h₁ (λ_ s₁' h₁'=>?_) λ_ _ h'=>hE _ _ h')
  refine wpAny_bind (wpAny_mono h₁' (λ_ s₂ h₂=>wpAny_bind (wpAny_mono h₂ (λok s₃ h₃=>?_) λ_ _ h'=>hE _ _ h')) λ_ _ h'=>hE _ _ h')
  cases ok with
  | false=>exact wpAny_pure ⟨rfl,h₃⟩
  | true=>exact wpAny_bind (wpAny_mono h₃ (λ_ s₅ h₅=>wpAny_pure ⟨rfl,h₅⟩) λ_ _ h'=>hE _ _ h')
def nI (elt:Expr) (acc:Value) (env:Env):Sem Unit:=do let _ <- call (.builtin "list.append") [acc,<- eval elt env]
theorem xX (elt target iter:Expr) (ifs:List Expr) (scope:Scope) (pos:Pos) (it acc:Value) (env:Env) :
  compTurn (.ListComp elt [⟨target,iter,ifs,0⟩] scope pos) 0 it acc env=(do
   standAt iter.pos
   match <- pyNext it with
   | none=>pure (.done .next)
   | some v =>
    letOwnedTupleGo target it v
    assign target env v
    let mut ok:=true
    for c in ifs do
     if ok then ok <- isTrue c env (eval c env)
    if ok then nI elt acc env
    again (.compLoop (.ListComp elt [⟨target,iter,ifs,0⟩] scope pos) 0 it acc env)):=by rfl
theorem zZ (elt t1 i1 t2 i2:Expr) (f1 f2:List Expr) (scope:Scope) (pos:Pos) (it acc:Value) (env:Env) :
  compTurn (.ListComp elt [⟨t1,i1,f1,0⟩,⟨t2,i2,f2,0⟩] scope pos) 1 it acc env=(do
   standAt i2.pos
   match <- pyNext it with
   | none=>pure (.done .next)
   | some v =>
    letOwnedTupleGo t2 it v
    assign t2 env v
    let mut ok:=true
    for c in f2 do
     if ok then ok <- isTrue c env (eval c env)
    if ok then nI elt acc env
    again (.compLoop (.ListComp elt [⟨t1,i1,f1,0⟩,⟨t2,i2,f2,0⟩] scope pos) 1 it acc env)):=by rfl
theorem xY (elt t1 i1 t2 i2:Expr) (f1 f2:List Expr) (scope:Scope) (pos:Pos) (it acc:Value) (env:Env) :
  compTurn (.ListComp elt [⟨t1,i1,f1,0⟩,⟨t2,i2,f2,0⟩] scope pos) 0 it acc env=(do
   standAt i1.pos
   match <- pyNext it with
   | none=>pure (.done .next)
   | some v =>
    letOwnedTupleGo t1 it v
    assign t1 env v
    let mut ok:=true
    for c in f1 do
     if ok then ok <- isTrue c env (eval c env)
    if ok then
     let x <- eval i2 env
     standAt i2.pos
     let x <- foldedSetIterable i2 env x
     let _ <- runOwn (.compStart (.ListComp elt [⟨t1,i1,f1,0⟩,⟨t2,i2,f2,0⟩] scope pos) 1 (<- holding [x] (pyIter x)) acc env) env
    again (.compLoop (.ListComp elt [⟨t1,i1,f1,0⟩,⟨t2,i2,f2,0⟩] scope pos) 0 it acc env)):=by rfl
theorem mj {Ex:Value->Shared->Prop} {prog:Program} {w:World} {A:Around} {R:Result->Shared->Prop} {s:Shared} {elt t1 i1 t2 i2:Expr} {f1 f2:List Expr} {scope:Scope} {pos:Pos} {it acc:Value} {env:Env} (I:Nat->Shared->Prop) (hs:∀ x,foldedSetIterable i2 env x=pure x)
  (turn:∀ n s,I n s->wpAny (model prog w) A (pyNext it) (λr s₁=>match r with
   | none=>R (.ok .next) s₁
   | some v=>wpAny (model prog w) A (letOwnedTupleGo t1 it v) (λ_ s₁'=>wpAny (model prog w) A (assign t1 env v) (λ_ s₂ =>
     wpAny (model prog w) A (forIn f1 true λc r=>if r=true then do let ok <- isTrue c env (eval c env);pure (ForInStep.yield ok) else pure (ForInStep.yield r)) (λok s₃ =>
      if ok=true then wpAny (model prog w) A (eval i2 env) (λx s₄=>wpAny (model prog w) A (pyIter x) (λit2 s₅ =>
       codeAny (model prog w) A (.compStart (.ListComp elt [⟨t1,i1,f1,0⟩,⟨t2,i2,f2,0⟩] scope pos) 1 it2 acc env) (λr s₆=>match r with | .ok _=>∃ m,m<n/\I m s₆ | .error _=>False) s₅) Ex s₄) Ex s₃
      else ∃ m,m<n/\I m s₃) Ex s₂) Ex s₁') Ex s₁) Ex s)
  (n:Nat) (h:I n s) (hE:∀ e s',Ex e s'->notedBy (model prog w) A env (λe s''=>R (.error e) s'') e s'):codeAny (model prog w) A (.compLoop (.ListComp elt [⟨t1,i1,f1,0⟩,⟨t2,i2,f2,0⟩] scope pos) 0 it acc env) R s:=by
 refine codeAny_loop rfl I (λn s hI=>?_) n h
 show wpAny _ A ((compTurn (.ListComp elt [⟨t1,i1,f1,0⟩,⟨t2,i2,f2,0⟩] scope pos) 0 it acc env).onRaise (λx=>do noteFrame x env;theTreesLotGoes x)) _ _ s
 refine wpAny_noted ?_
 rw [xY]
 refine wpAny_bind (wpAny_standAt (wpAny_bind (wpAny_mono (turn n s hI) (λr s₁ h₁=>?_) λ_ _ h'=>hE _ _ h')))
 cases r with
 | none=>exact wpAny_pure h₁
 | some v =>
  refine wpAny_bind (wpAny_mono h₁ (λ_ s₁' h₁'=>?_) λ_ _ h'=>hE _ _ h')
  refine wpAny_bind (wpAny_mono h₁' (λ_ s₂ h₂=>wpAny_bind (wpAny_mono h₂ (λok s₃ h₃=>?_) λ_ _ h'=>hE _ _ h')) λ_ _ h'=>hE _ _ h')
  cases ok with
  | false=>exact wpAny_pure ⟨rfl,h₃⟩
  | true =>
   refine wpAny_bind (wpAny_mono h₃ (λx s₄ h₄=>?_) λ_ _ h'=>hE _ _ h')
   refine wpAny_bind (wpAny_standAt (wpAny_bind (wpAny_of_eq (hs x) (wpAny_bind (wpAny_holding (wpAny_mono h₄ (λit2 s₅ h₅=>?_) λ_ _ h'=>hE _ _ h'))))))
   refine wpAny_bind (wpAny_runOwn (codeAny_mono h₅ λr s₆ h₆=>?_))
   cases r with
   | ok f=>exact wpAny_pure ⟨rfl,h₆⟩
   | error e=>exact h₆.elim
theorem xJ {prog:Program} {w:World} {A:Around} {R:Result->Shared->Prop} {s:Shared} {elt t1 i1 t2 i2:Expr} {f1 f2:List Expr} {scope:Scope} {pos:Pos} {it acc:Value} {env:Env}
  (h0:codeAny (model prog w) A (.compLoop (.ListComp elt [⟨t1,i1,f1,0⟩,⟨t2,i2,f2,0⟩] scope pos) 1 it acc env) R s)
  (h:wpAny (model prog w) A (pyIter it) (λit' s'=>codeAny (model prog w) A (.compLoop (.ListComp elt [⟨t1,i1,f1,0⟩,⟨t2,i2,f2,0⟩] scope pos) 1 it' acc env) R s')
   (notedBy (model prog w) A env λx s'=>R (.error x) s') s) :
  codeAny (model prog w) A (.compStart (.ListComp elt [⟨t1,i1,f1,0⟩,⟨t2,i2,f2,0⟩] scope pos) 1 it acc env) R s:=by
 refine codeAny_of_tree ?_
 show wpAny _ _ ((compStart (.ListComp elt [⟨t1,i1,f1,0⟩,⟨t2,i2,f2,0⟩] scope pos) 1 it acc env).onRaise (λx=>do noteFrame x env;standAt theWindowsPlace)) _ _ s
 refine wpAny_notedAt ?_
 unfold compStart
 show wpAny _ _ (ask >>= _) _ _ s
 refine wpAny_bind (wpAny_askSetting (wpAny_ite ?_))
 split
 ·first
   | exact wpAny_bind (wpAny_pure (wpAny_pure (And.intro rfl h0)))
   | exact wpAny_pure (And.intro rfl h0)
 ·first
   | exact wpAny_bind (wpAny_rule (wpAny_bind (wpAny_standAt (wpAny_bind (wpAny_mono h (λit' s' h'=>wpAny_pure (And.intro rfl h')) λ_ _ x=>x)))))
   | (refine wpAny_bind (wpAny_rule ?_);show wpAny _ _ (standAt i2.pos >>= _) _ _ s;exact wpAny_bind (wpAny_standAt (wpAny_bind (wpAny_mono h (λit' s' h'=>wpAny_pure (And.intro rfl h')) λ_ _ x=>x))))
def bh (X:Cx) (Ex:Value->Shared->Prop) (N':List Str) (scope:Scope) (cl:List (Str × Addr)) (C:Addr) (s₂:Shared) (H₂:Hp) (fp:List Addr):Cx :=
 { X with N:=N',s₀:=s₂,H₀:=H₂,env:=compEnvC scope (cellsFrom (C+1) scope.names cl) C X.env,outer:=X.stack,stack:=X.stack,ex:=fp,fn:=λx=>scope.names.lookup x==some .cell,pn:=[],xe:=Ex }
abbrev cG (X:Cx):=bh X λ_ _=>False
def AllIn (env:Env):List (Str × Addr)->Prop
 | []=>True
 | p::r=>env.cells.lookup p.1=some p.2/\AllIn env r
theorem AllIn.get {env:Env}:∀{l:List (Str × Addr)},AllIn env l->∀ y c,l.lookup y=some c->env.cells.lookup y=some c
 | [],_,_,_,h=>by simp at h
 | (z,d)::r,a,y,c,h=>by
  rw [List.lookup_cons] at h
  cases e:y==z with
  | true =>
   rw [e] at h
   have q:y=z:=by simpa using e
   subst q
   cases h
   exact a.1
  | false =>
   rw [e] at h
   exact AllIn.get a.2 y c h
def cS (js:List (Option Nat)) (σ:St):St:=js.map λo=>match o with | none=>none | some j=>(σ[j]?).join
structure d7 (X:Cx) (N':List Str) (js:List (Option Nat)) (scope:Scope) (cl:List (Str × Addr)):Prop where
 clos:closureFor scope X.env=pure cl
 kind:scope.kind=.function
 nocell:∀ y∈scope.names,y.2=.cell->scope.names.lookup y.1=some .cell/\∀ p∈js.zip N',p.1.isSome=true->p.2≠y.1
 names:∀ y∈scope.names,y.2=.local->scope.names.lookup y.1=some .local
 sub:AllIn X.env cl
 has:∀ y∈scope.names,y.2=.free->(cl.lookup y.1).isSome=true
 jlen:js.length=N'.length
 jok:∀(i j:Nat) x,js[i]?=some (some j)->N'[i]?=some x->X.N[j]?=some x/\(cl.lookup x).isSome=true/\B9 X.env.scope x/\X.env.kindOf x≠some .local/\((relabel scope X.env).names.lookup x=some .cell∨(relabel scope X.env).names.lookup x=some .free)
theorem ja {scope:Scope} {env:Env} {x:Str} {k:NameKind} (h:(relabel scope env).names.lookup x=some k) (hk:k=.cell∨k=.free):∃ y∈scope.names,y.1=x/\(y.2=.free∨y.2=.cell):=by
 have hm:=PySem.mem_of_lookup h
 obtain⟨⟨n,q⟩,hm',e⟩:=List.mem_map.mp hm
 dsimp only at e
 split at e
 ·rename_i hc
  have e1:n=x:=congrArg Prod.fst e
  refine⟨(n,q),hm',e1,.inl ?_⟩
  have:(q==NameKind.free)=true:=by
   simp only [Bool.and_eq_true] at hc
   exact hc.1.1
  simpa using this
 ·have e1:n=x:=congrArg Prod.fst e
  have e2:q=k:=congrArg Prod.snd e
  refine⟨(n,q),hm',e1,?_⟩
  rcases hk with hk | hk
  ·exact .inr (e2.trans hk)
  ·exact .inl (e2.trans hk)
theorem gL {x:Str} {c:Addr}:∀(ns:List (Str × NameKind)) (n:Nat) (acc:List (Str × Addr)),(cellsFrom n ns acc).lookup x=some c->acc.lookup x=some c∨n<=c
 | [],_,_,h=>.inl h
 | (y,k)::r,n,acc,h=>by
  unfold cellsFrom at h
  split at h
  ·rcases gL r _ _ h with z | z
   ·rw [List.lookup_cons] at z
    split at z
    ·cases z;exact .inr (Nat.le_refl _)
    ·exact .inl z
   ·exact .inr (Nat.le_of_succ_le z)
  ·exact gL r _ _ h
theorem qy {x:Str} {c:Addr}:∀(ns:List (Str × NameKind)) (n:Nat) (acc:List (Str × Addr)),ns.lookup x=some .cell->(cellsFrom n ns acc).lookup x=some c->n<=c
 | [],_,_,h,_=>by cases h
 | (y,k)::r,n,acc,h,e=>by
  rw [List.lookup_cons] at h
  unfold cellsFrom at e
  split at h
  ·rename_i hy
   cases h
   rcases gL r _ _ e with z | z
   ·rw [List.lookup_cons,hy] at z
    cases z;exact Nat.le_refl _
   ·exact Nat.le_of_succ_le z
  ·split at e
   ·exact Nat.le_of_succ_le (qy r _ _ h e)
   ·exact qy r _ _ h e
theorem mi {x:Str}:∀(ns:List (Str × NameKind)) (n:Nat) (acc:List (Str × Addr)),(∀ y∈ns,y.2=.cell->x≠y.1)->(cellsFrom n ns acc).lookup x=acc.lookup x
 | [],_,_,_=>rfl
 | (y,k)::r,n,acc,h=>by
  unfold cellsFrom
  split
  ·rename_i hk
   rw [mi r _ _ λz hz=>h z (List.mem_cons_of_mem _ hz),List.lookup_cons]
   have:(x==y)=false:=by simpa using h (y,k) List.mem_cons_self (by simpa using hk)
   rw [this]
  ·exact mi r _ _ λz hz=>h z (List.mem_cons_of_mem _ hz)
theorem qx:∀(ns:List (Str × NameKind)) (n:Nat) (acc:List (Str × Addr)),(∀ x c,acc.lookup x=some c->c<n)->(∀ x y c,acc.lookup x=some c->acc.lookup y=some c->x=y) ->
  ∀ x y c,(cellsFrom n ns acc).lookup x=some c->(cellsFrom n ns acc).lookup y=some c->x=y
 | [],_,_,_,h=>h
 | (z,k)::r,n,acc,hl,hi=>by
  unfold cellsFrom
  split
  ·refine qx r _ _ (λx c e=>?_) λx y c e1 e2=>?_
   ·rw [List.lookup_cons] at e
    split at e
    ·cases e;exact Nat.lt_succ_self _
    ·exact Nat.lt_succ_of_lt (hl x c e)
   ·rw [List.lookup_cons] at e1 e2
    split at e1<;>split at e2
    ·rename_i a _ b
     rw [eq_of_beq a,eq_of_beq b]
    ·cases e1;exact absurd (hl y _ e2) (Nat.lt_irrefl _)
    ·cases e2;exact absurd (hl x _ e1) (Nat.lt_irrefl _)
    ·exact hi x y c e1 e2
  ·exact qx r _ _ hl hi
theorem mh:∀(ns:List (Str × NameKind)) (h:Heap) (acc:List (Str × Addr)),(∀ x c,acc.lookup x=some c->∃ v,h.IsCell c v)->∀ x c,(cellsFrom h.objs.size ns acc).lookup x=some c->∃ v,(pushCells h ns).IsCell c v
 | [],_,_,h=>h
 | (z,k)::r,h,acc,hl=>by
  unfold cellsFrom pushCells
  split
  ·have:=mh r (h.push { cls:=.type "cell",data:=.cell none }) ((z,h.objs.size)::acc) λx c e=>by
    rw [List.lookup_cons] at e
    split at e
    ·cases e;exact⟨none,_,Heap.get?_push_size _ rfl,rfl⟩
    ·obtain⟨v,q⟩:=hl x c e
     exact⟨v,q.keeps λb o e=>Heap.get?_push_of_some _ e⟩
   rwa [Heap.size_push] at this
  ·exact mh r h acc hl
theorem kR {M:Model} {A:Around} {E:Value->Shared->Prop} {s:Shared} {scope:Scope} {g:Addr} {cl:List (Str × Addr)} {qual:Str} {env:Env} {Q:Env->Shared->Prop}
  (h:Q (newEnv scope s.heap.objs.size g (cellsFrom (s.heap.objs.size+1) scope.names cl) qual none .none (some env) builtinsNs) { s with heap:=pushCells (s.heap.push { cls:=.type "dict",data:=.dict #[] }) scope.names }) :
  wpAny M A (newFunctionEnv scope g cl [] qual none .none (some env)) Q E s:=by
 simp only [newFunctionEnv,Option.isSome_some,if_true]
 refine wpAny_bind (wpAny_alloc ?_)
 refine wpAny_bind (wpAny_layCells _ (λname kind cells=>by cases hkc:kind==NameKind.cell<;>simp [hkc]) _ _ _ _ ?_)
 rw [show ({ s with heap:=s.heap.push { cls:=.type "dict",data:=.dict #[] } }:Shared).heap.objs.size=s.heap.objs.size+1 from Heap.size_push ..]
 exact wpAny_bind (wpAny_pure (wpAny_pure h))
def lobj (ys:List Value):Obj:={ cls:=.type "list",data:=.seq ys.toArray ys.length }
def jO (X:Cx) (ifs:List Expr) (t:TT):Prop :=
 ∀(pins:List (Addr × Obj)) (s:Shared) (σ:St) (H:Hp) (Q:Bool->Hp->Prop),Inv X pins σ H s->t σ H Q ->
  wpAny (model X.prog X.w) X.A (forIn ifs true λc r=>if r=true then do let ok <- isTrue c X.env (eval c X.env);pure (ForInStep.yield ok) else pure (ForInStep.yield r)) (TP X pins σ Q) X.xe s
def AI:TT:=λ_ H Q=>Q true H
theorem aS {X:Cx}:jO X [] AI:=λpins s σ H Q I h=>wpAny_tests_nil ⟨H,I,h⟩
theorem wW {X:Cx} {c:Expr} {t:TT} (h:PT X c t):jO X [c] t:=λpins s σ H Q I q=>wpAny_tests_one (h pins s σ H Q I q)
def bf:List (Option V)->List (Option V)->Prop
 | [],[]=>True
 | none::r,_::r'=>bf r r'
 | some v::r,some u::r'=>u=v/\bf r r'
 | _,_=>False
theorem bf.len:∀{a b:List (Option V)},bf a b->a.length=b.length
 | [],[],_=>rfl
 | none::r,_::r',h=>by simp [bf.len (a:=r) (b:=r') h]
 | some v::r,some u::r',h=>by simp [bf.len (a:=r) (b:=r') h.2]
 | some v::r,none::r',h=>h.elim
 | some v::r,[],h=>h.elim
 | none::r,[],h=>h.elim
 | [],_::_,h=>h.elim
theorem bf.get:∀{a b:List (Option V)},bf a b->∀(i:Nat) v,a[i]?=some (some v)->b[i]?=some (some v)
 | [],[],_,i,v,h=>by simp at h
 | none::r,_::r',h,0,v,e=>by simp at e
 | none::r,_::r',h,i+1,v,e=>by
  have:=bf.get (a:=r) (b:=r') h i v (by simpa using e)
  simpa using this
 | some v::r,some u::r',h,0,v',e=>by
  have q:v=v':=by simpa using e
  have:=h.1
  simp [this,q]
 | some v::r,some u::r',h,i+1,v',e=>by
  have:=bf.get (a:=r) (b:=r') h.2 i v' (by simpa using e)
  simpa using this
 | some v::r,none::r',h,_,_,_=>h.elim
 | some v::r,[],h,_,_,_=>h.elim
 | none::r,[],h,_,_,_=>h.elim
 | [],_::_,h,_,_,_=>h.elim
def Dd (js:List (Option Nat)) (wi:TI) (g:TG) (tt:TT) (te:TE):TE:=λσ H Q=>wi σ H λJ H1=>∃ W:Nat->Nat->List V->Hp->Prop,(∃ m,W 0 m [] H1)/\∀ i m ys H,W i m ys H ->
 (J.stop i H/\ys.length<=sizeLine/\∀ p,H p=none->Q (.ref p) (upd H p (.lst ys))) ∨
 (J.go i H/\ys.length<sizeLine/\∃ N:List V->Hp->Prop,(∀ ys' H',N ys' H'->∃ m',m'<m/\W (i+1) m' ys' H') /\
  ∀ x H',J.yld i H x H'->g x (cS js σ) H' λσ2 H2=>bf (cS js σ) σ2/\tt σ2 H2 λb H3=>if b=true then te σ2 H3 λv H4=>N (ys++[v]) H4 else N ys H3)
structure gH (X:Cx) (C:Addr) (s₂:Shared) (H₂:Hp) (fp:List Addr):Prop where
 inv:∃ pins σ,Inv X pins σ H₂ s₂
 new:∀ b∈fp,X.s₀.heap.objs.size<=b∨b∈X.ex
 nof:∀ b∈c9 X.stack,b∉fp
 le:s₂.heap.objs.size<=C
def AZ (X:Cx) (elt target:Expr) (gens:List Comprehension) (ifs:List Expr) (scope:Scope) (pos:Pos) (Bd:(Value->Shared->Prop)->Value->Env->(Shared->Prop)->Shared->Prop):Prop :=
 ∀(Ex:Value->Shared->Prop) (R:Result->Shared->Prop) (s:Shared) (it acc:Value) (env:Env) (I:Nat->Shared->Prop),
  (∀ n s,I n s->wpAny (model X.prog X.w) X.A (pyNext it) (λr s₁=>match r with
   | none=>R (.ok .next) s₁
   | some v=>wpAny (model X.prog X.w) X.A (letOwnedTupleGo target it v) (λ_ s₁'=>wpAny (model X.prog X.w) X.A (assign target env v) (λ_ s₂ =>
     wpAny (model X.prog X.w) X.A (forIn ifs true λc r=>if r=true then do let ok <- isTrue c env (eval c env);pure (ForInStep.yield ok) else pure (ForInStep.yield r)) (λok s₃ =>
      if ok=true then Bd Ex acc env (λs₅=>∃ m,m<n/\I m s₅) s₃ else ∃ m,m<n/\I m s₃) Ex s₂) Ex s₁') Ex s₁) Ex s) ->
  ∀ n,I n s->(∀ e s',Ex e s'->notedBy (model X.prog X.w) X.A env (λe s''=>R (.error e) s'') e s')->codeAny (model X.prog X.w) X.A (.compLoop (.ListComp elt gens scope pos) 0 it acc env) R s
structure kS (Y:Cx) (D:Addr) (P:List (Addr × Obj)):Prop where
 ne:∀ p∈P,p.1≠D
 new:Y.s₀.heap.objs.size<=D
 cell:∀ x c,Y.env.cells.lookup x=some c->c≠D
theorem vS {X:Cx} {Ex:Addr->Shared->Hp->List Addr->Value->Shared->Prop} {elt target iter:Expr} {rest:List Comprehension} {ifs:List Expr} {scope:Scope} {pos:Pos} {N':List Str} {js:List (Option Nat)} {cl:List (Str × Addr)} {g:TG} {tt:TT} {Cc:List V->Prop} {tb:List V->St->Hp->(List V->Hp->Prop)->Prop} {Bd:(Value->Shared->Prop)->Value->Env->(Shared->Prop)->Shared->Prop} (hcalm:X.calm=true) (hloop:AZ X elt target (⟨target,iter,ifs,0⟩::rest) ifs scope pos Bd)
  (K:d7 X N' js scope cl)
  (hg:∀ C s₂ H₂ fp,gH X C s₂ H₂ fp->PG (bh X (Ex C s₂ H₂ fp) N' scope cl C s₂ H₂ fp) target g) (ht:∀ C s₂ H₂ fp,gH X C s₂ H₂ fp->jO (bh X (Ex C s₂ H₂ fp) N' scope cl C s₂ H₂ fp) ifs tt) (hB:∀ C s₂ H₂ fp,gH X C s₂ H₂ fp->∀(D:Addr) ys vys P σ H s N Ps,Inv (bh X (Ex C s₂ H₂ fp) N' scope cl C s₂ H₂ fp) ([(D,lobj ys)]++P) σ H s->Vals vys ys->kS (bh X (Ex C s₂ H₂ fp) N' scope cl C s₂ H₂ fp) D P->Cc vys->tb vys σ H N ->
   (∀ ys' vys' H' s',Inv (bh X (Ex C s₂ H₂ fp) N' scope cl C s₂ H₂ fp) ([(D,lobj ys')]++P) σ H' s'->Vals vys' ys'->N vys' H'->Ps s')->Bd (Ex C s₂ H₂ fp) (.ref D) (bh X (Ex C s₂ H₂ fp) N' scope cl C s₂ H₂ fp).env Ps s)
  (herr:∀ C s₂ H₂ fp use Q' acc e s',Ex C s₂ H₂ fp e s'->notedBy (model X.prog X.w) X.A (compEnvC scope (cellsFrom (C+1) scope.names cl) C X.env) (λe s''=>compPost (model X.prog X.w) X.A X.xe use Q' acc C (.error e) s'') e s')
  {pins:List (Addr × Obj)} {σ:St} {Q:VK} {use:Option (Value->Sem Unit)} {Q':Value->Shared->Prop} {itv:Value} {s2:Shared}
  (h2:Dy X pins σ target (λJ H1=>∃ W:Nat->Nat->List V->Hp->Prop,(∃ m,W 0 m [] H1)/\∀ i m ys H,W i m ys H ->
 (J.stop i H/\ys.length<=sizeLine/\∀ p,H p=none->Q (.ref p) (upd H p (.lst ys))) ∨
 (J.go i H/\Cc ys/\∃ N:List V->Hp->Prop,(∀ ys' H',N ys' H'->∃ m',m'<m/\W (i+1) m' ys' H') /\
  ∀ x H',J.yld i H x H'->g x (cS js σ) H' λσ2 H2=>bf (cS js σ) σ2/\tt σ2 H2 λb H3=>if b=true then tb ys σ2 H3 N else N ys H3)) itv s2)
  (hok:∀ C D vys H4 s5,(∃ m,s5.heap.Ns C m)->s2.heap.objs.size<=D->D<=C->D≠C->H4 D=none->H4 C=none->(∀ h',Heap.SameBut C s5.heap h'->Inv X pins σ (upd H4 D (.lst vys)) { s5 with heap:=h' })->Q (.ref D) (upd H4 D (.lst vys))->compPost (model X.prog X.w) X.A X.xe use Q' (.ref D) C (.ok .next) s5) :
  wpAny (model X.prog X.w) X.A (newList []) (λacc s₃=>wpAny (model X.prog X.w) X.A (newFunctionEnv scope X.env.globals cl [] X.env.qual none .none (some X.env)) (λcenv s₄ =>
   codeAny (model X.prog X.w) X.A (.compStart (.ListComp elt (⟨target,iter,ifs,0⟩::rest) scope pos) 0 itv acc { cenv with scope:=relabel scope X.env }) (compPost (model X.prog X.w) X.A X.xe use Q' acc cenv.locals) s₄) X.xe s₃) X.xe s2:=by
 obtain⟨it,fp,tn,J,H2,e,I2,T,st2,f2,W,⟨m0,w0⟩,turn⟩:=h2
 subst e
 refine wpAny_newObj_type (kR ?_)
 dsimp only
 generalize hP2:s2.heap.push { cls:=.type "list",dict:=none,data:=.seq ([]:List Value).toArray }=P2
 generalize hh₁:pushCells (P2.push { cls:=.type "dict",data:=.dict #[] }) scope.names=h₁
 have hns₁:h₁.Ns P2.objs.size λ_=>none:=hh₁▸(Heap.Ns.new P2 (.type "dict")).keeps (pushCells_keeps _ _)
 have upP:∀ b o,P2.get? b=some o->h₁.get? b=some o:=λb o e=>hh₁▸pushCells_keeps _ _ b o (Heap.get?_push_of_some _ e)
 have hcel:∀ x c,(cellsFrom (P2.objs.size+1) scope.names cl).lookup x=some c->∃ v,h₁.IsCell c v:=by
  have:=mh scope.names (P2.push { cls:=.type "dict",data:=.dict #[] }) cl λx c e=>by
   obtain⟨v,q⟩:=I2.cell x c (K.sub.get x c e)
   exact⟨v,q.keeps λb o e=>Heap.get?_push_of_some _ (hP2▸Heap.get?_push_of_some _ e)⟩
  rw [Heap.size_push,hh₁] at this
  exact this
 have hC:P2.objs.size=s2.heap.objs.size+1:=by rw [<- hP2,Heap.size_push]
 have hDC:s2.heap.objs.size≠P2.objs.size:=by rw [hC];exact Nat.ne_of_lt (Nat.lt_succ_self _)
 have below:∀ b,b<s2.heap.objs.size->b≠P2.objs.size/\b≠s2.heap.objs.size:=λb hb=>⟨by rw [hC];exact Nat.ne_of_lt (Nat.lt_succ_of_lt hb),Nat.ne_of_lt hb⟩
 have old:∀ b o,s2.heap.get? b=some o->h₁.get? b=some o:=λb o e=>upP b o (hP2▸Heap.get?_push_of_some _ e)
 have hacc:h₁.get? s2.heap.objs.size=some (lobj []):=upP _ _ (hP2▸Heap.get?_push_size _ rfl)
 generalize hCe:P2.objs.size=C at *
 generalize hDe:s2.heap.objs.size=D at *
 let Y:Cx:=bh X (Ex C s2 H2 fp) N' scope cl C s2 H2 fp
 have clLt:∀ y c,cl.lookup y=some c->c<D:=λy c e=>by
  obtain⟨v,q⟩:=I2.cell y c (K.sub.get y c e)
  rw [<- hDe]
  exact q.lt
 have cellsX:∀ y c,Y.env.cells.lookup y=some c->cl.lookup y=some c∨C+1<=c:=λy c e=>gL _ _ _ e
 have cellNe:∀ y c,Y.env.cells.lookup y=some c->c≠D:=λy c e=>by
  rcases cellsX y c e with z | z
  ·exact Nat.ne_of_lt (clLt y c z)
  ·exact Nat.ne_of_gt (by omega)
 have freshH:∀ a,D<=a->H2 a=none:=λa ha=>I2.hok.fresh (by rw [hDe];exact ha)
 have hDleC:D<=C:=by rw [hC];exact Nat.le_succ _
 have lc:gH X C s2 H2 fp:=⟨⟨pins,σ,I2⟩,λb hb=>((f2 b hb).2.2.2.1).symm,λb hf hb=>by
   rcases List.mem_cons.mp (I2.eI b hf) with z | z
   ·exact (f2 b hb).2.1 z
   ·exact (f2 b hb).2.2.1 z,by rw [hDe];exact hDleC⟩
 have hbelowfp:∀ b∈fp,b<D:=λb hb=>by
  obtain⟨o,e,_⟩:=T.obj _ _ st2 b hb
  rw [<- hDe]
  exact Heap.lt_size e
 have okY:Y.Ok:=by
  refine⟨I2.ok.mod,K.kind,I2.ok.glob,I2.ok.blt,?_,qx _ _ _ (λx c e=>Nat.lt_succ_of_lt (Nat.lt_of_lt_of_le (clLt x c e) hDleC)) (λx y c e1 e2=>I2.ok.inj x y c (K.sub.get x c e1) (K.sub.get y c e2)),λx hx=>?_,λx c hf hc=>?_,I2.ok.hd,I2.ok.frames,.inl rfl,λb hb=>?_,I2.bs,Nat.le_trans I2.ok.bsz I2.sz,λb o e hb=>?_,λb hb hf=>?_,I2.stack,I2.cJ⟩
  ·show s2.heap.objs.size<=C
   rw [hDe];exact hDleC
  ·have hx':(relabel scope X.env).names.lookup x=some .cell∨(relabel scope X.env).names.lookup x=some .free:=hx
   have:∃ y∈scope.names,y.1=x/\(y.2=.free∨y.2=.cell):=by
    rcases hx' with q | q
    ·exact ja q (.inl rfl)
    ·exact ja q (.inr rfl)
   obtain⟨y,hm,e1,e2⟩:=this
   refine Option.isSome_iff_exists.mp (PySem.W.cellsFrom_some _ _ _ ?_)
   rcases e2 with e2 | e2
   ·have q:=K.has y hm e2
    rw [e1] at q
    exact .inr q
   ·exact .inl (e1▸(K.nocell y hm e2).1)
  ·have hf':scope.names.lookup x=some .cell:=by simpa using (show (scope.names.lookup x==some .cell)=true from hf)
   have:=qy _ _ _ hf' hc
   show s2.heap.objs.size<=c
   rw [hDe];exact Nat.le_trans hDleC (Nat.le_of_succ_le this)
  ·refine⟨Nat.ne_of_lt (Nat.lt_of_lt_of_le (hbelowfp b hb) hDleC),λx c e=>?_⟩
   rcases cellsX x c e with z | z
   ·exact (f2 b hb).2.2.2.2.1 x c (K.sub.get x c z)
   ·exact Nat.ne_of_gt (Nat.lt_of_lt_of_le (Nat.lt_of_lt_of_le (hbelowfp b hb) hDleC) (Nat.le_of_succ_le z))
  ·rcases (f2 b hb).2.2.2.1 with z | z
   ·exact I2.ok.noex b o e z
   ·exact absurd (Nat.lt_of_lt_of_le (Heap.lt_size e) (Nat.le_trans I2.ok.bsz z)) (Nat.lt_irrefl _)
  ·rcases List.mem_cons.mp (I2.eI b hf) with z | z
   ·exact (f2 b hb).2.1 z
   ·exact (f2 b hb).2.2.1 z
 -- the block's names
 have locY:∀{s':Shared} {H':Hp} {σ':St},True:=λ{_ _ _}=>trivial
 have invY0:Inv Y [(D,lobj [])] (cS js σ) H2 { s2 with heap:=h₁ }:=by
  refine⟨okY,rfl,I2.bare,Un.kept old,⟨_,hns₁,λi x v e1 e2 vis=>?_⟩,hcel,freshH C hDleC,λy c e=>?_,λp hp=>?_,I2.hok.kept old,?_⟩
  ·-- a name of the block that has a value stands outside in a cell
   have e2':(cS js σ)[i]?=some (some v):=e2
   unfold cS at e2'
   rw [List.getElem?_map] at e2'
   cases ej:js[i]? with
   | none=>rw [ej] at e2';cases e2'
   | some o =>
    rw [ej] at e2'
    cases o with
    | none=>cases e2'
    | some j =>
     obtain⟨n1,n2,n3,n4,n5⟩:=K.jok i j x ej e1
     have e3:(σ[j]?).join=some v:=by simpa using e2'
     have e4:σ[j]?=some (some v):=by
      cases q:σ[j]? with
      | none=>rw [q] at e3;cases e3
      | some z=>rw [q] at e3;simpa using e3
     obtain⟨m,hn,hl⟩:=I2.loc
     obtain⟨u,r,l⟩:=hl j x v n1 e4 n3
     refine⟨u,r,.inr ⟨n5,?_⟩⟩
     rcases l with⟨k,_⟩|⟨k,c,ec,z⟩
     ·exact absurd k n4
     ·obtain⟨c',ec'⟩:=Option.isSome_iff_exists.mp n2
      have ee:=K.sub.get x c' ec'
      rw [ec] at ee
      cases ee
      refine⟨c,(mi _ _ _ λy hy hk=>(K.nocell y hy hk).2 (some j,x) ?_ rfl).trans ec',?_⟩
      ·exact List.mem_of_getElem? (i:=i) (by rw [List.getElem?_zip_eq_some];exact⟨ej,e1⟩)
      obtain⟨o,ho,hd⟩:=z
      exact⟨o,old c o ho,hd⟩
  ·rcases cellsX y c e with z | z
   ·exact I2.freeC y c (K.sub.get y c z)
   ·exact freshH c (by omega)
  ·have hp':p∈[(D,lobj [])]:=hp
   have e:p=(D,lobj []):=by simpa using hp'
   subst e
   refine⟨hacc,freshH D (Nat.le_refl _),hDC,λz=>?_,λv z=>by cases z⟩
   rcases List.mem_cons.mp (I2.eI D z) with q | q
   ·exact absurd (q▸I2.lt) (by rw [hDe];exact Nat.lt_irrefl _)
   ·exact I2.yT (by rw [hDe];exact Nat.le_refl _) q
  ·show (cS js σ).length=N'.length
   unfold cS
   rw [List.length_map]
   exact K.jlen
 have hDfs:D∉Y.fs:=λz=>by
  rcases List.mem_cons.mp (I2.eI D z) with q | q
  ·exact absurd (q▸I2.lt) (by rw [hDe];exact Nat.lt_irrefl _)
  ·exact I2.yT (by rw [hDe];exact Nat.le_refl _) q
 have stat:∀{H':Hp} {ys:List Value},(∀ b∈fp,H' b=none)->∀ b∈fp,kL Y [(D,lobj ys)] H' b:=λ{H' ys} hn b hb=>by
  refine⟨hn b hb,Nat.ne_of_lt (Nat.lt_of_lt_of_le (hbelowfp b hb) hDleC),okY.exfs b hb,.inl hb,okY.exf b hb |>.2,λp hp=>?_⟩
  have hp':p∈[(D,lobj ys)]:=hp
  have e:p=(D,lobj ys):=by simpa using hp'
  subst e
  exact Nat.ne_of_gt (hbelowfp b hb)
 have loop:∀ s3:Shared,s3={ s2 with heap:=h₁ } ->
   codeAny (model X.prog X.w) X.A (.compLoop (.ListComp elt (⟨target,iter,ifs,0⟩::rest) scope pos) 0 (.ref it) (.ref D) (compEnvC scope (cellsFrom (C+1) scope.names cl) C X.env)) (compPost (model X.prog X.w) X.A X.xe use Q' (.ref D) C) s3:=by
  rintro s3 rfl
  refine hloop _ _ _ _ _ _ (λn s'=>∃ i ys vys H',Inv Y [(D,lobj ys)] (cS js σ) H' s'/\tn i s'.heap/\(∀ b∈fp,H' b=none)/\Vals vys ys/\W i n vys H') ?_ m0
   ⟨0,[],[],H2,invY0,T.keep _ _ _ st2 λb _ o e=>old b o e,λb hb=>(f2 b hb).1,.nil,w0⟩ λe s' z=>herr C s2 H2 fp use Q' (.ref D) e s' z
  rintro n s4 ⟨i,ys,vys,H4,I4,st4,fr4,rv,w4⟩
  rcases turn i n vys H4 w4 with⟨stop,hz,qn⟩|⟨go,hz,Nn,hN,step⟩
  ·refine aQ (T.done Y rfl rfl rfl hcalm i _ s4 _ H4 (Ex C s2 H2 fp) I4 (stat fr4) st4 stop) λr s5 ⟨hr,I5⟩=>?_
   subst hr
   obtain⟨m5,hn5,_⟩:=I5.loc
   obtain⟨pD,nD,_,_,_⟩:=I5.pin (D,lobj ys) (by show _∈[(D,lobj ys)];simp)
   have nC:H4 C=none:=I5.free
   refine hok C D vys H4 s5 ⟨m5,hn5⟩ (Nat.le_refl _) hDleC hDC nD nC (λh' hsb=>?_) (qn D nD)
   have pD':h'.get? D=some (lobj ys):=hsb.extBut _ _ hDC pD
   refine I2.Ae (s':={ s5 with heap:=h' }) (ch:=fp) I5.os ?_ ?_ I5.bare (λb hb=>?_)
   ·-- kept
    have u:=I5.base
    have neC:∀ b o,s2.heap.get? b=some o->b≠C/\b≠D:=λb o e=>by
     have:=Heap.lt_size e
     rw [hDe] at this
     exact⟨Nat.ne_of_lt (Nat.lt_of_lt_of_le this hDleC),Nat.ne_of_lt this⟩
    refine⟨λb o e nn hb hx=>hsb.extBut b o (neC b o e).1 (u.keep b o e nn hb hx),λb o e nn hb hx=>?_,λb o e nn hx=>?_,λb o e hx=>?_,λb xs e=>?_,λb o xs e=>?_,λb ps e=>?_⟩
    ·obtain⟨sl,q⟩:=u.slot b o e nn hb hx
     exact⟨sl,hsb.extBut b _ (neC b o e).1 q⟩
    ·rw [ao (neC b o e).2]
     exact u.free b o e nn hx
    ·obtain⟨o',q⟩:=u.there b o e hx
     exact⟨o',hsb.extBut b _ (neC b o e).1 q⟩
    ·rw [ao (aW (u.tups b xs e) nD)]
     exact u.tups b xs e
    ·rw [ao (aW (u.frzs b o xs e) nD)]
     exact u.frzs b o xs e
    ·obtain⟨more,q⟩:=u.tbls b ps e
     exact⟨more,by rw [ao (aW q nD)];exact q⟩
   ·intro b o e
    by_cases hb:b=D
    ·subst hb
     rw [af] at e
     cases e
     exact⟨hz,ys,_,rv,pD'⟩
    ·rw [ao hb] at e
     refine (I5.hok b o e).fZ (λc w' hc q=>hsb.extBut c w' ?_ q) (λc q=>by rw [ao (aW q nD)];exact q) λc xs q=>by rw [ao (aW q nD)];exact q
     rintro rfl
     rcases hc with rfl | hc
     ·rw [nC] at e;cases e
     ·rw [nC] at hc;cases hc
   ·exact⟨(f2 b hb).2.2.2.1,(f2 b hb).2.1,(f2 b hb).2.2.2.2.1,(f2 b hb).2.2.2.2.2⟩
  ·refine aQ (T.item Y rfl rfl rfl hcalm i _ s4 _ H4 (Ex C s2 H2 fp) I4 (stat fr4) st4 go) λr s5 ⟨u,hr,h5⟩=>?_
   subst hr
   refine aQ h5 λ_ s6 ⟨x,H6,I6,r6,y6,st6,fr6⟩=>?_
   have I6':=I6.pinned (stat fr6) (T.obj _ _ st6)
   refine aQ (hg C s2 H2 fp lc _ s6 _ H6 x u _ I6' r6 (step x H6 y6)) λ_ s7 ⟨σ7,H7,I7,k7,q7⟩=>?_
   refine aQ (ht C s2 H2 fp lc _ s7 σ7 H7 _ I7 q7) λb s8 ⟨H8,I8,q8⟩=>?_
   -- behind the tests and the element: the state goes back to what the next turn wants
   have again:∀{ys':List Value} {s9:Shared} {H9:Hp},Inv Y ([(D,lobj ys')]++fu fp s6.heap) σ7 H9 s9->Inv Y [(D,lobj ys')] (cS js σ) H9 s9/\tn (i+1) s9.heap/\∀ b∈fp,H9 b=none:=λ{ys' s9 H9} I9=>by
    refine⟨(I9.fM).weak k7.len k7.get,T.keep _ _ _ st6 λb hb o e=>(I9.pin (b,o) (List.mem_append_right _ (List.mem_append_right _ (cT hb e)))).1,λb hb=>?_⟩
    obtain⟨o,e,d⟩:=T.obj _ _ st6 b hb
    exact (I9.pin (b,o) (List.mem_append_right _ (List.mem_append_right _ (cT hb e)))).2.1
   cases b with
   | false =>
    rw [if_neg Bool.false_ne_true] at q8 ⊢
    obtain⟨m',hm,w8⟩:=hN _ _ q8
    obtain⟨J8,t8,f8⟩:=again I8
    exact⟨m',hm,i+1,ys,vys,H8,J8,t8,f8,rv,w8⟩
   | true =>
    rw [if_pos rfl] at q8 ⊢
    have aok:kS Y D (fu fp s6.heap):=⟨λp hp z=>absurd (hbelowfp p.1 (iR hp).1) (by rw [z];exact Nat.lt_irrefl _),by show s2.heap.objs.size<=D;rw [hDe];exact Nat.le_refl _,λx c e=>cellNe x c e⟩
    refine hB C s2 H2 fp lc D ys vys _ σ7 H8 s8 Nn _ I8 rv aok hz q8 λys' vys' H9 s9 I9 rv' q9=>?_
    obtain⟨J9,t9,f9⟩:=again I9
    obtain⟨m',hm,w9⟩:=hN _ _ q9
    exact⟨m',hm,i+1,ys',vys',H9,J9,t9,f9,rv',w9⟩
 exact codeAny_compStart_list (loop _ rfl) (T.self _ 0 _ _ _ (T.keep _ _ _ st2 λb _ o e=>old b o e) (loop _ rfl))
theorem yn {Y:Cx} {D:Addr} {ys:List Value} {P:List (Addr × Obj)} {σ:St} {H:Hp} {s:Shared} {y:Value} {Q:Value->Shared->Prop} {E:Value->Shared->Prop} (hpn:Y.pn=[]) (I:Inv Y ([(D,lobj ys)]++P) σ H s) (ok:kS Y D P) (z:ys.length<sizeLine)
  (q:∀ s',Inv Y ([(D,lobj (ys++[y]))]++P) σ H s'->Q .none s'):wpAny (model Y.prog Y.w) Y.A (call (.builtin "list.append") [.ref D,y]) Q E s:=by
 obtain⟨pD,nD,neD,nfD,_⟩:=I.pin (D,lobj ys) (by rw [hpn];simp)
 refine append_at (hsz:=by show ys.toArray.size<=sizeLine;rw [List.size_toArray];exact Nat.le_of_lt z) (show s.heap.get? D=some { cls:=.type "list",data:=.seq ys.toArray ys.length } from pD) λh' hsb hD'=>q _ ?_
 have eD:h'.get? D=some (lobj (ys++[y])):=by
  rw [hD']
  unfold lobj
  rw [List.length_append,List.length_singleton,List.push_toArray]
 have J1:Inv Y P σ H s:=I.fS λp hp=>I.pin p (List.mem_append_right _ (List.mem_append_right _ hp))
 have J2:Inv Y P σ H { s with heap:=h' }:=J1.turned (t':=s.toks) (it:=D) (λb o hb e=>hsb.extBut b o hb e) nD neD (.inr ok.new) ok.cell λp hp=>ok.ne p (by rw [hpn] at hp;simpa using hp)
 refine J2.fS λp hp=>?_
 rcases List.mem_append.mp hp with hp | hp
 ·have e:p=(D,lobj (ys++[y])):=by simpa using hp
  subst e
  exact⟨eD,nD,neD,nfD,λv z=>by cases z⟩
 ·exact J2.pin p (List.mem_append_right _ hp)
theorem nJ {Y:Cx} {D:Addr} {ys:List Value} {vys:List V} {P:List (Addr × Obj)} {σ:St} {H:Hp} {s:Shared} {elt:Expr} {te:TE} {N:List V->Hp->Prop} {Ps:Shared->Prop} (hpn:Y.pn=[]) (he:PE Y elt te) (I:Inv Y ([(D,lobj ys)]++P) σ H s) (rv:Vals vys ys) (ok:kS Y D P) (z:vys.length<sizeLine) (q:te σ H λv H4=>N (vys++[v]) H4)
  (k:∀ ys' vys' H' s',Inv Y ([(D,lobj ys')]++P) σ H' s'->Vals vys' ys'->N vys' H'->Ps s'):wpAny (model Y.prog Y.w) Y.A (nI elt (.ref D) Y.env) (λ_ s'=>Ps s') Y.xe s:=by
 unfold nI
 refine wpAny_bind (aQ (he _ s σ H _ I q) λy s9 ⟨vy,H9,I9,r9,q9⟩=>?_)
 exact wpAny_bind (yn hpn I9 ok (by rw [<- rv.length];exact z) λs' I'=>wpAny_pure (k _ _ _ _ I' (rv.append (.cons r9 .nil)) q9))
theorem rT {X:Cx} {Ex:Addr->Shared->Hp->List Addr->Value->Shared->Prop} {elt target iter:Expr} {ifs:List Expr} {scope:Scope} {pos:Pos} {N':List Str} {js:List (Option Nat)} {cl:List (Str × Addr)} {g:TG} {tt:TT} {te:TE} (hcalm:X.calm=true)
  (K:d7 X N' js scope cl)
  (hg:∀ C s₂ H₂ fp,gH X C s₂ H₂ fp->PG (bh X (Ex C s₂ H₂ fp) N' scope cl C s₂ H₂ fp) target g) (ht:∀ C s₂ H₂ fp,gH X C s₂ H₂ fp->jO (bh X (Ex C s₂ H₂ fp) N' scope cl C s₂ H₂ fp) ifs tt) (he:∀ C s₂ H₂ fp,gH X C s₂ H₂ fp->PE (bh X (Ex C s₂ H₂ fp) N' scope cl C s₂ H₂ fp) elt te)
  (herr:∀ C s₂ H₂ fp use Q' acc e s',Ex C s₂ H₂ fp e s'->notedBy (model X.prog X.w) X.A (compEnvC scope (cellsFrom (C+1) scope.names cl) C X.env) (λe s''=>compPost (model X.prog X.w) X.A X.xe use Q' acc C (.error e) s'') e s')
  {pins:List (Addr × Obj)} {σ:St} {Q:VK} {use:Option (Value->Sem Unit)} {Q':Value->Shared->Prop} {itv:Value} {s2:Shared}
  (h2:Dy X pins σ target (λJ H1=>∃ W:Nat->Nat->List V->Hp->Prop,(∃ m,W 0 m [] H1)/\∀ i m ys H,W i m ys H ->
 (J.stop i H/\ys.length<=sizeLine/\∀ p,H p=none->Q (.ref p) (upd H p (.lst ys))) ∨
 (J.go i H/\ys.length<sizeLine/\∃ N:List V->Hp->Prop,(∀ ys' H',N ys' H'->∃ m',m'<m/\W (i+1) m' ys' H') /\
  ∀ x H',J.yld i H x H'->g x (cS js σ) H' λσ2 H2=>bf (cS js σ) σ2/\tt σ2 H2 λb H3=>if b=true then te σ2 H3 λv H4=>N (ys++[v]) H4 else N ys H3)) itv s2)
  (hok:∀ C D vys H4 s5,(∃ m,s5.heap.Ns C m)->s2.heap.objs.size<=D->D<=C->D≠C->H4 D=none->H4 C=none->(∀ h',Heap.SameBut C s5.heap h'->Inv X pins σ (upd H4 D (.lst vys)) { s5 with heap:=h' })->Q (.ref D) (upd H4 D (.lst vys))->compPost (model X.prog X.w) X.A X.xe use Q' (.ref D) C (.ok .next) s5) :
  wpAny (model X.prog X.w) X.A (newList []) (λacc s₃=>wpAny (model X.prog X.w) X.A (newFunctionEnv scope X.env.globals cl [] X.env.qual none .none (some X.env)) (λcenv s₄ =>
   codeAny (model X.prog X.w) X.A (.compStart (.ListComp elt [⟨target,iter,ifs,0⟩] scope pos) 0 itv acc { cenv with scope:=relabel scope X.env }) (compPost (model X.prog X.w) X.A X.xe use Q' acc cenv.locals) s₄) X.xe s₃) X.xe s2 :=
 vS (Bd:=λEx acc env Ps s=>wpAny (model X.prog X.w) X.A (nI elt acc env) (λ_ s'=>Ps s') Ex s) (Cc:=λys=>ys.length<sizeLine) (tb:=λys σ2 H3 N=>te σ2 H3 λv H4=>N (ys++[v]) H4) hcalm
  (λ_ _ _ it acc env I turn n h hE=>gM I (xX elt target iter ifs scope pos it acc env) turn n h hE) K hg ht
  (λC s₂ H₂ fp lc D ys vys P σ H s N Ps I rv ok z q k=>nJ rfl (he C s₂ H₂ fp lc) I rv ok z q k) herr h2 hok
theorem gf {X:Cx} {elt target iter:Expr} {ifs:List Expr} {scope:Scope} {pos:Pos} {N':List Str} {js:List (Option Nat)} {cl:List (Str × Addr)} {wi:TI} {g:TG} {tt:TT} {te:TE} (hcalm:X.calm=true)
  (K:d7 X N' js scope cl) (hi:PI X target iter wi)
  (hg:∀ C s₂ H₂ fp,PG (cG X N' scope cl C s₂ H₂ fp) target g) (ht:∀ C s₂ H₂ fp,jO (cG X N' scope cl C s₂ H₂ fp) ifs tt) (he:∀ C s₂ H₂ fp,PE (cG X N' scope cl C s₂ H₂ fp) elt te)
  (hs:∀ x,foldedSetIterable iter X.env x=pure x:=by intro _;rfl):PE X (.ListComp elt [⟨target,iter,ifs,0⟩] scope pos) (Dd js wi g tt te):=by
 intro pins s σ H Q I h
 rw [eval_ListComp]
 refine wpAny_comprehension_free (use:=none) rfl hs K.clos K.kind K.names (aQ (hi pins s σ H _ I h) λv s1 h1=>aQ h1 λitv s2 h2=>?_)
 exact rT (Ex:=λ_ _ _ _ _ _=>False) hcalm K (λC s H f _=>hg C s H f) (λC s H f _=>ht C s H f) (λC s H f _=>he C s H f) (λ_ _ _ _ _ _ _ _ _ z=>z.elim) h2 λC D vys H4 s5 ⟨m,hn⟩ _ _ _ _ _ hI q=>⟨m,hn,λh' hsb=>⟨.ref D,_,hI h' hsb,rfl,q⟩⟩
def B7 (wi:TI) (g:TG) (tt:TT) (te:TE) (ys:List V) (σ:St) (H:Hp) (N:List V->Hp->Prop):Prop:=wi σ H λJ H1=>∃ W:Nat->Nat->List V->Hp->Prop,(∃ m,W 0 m ys H1)/\∀ i m zs H,W i m zs H ->
 (J.stop i H/\N zs H) ∨
 (J.go i H/\zs.length<sizeLine/\∃ N2:List V->Hp->Prop,(∀ zs' H',N2 zs' H'->∃ m',m'<m/\W (i+1) m' zs' H') /\
  ∀ x H',J.yld i H x H'->g x σ H' λσ2 H2=>bf σ σ2/\tt σ2 H2 λb H3=>if b=true then te σ2 H3 λv H4=>N2 (zs++[v]) H4 else N2 zs H3)
def De (js:List (Option Nat)) (wi1:TI) (g1:TG) (tt1:TT) (wi2:TI) (g2:TG) (tt2:TT) (te:TE):TE:=λσ H Q=>wi1 σ H λJ H1=>∃ W:Nat->Nat->List V->Hp->Prop,(∃ m,W 0 m [] H1)/\∀ i m ys H,W i m ys H ->
 (J.stop i H/\ys.length<=sizeLine/\∀ p,H p=none->Q (.ref p) (upd H p (.lst ys))) ∨
 (J.go i H/\True/\∃ N:List V->Hp->Prop,(∀ ys' H',N ys' H'->∃ m',m'<m/\W (i+1) m' ys' H') /\
  ∀ x H',J.yld i H x H'->g1 x (cS js σ) H' λσ2 H2=>bf (cS js σ) σ2/\tt1 σ2 H2 λb H3=>if b=true then B7 wi2 g2 tt2 te ys σ2 H3 N else N ys H3)
theorem va {Y:Cx} {D:Addr} {ys:List Value} {vys:List V} {P:List (Addr × Obj)} {σ:St} {H:Hp} {s:Shared} {elt t1 i1 t2 i2:Expr} {f1 f2:List Expr} {scope:Scope} {pos:Pos} {wi:TI} {g:TG} {tt:TT} {te:TE} {N:List V->Hp->Prop} {Ps:Shared->Prop} (hpn:Y.pn=[]) (hcalm:Y.calm=true) (hxe:Y.xe=λ_ _=>False) (hi:PI Y t2 i2 wi) (hg:PG Y t2 g) (ht:jO Y f2 tt) (he:PE Y elt te)
  (I:Inv Y ([(D,lobj ys)]++P) σ H s) (rv:Vals vys ys) (ok:kS Y D P) (q:B7 wi g tt te vys σ H N)
  (k:∀ ys' vys' H' s',Inv Y ([(D,lobj ys')]++P) σ H' s'->Vals vys' ys'->N vys' H'->Ps s') :
  wpAny (model Y.prog Y.w) Y.A (eval i2 Y.env) (λx s₄=>wpAny (model Y.prog Y.w) Y.A (pyIter x) (λit2 s₅=>codeAny (model Y.prog Y.w) Y.A (.compStart (.ListComp elt [⟨t1,i1,f1,0⟩,⟨t2,i2,f2,0⟩] scope pos) 1 it2 (.ref D) Y.env) (λr s₆=>match r with | .ok _=>Ps s₆ | .error _=>False) s₅) Y.xe s₄) Y.xe s:=by
 refine aQ (hi _ s σ H _ I q) λv s1 h1=>aQ h1 λitv s2 h2=>?_
 obtain⟨it,fp,tn,J,H2,e,I2,T,st2,f2',W,⟨m0,w0⟩,turn⟩:=h2
 subst e
 have nDb:∀ b∈fp,D≠b:=λb hb=>(f2' b hb).2.2.2.2.2 (D,lobj ys) (by rw [hpn];simp)
 have stat:∀{ys':List Value} {H':Hp},(∀ b∈fp,H' b=none)->∀ b∈fp,kL Y ([(D,lobj ys')]++P) H' b:=λ{ys' H'} hn b hb=>by
  refine⟨hn b hb,(f2' b hb).2.1,(f2' b hb).2.2.1,(f2' b hb).2.2.2.1,(f2' b hb).2.2.2.2.1,λp hp=>?_⟩
  rw [hpn] at hp
  have hp':p∈[(D,lobj ys')]++P:=by simpa using hp
  rcases List.mem_append.mp hp' with z | z
  ·have e:p=(D,lobj ys'):=by simpa using z
   rw [e];exact nDb b hb
  ·exact (f2' b hb).2.2.2.2.2 p (by rw [hpn];exact List.mem_append_right _ (List.mem_append_right _ z))
 have loop:codeAny (model Y.prog Y.w) Y.A (.compLoop (.ListComp elt [⟨t1,i1,f1,0⟩,⟨t2,i2,f2,0⟩] scope pos) 1 (.ref it) (.ref D) Y.env) (λr s₆=>match r with | .ok _=>Ps s₆ | .error _=>False) s2:=by
  refine gM (Ex:=Y.xe) (λn s'=>∃ i zs vzs H',Inv Y ([(D,lobj zs)]++P) σ H' s'/\tn i s'.heap/\(∀ b∈fp,H' b=none)/\Vals vzs zs/\W i n vzs H') (zZ elt t1 i1 t2 i2 f1 f2 scope pos (.ref it) (.ref D) Y.env) ?_ m0
   ⟨0,ys,vys,H2,I2,st2,λb hb=>(f2' b hb).1,rv,w0⟩ λe s' z=>by rw [hxe] at z;exact z.elim
  rintro n s4 ⟨i,zs,vzs,H4,I4,st4,fr4,rz,w4⟩
  rcases turn i n vzs H4 w4 with⟨stop,qn⟩|⟨go,hz,Nn,hN,step⟩
  ·refine aQ (T.done Y rfl rfl rfl hcalm i _ s4 _ H4 Y.xe I4 (stat fr4) st4 stop) λr s5 ⟨hr,I5⟩=>?_
   subst hr
   exact k zs vzs H4 s5 I5 rz qn
  ·refine aQ (T.item Y rfl rfl rfl hcalm i _ s4 _ H4 Y.xe I4 (stat fr4) st4 go) λr s5 ⟨u,hr,h5⟩=>?_
   subst hr
   refine aQ h5 λ_ s6 ⟨x,H6,I6,r6,y6,st6,fr6⟩=>?_
   have I6':=I6.pinned (stat fr6) (T.obj _ _ st6)
   refine aQ (hg _ s6 _ H6 x u _ I6' r6 (step x H6 y6)) λ_ s7 ⟨σ7,H7,I7,k7,q7⟩=>?_
   refine aQ (ht _ s7 σ7 H7 _ I7 q7) λb s8 ⟨H8,I8,q8⟩=>?_
   have again:∀{zs':List Value} {s9:Shared} {H9:Hp},Inv Y (([(D,lobj zs')]++P)++fu fp s6.heap) σ7 H9 s9->Inv Y ([(D,lobj zs')]++P) σ H9 s9/\tn (i+1) s9.heap/\∀ b∈fp,H9 b=none:=λ{zs' s9 H9} I9=>by
    refine⟨(I9.fM).weak k7.len k7.get,T.keep _ _ _ st6 λb hb o e=>(I9.pin (b,o) (List.mem_append_right _ (List.mem_append_right _ (cT hb e)))).1,λb hb=>?_⟩
    obtain⟨o,e,d⟩:=T.obj _ _ st6 b hb
    exact (I9.pin (b,o) (List.mem_append_right _ (List.mem_append_right _ (cT hb e)))).2.1
   cases b with
   | false =>
    rw [if_neg Bool.false_ne_true] at q8 ⊢
    obtain⟨m',hm,w8⟩:=hN _ _ q8
    obtain⟨J8,t8,f8⟩:=again I8
    exact⟨m',hm,i+1,zs,vzs,H8,J8,t8,f8,rz,w8⟩
   | true =>
    rw [if_pos rfl] at q8 ⊢
    have aok:kS Y D (P++fu fp s6.heap):=⟨λp hp z=>by
     rcases List.mem_append.mp hp with h | h
     ·exact ok.ne p h z
     ·exact nDb p.1 (iR h).1 z.symm,ok.new,ok.cell⟩
    rw [List.append_assoc] at I8
    refine nJ hpn he I8 rz aok hz q8 λys' vys' H9 s9 I9 rv' q9=>?_
    rw [<- List.append_assoc] at I9
    obtain⟨J9,t9,f9⟩:=again I9
    obtain⟨m',hm,w9⟩:=hN _ _ q9
    exact⟨m',hm,i+1,ys',vys',H9,J9,t9,f9,rv',w9⟩
 exact xJ loop (T.self _ 0 _ _ _ st2 loop)
theorem BE {X:Cx} {elt t1 i1 t2 i2:Expr} {f1 f2:List Expr} {scope:Scope} {pos:Pos} {N':List Str} {js:List (Option Nat)} {cl:List (Str × Addr)} {wi1 wi2:TI} {g1 g2:TG} {tt1 tt2:TT} {te:TE} (hcalm:X.calm=true)
  (K:d7 X N' js scope cl) (hi:PI X t1 i1 wi1)
  (hg:∀ C s₂ H₂ fp,PG (cG X N' scope cl C s₂ H₂ fp) t1 g1) (ht:∀ C s₂ H₂ fp,jO (cG X N' scope cl C s₂ H₂ fp) f1 tt1)
  (hi2:∀ C s₂ H₂ fp,PI (cG X N' scope cl C s₂ H₂ fp) t2 i2 wi2) (hg2:∀ C s₂ H₂ fp,PG (cG X N' scope cl C s₂ H₂ fp) t2 g2) (ht2:∀ C s₂ H₂ fp,jO (cG X N' scope cl C s₂ H₂ fp) f2 tt2) (he:∀ C s₂ H₂ fp,PE (cG X N' scope cl C s₂ H₂ fp) elt te)
  (hs:∀ x,foldedSetIterable i1 X.env x=pure x:=by intro _;rfl) (hs2:∀ env x,foldedSetIterable i2 env x=pure x:=by intro _ _;rfl) :
  PE X (.ListComp elt [⟨t1,i1,f1,0⟩,⟨t2,i2,f2,0⟩] scope pos) (De js wi1 g1 tt1 wi2 g2 tt2 te):=by
 intro pins s σ H Q I h
 rw [eval_ListComp]
 refine wpAny_comprehension_free (use:=none) rfl hs K.clos K.kind K.names (aQ (hi pins s σ H _ I h) λv s1 h1=>aQ h1 λitv s2 h2=>?_)
 refine vS (Ex:=λ_ _ _ _ _ _=>False) (Bd:=λEx acc env Ps s=>wpAny (model X.prog X.w) X.A (eval i2 env) (λx s₄=>wpAny (model X.prog X.w) X.A (pyIter x) (λit2 s₅=>codeAny (model X.prog X.w) X.A (.compStart (.ListComp elt [⟨t1,i1,f1,0⟩,⟨t2,i2,f2,0⟩] scope pos) 1 it2 acc env) (λr s₆=>match r with | .ok _=>Ps s₆ | .error _=>False) s₅) Ex s₄) Ex s) (Cc:=λ_=>True) (tb:=B7 wi2 g2 tt2 te) hcalm
  (λ_ _ _ it acc env I turn n h hE=>mj I (hs2 env) turn n h hE) K (λC s H f _=>hg C s H f) (λC s H f _=>ht C s H f)
  (λC s₂ H₂ fp lc D ys vys P σ H s N Ps I rv ok z q k=>va (Y:=cG X N' scope cl C s₂ H₂ fp) rfl hcalm rfl (hi2 C s₂ H₂ fp) (hg2 C s₂ H₂ fp) (ht2 C s₂ H₂ fp) (he C s₂ H₂ fp) I rv ok q k) (λ_ _ _ _ _ _ _ _ _ z=>z.elim) h2 λC D vys H4 s5 ⟨m,hn⟩ _ _ _ _ _ hI q=>⟨m,hn,λh' hsb=>⟨.ref D,_,hI h' hsb,rfl,q⟩⟩
def Bd (i:Int):Prop:=i.natAbs<2^4000
theorem u7:(10:Nat)^250<=2^4000:=by decide +kernel
theorem Bd.of {i:Int} (h1:-(10^250)<i) (h2:i<10^250):Bd i:=by
 refine Nat.lt_of_lt_of_le ?_ u7
 have:((10:Nat)^250:Nat)=((10:Int)^250).toNat:=by decide +kernel
 rw [this]
 omega
theorem Bd.mono {i j:Int} (h:Bd j) (h':i.natAbs<=j.natAbs):Bd i:=Nat.lt_of_le_of_lt h' h
theorem Bd.bits {i:Int} (h:Bd i):Builtin.Int.intBits i<=2^20 :=
 Nat.le_trans (intBits_le h) (by decide)
theorem Bd.En {i j:Int} (h:Bd j):Builtin.divisionGoesByPylong i j=false:=by
 refine PyProof.noPylong_of_log2 ?_
 by_cases z:j.natAbs=0
 ·rw [z];decide
 ·exact Nat.lt_of_lt_of_le ((Nat.log2_lt z).mpr h) (by decide)
section
variable {X:Cx}
theorem aI:gI X (binaryOp .Mult) (rI (λi j=>Bd i/\Bd j) λi j=>.int (i*j)):=Cd λ_ _ _ _ _ _ _ hc q=>mul_int q (IntMulOk.of_bits hc.1.bits hc.2.bits)
theorem cp:gI X (binaryOp .FloorDiv) (rI (λ_ j=>0<j/\Bd j) λi j=>.int (i/j)):=Cd λi j _ _ _ _ _ hc q=>by
 have h1:(0:Int)<j:=hc.1
 exact floordiv_int (by omega) (by rw [Int.fdiv_eq_ediv_of_nonneg i (by omega)];exact q) (.inl hc.2.En)
theorem om:gI X (inplaceOp .FloorDiv) (rI (λ_ j=>0<j/\Bd j) λi j=>.int (i/j)):=Cd λi j _ _ _ _ _ hc q=>by
 have h1:(0:Int)<j:=hc.1
 exact ifloordiv_int (by omega) (by rw [Int.fdiv_eq_ediv_of_nonneg i (by omega)];exact q) (.inl hc.2.En)
theorem oo:gI X (inplaceOp .Mult) (rI (λi j=>Bd i/\Bd j) λi j=>.int (i*j)):=Cd λ_ _ _ _ _ _ _ hc q=>imul_int q (IntMulOk.of_bits hc.1.bits hc.2.bits)
theorem jW {op:Operator} {r:R2} (ho:gI X (inplaceOp op) r):Ek X op r:=λpins s σ H x y v u Q I r1 r2 h=>ho pins s σ H x y v u Q I r1 r2 h
def AJ (i j k:Nat) (ta:TA):TS:=λD σ H=>ta σ H λvs H1=>∃ v w u,vs=[v,w,u]/\D.nx (((σ.set i (some v)).set j (some w)).set k (some u)) H1
theorem sj {i j k:Nat} {x y z:Str} {a b c:Expr} {ta:TA} {px py pz pt pos:Pos} {kt k2 pt2} (hc:X.calm=true) (hN:X.N.Nodup) (hi:X.N[i]?=some x) (hj:X.N[j]?=some y) (hk:X.N[k]?=some z) (hij:i≠j) (hik:i≠k) (hjk:j≠k)
  (hx:X.env.scope.names.lookup x=some .local) (hy:X.env.scope.names.lookup y=some .local) (hz:X.env.scope.names.lookup z=some .local) (ha:PA X [a,b,c] ta)
  (hw:swappedStores [.Tuple [.Name x px,.Name y py,.Name z pz] kt pt] (.Tuple [a,b,c] k2 pt2) X.env=pure (some [x,y,z]))
  (hs:swapsWithSole [.Tuple [.Name x px,.Name y py,.Name z pz] kt pt] (.Tuple [a,b,c] k2 pt2) pos.line X.env=pure false:=by rfl) :
  PS X (.Assign [.Tuple [.Name x px,.Name y py,.Name z pz] kt pt] (.Tuple [a,b,c] k2 pt2) pos) (AJ i j k ta):=by
 intro pins s σ H D I h
 rw [exec_Assign_arm]
 refine wpAny_bind (wpAny_standAt ?_)
 rw [hs]
 refine wpAny_bind (wpAny_pure ?_)
 rw [if_neg (by decide)]
 refine wpAny_bind (Tuple_ (aQ (ha _ pins s σ H _ I h) λus s1 ⟨vs,H1,I1,r1,q1⟩=>?_))
 obtain⟨v,w,u,e1,q1⟩:=q1
 subst e1
 obtain⟨u1,u2,u3,rfl,rv,rw',ru⟩:∃ u1 u2 u3,us=[u1,u2,u3]/\RelV v u1/\RelV w u2/\RelV u u3:=by
  cases r1 with
  | cons p q =>
   cases q with
   | cons p' q' =>
    cases q' with
    | cons p'' q'' =>
     cases q''
     exact⟨_,_,_,rfl,p,p',p''⟩
 refine wpAny_newObj_type ?_ (by show 3<=sizeLine;decide)
 have I2:Inv X pins σ H1 { s1 with heap:=s1.heap.push { cls:=.type "tuple",data:=.seq [u1,u2,u3].toArray } }:=I1.kept (t':=s1.toks) λb o e=>Heap.get?_push_of_some _ e
 rw [hw]
 refine wpAny_bind (wpAny_pure ?_)
 show wpAny (model X.prog X.w) X.A (do rule "assign.swapped-stores";let items <- unpackItems (.ref s1.heap.objs.size) 3 none;assignInOrder [λv=>bindName X.env z v,λv=>bindName X.env y v,λv=>bindName X.env x v] items.reverse;pure Flow.next) _ _ _
 refine wpAny_bind (wpAny_rule (wpAny_bind (unpackItems_tuple (items:=#[u1,u2,u3]) (I.ok.hd hc) (IsTup.new s1.heap _) λh' hx'=>?_)))
 have I3:=I2.kept (h':=h') (t':=s1.toks) λb o e=>hx' b o (Nat.ne_of_lt (Heap.lt_size e)) e
 show wpAny _ _ (assignInOrder [λv=>bindName X.env z v,λv=>bindName X.env y v,λv=>bindName X.env x v] [u3,u2,u1] >>= λ_=>pure Flow.next) _ _ _
 refine wpAny_bind (assignInOrder_cons (wpAny_bindName (cf I3 hN hk (.inl hz) ru (λs2 I4=>?_) (.inr hz))))
 refine assignInOrder_cons (wpAny_bindName (cf I4 hN hj (.inl hy) rw' (λs3 I5=>?_) (.inr hy)))
 refine assignInOrder_cons (wpAny_bindName (cf I5 hN hi (.inl hx) rv (λs4 I6=>assignInOrder_nil (wpAny_pure ?_)) (.inr hx)))
 have e:((σ.set k (some u)).set j (some w)).set i (some v)=((σ.set i (some v)).set j (some w)).set k (some u):=by
  rw [List.set_comm _ _ (Ne.symm hij),List.set_comm _ _ (Ne.symm hik),List.set_comm _ _ (Ne.symm hjk)]
 rw [e] at I6
 exact⟨_,H1,I6,q1⟩
def DQ:V->Option Value
 | .ty n=>some (.type n)
 | .ref a=>some (.ref a)
 | _=>none
def CY (K:PySem.W.Frag):List V->Hp->VK->Prop:=λxs H Q=>∃ x c t cv b,xs=[x,c]/\DQ c=some cv/\eU K H x t/\PySem.W.kitOne K t cv=some b/\Q (.bl b) H
theorem nL:cL X (.builtin "isinstance") (CY X.K):=by
 intro pins s σ H xs us Q I r h
 obtain⟨x,c,t,cv,b,rfl,ec,ty,ek,q⟩:=h
 obtain⟨u,w',rfl,rx,rc⟩:=vals2 r
 have e:w'=cv:=by
  cases c with
  | ty n=>cases ec;exact rc
  | ref a=>cases ec;exact rc
  | _=>cases ec
 subst e
 exact dW I rx ty ek λtk=>⟨.bl b,H,I.tok _,rfl,q⟩
end
def ay (K:PySem.W.Frag) (mg:Str->Option Value) (x:Str) (st:Stmt):Prop:=∃ f fd,uS K x x st f fd/\mg x=some (.ref f)
structure Callee (P:Program) (w:World) (K:PySem.W.Frag) (mg:Str->Option Value) (base:Heap) (CX:jq) (k:Nat) (x:Str) (ps:List Str) (sp:Sp):Prop where
 ex:∃ f fd,cq P w K mg base CX k f fd ps sp/\mg x=some (.ref f)/\PySem.W.keepIn K (.ref f)=true/\Binds K fd ps []
section
variable {P:Program} {w:World} {K:PySem.W.Frag} {mg:Str->Option Value} {base:Heap} {CX:jq} {k:Nat} {x:Str} {ps:List Str} {sp:Sp}
theorem Callee.imp {sp':Sp} (C:Callee P w K mg base CX k x ps sp) (h:∀ vs H Q E,sp' vs H Q E->sp vs H Q E):Callee P w K mg base CX k x ps sp':=by
 obtain⟨f,fd,F,a,b,c⟩:=C.ex
 exact⟨f,fd,F.imp h,a,b,c⟩
theorem Callee.mono {j:Nat} (C:Callee P w K mg base CX k x ps sp) (h:k<=j):Callee P w K mg base CX j x ps sp:=by
 obtain⟨f,fd,F,a,b,c⟩:=C.ex
 exact⟨f,fd,F.mono h,a,b,c⟩
theorem bN {X:Cx} {E:XK} {e:Expr} {es:List Expr} {t:TA} {p pos:Pos} (C:Callee X.prog X.w X.K X.mg X.base CX k x ps sp) (hr:bF k X.A) (hg:Gl X x) (hx:Passes CX X E)
  (ha:PA X (e::es) t) (hdb:(x==("__debug__":Str))=false:=by decide) (he:starEach (e::es) X.env=(false,eval e X.env)::starEach es X.env:=by rfl) (hpl:(backTo pos (starEach es X.env)).any (·.1)=false:=by rfl) :
  PE X (.Call (.Name x p) (e::es) [] pos) (sO sp [] E t):=by
 obtain⟨f,fd,F,hm,hk,hb⟩:=C.ex
 exact zz F hr hg hm hk hb .nil hx ha hdb he hpl
theorem tF {st:Stmt} {N:List Str} (D:ay K mg x st)
  (hb:∀(kV doc pm:Value) (an:Option Addr) (cdv ct:Value) (us:List Value),us.length=ps.length->bindArgs (PySem.W.fnOf x x (aR st) (aH st) (aj st) .none kV doc pm an cdv ct) ⟨us,[]⟩=pure (ps.zip us))
  (S:av N ps (aj st)) (len:∀ vs H Q E,sp vs H Q E->vs.length=ps.length)
  (hbody:∀(f:Addr) (cdv:Value) (A:Around) (outer:List Env) (s:Shared) (H:Hp) (vs:List V) (Q:VK) (E:XK),bF k (A.deeper (envOfC x (aj st) s.heap.objs.size f cdv))->sp vs H Q E ->
   ∃ t,iD (cQ aO P w K mg base N x (aj st) f cdv A outer s H E).lL (aH st) t/\t { nx:=λ_ H'=>Q .non H',rt:=Q } (start N vs) H):Callee P w K mg base aO (k+1) x ps sp:=by
 obtain⟨f,fd,F,hm⟩:=D
 exact⟨f,fd,F.ok S len λcdv A outer s H vs Q E hr h=>hbody f cdv A outer s H vs Q E hr h,hm,F.kp,F.binds hb⟩
theorem vj {h:Heap} {f:Addr} {st:Stmt} {oc:Value} {od an:Option Addr} {osl:Array (Option Value)} {kV doc pm cdv ct:Value} (X:K.In h) (G:h.Ns mainGlobals mg)
  (a:PySem.W.nsIn K mainGlobals x=some (some (.ref f))) (l:K.lookup f=some ⟨oc,od,.func (PySem.W.fnOf x x (aR st) (aH st) (aj st) .none kV doc pm an cdv ct),osl⟩)
  (c:PySem.W.codeIn K cdv x=true) (kk:PySem.W.keepIn K (.ref f)=true):ay K mg x st:=⟨f,_,qE l c kk,PySem.W.mg_of X G a⟩
end
def iG (cl:List (Str × Addr)):List (Str × NameKind)->Prop
 | []=>True
 | y::r=>(match y.2 with | .free=>(cl.lookup y.1).isSome=true | _=>True)/\iG cl r
theorem iG.get {cl:List (Str × Addr)}:∀{l:List (Str × NameKind)},iG cl l->∀ y∈l,y.2=.free->(cl.lookup y.1).isSome=true
 | [],_,_,h,_=>nomatch h
 | z::r,a,y,h,e=>by
  rcases List.mem_cons.mp h with q | q
  ·subst q
   have:=a.1
   rw [e] at this
   exact this
  ·exact iG.get a.2 y q e
def gG (X:Cx) (scope:Scope) (cl:List (Str × Addr)):List (Option Nat)->List Str->Prop
 | none::r,_::n=>gG X scope cl r n
 | some j::r,x::n=>(X.N[j]?=some x/\(cl.lookup x).isSome=true/\(X.env.scope.names.lookup x=some .cell∨X.env.scope.names.lookup x=some .free)/\((relabel scope X.env).names.lookup x=some .cell∨(relabel scope X.env).names.lookup x=some .free))/\gG X scope cl r n
 | [],[]=>True
 | _,_=>False
theorem gG.len {X:Cx} {scope:Scope} {cl:List (Str × Addr)}:∀{js:List (Option Nat)} {N:List Str},gG X scope cl js N->js.length=N.length
 | [],[],_=>rfl
 | none::r,_::n,h=>by
  have h':gG X scope cl r n:=h
  simp [gG.len h']
 | some j::r,x::n,h=>by
  have h':gG X scope cl r n:=h.2
  simp [gG.len h']
 | [],_::_,h=>h.elim
 | none::_,[],h=>h.elim
 | some _::_,[],h=>h.elim
theorem gG.get {X:Cx} {scope:Scope} {cl:List (Str × Addr)}:∀{js:List (Option Nat)} {N:List Str},gG X scope cl js N->∀(i j:Nat) x,js[i]?=some (some j)->N[i]?=some x ->
  X.N[j]?=some x/\(cl.lookup x).isSome=true/\B9 X.env.scope x/\X.env.kindOf x≠some .local/\((relabel scope X.env).names.lookup x=some .cell∨(relabel scope X.env).names.lookup x=some .free)
 | [],[],_,i,j,x,e,_=>by simp at e
 | none::r,y::n,h,0,j,x,e,_=>by simp at e
 | none::r,y::n,h,i+1,j,x,e,e2=>gG.get (js:=r) (N:=n) h i j x (by simpa using e) (by simpa using e2)
 | some k::r,y::n,h,0,j,x,e,e2=>by
  have q:k=j:=by simpa using e
  have q2:y=x:=by simpa using e2
  subst q;subst q2
  obtain⟨a,b,c,d⟩:=h.1
  refine⟨a,b,?_,?_,d⟩
  ·rcases c with c | c
   ·exact .inr (.inl c)
   ·exact .inr (.inr c)
  ·intro z
   have z':X.env.scope.names.lookup y=some .local:=z
   rcases c with c | c
   ·rw [c] at z';cases z'
   ·rw [c] at z';cases z'
 | some k::r,y::n,h,i+1,j,x,e,e2=>gG.get (js:=r) (N:=n) h.2 i j x (by simpa using e) (by simpa using e2)
 | [],_::_,h,_,_,_,_,_=>h.elim
 | none::_,[],h,_,_,_,_,_=>h.elim
 | some _::_,[],h,_,_,_,_,_=>h.elim
theorem Bc {X:Cx} {N':List Str} {js:List (Option Nat)} {scope:Scope} {cl:List (Str × Addr)} (clos:closureFor scope X.env=pure cl) (kind:scope.kind=.function) (nocell:∀ y∈scope.names,y.2=.cell->scope.names.lookup y.1=some .cell/\∀ p∈js.zip N',p.1.isSome=true->p.2≠y.1)
  (names:∀ y∈scope.names,y.2=.local->scope.names.lookup y.1=some .local) (sub:AllIn X.env cl) (has:iG cl scope.names) (j:gG X scope cl js N'):d7 X N' js scope cl :=
 ⟨clos,kind,nocell,names,sub,has.get,j.len,j.get⟩
theorem boot_int:bootBuiltins "int"=some (.type "int"):=by decide +kernel
theorem boot_bool:bootBuiltins "bool"=some (.type "bool"):=by decide +kernel
theorem boot_tuple:bootBuiltins "tuple"=some (.type "tuple"):=by decide +kernel
theorem boot_list:bootBuiltins "list"=some (.type "list"):=by decide +kernel
theorem boot_abs:bootBuiltins "abs"=some (.builtin "abs"):=by decide +kernel
theorem boot_max:bootBuiltins "max"=some (.builtin "max"):=by decide +kernel
theorem boot_min:bootBuiltins "min"=some (.builtin "min"):=by decide +kernel
theorem oq {K:PySem.W.Frag}:PySem.W.kitOne K (.type "int") (.type "int")=some true:=rfl
theorem mG {K:PySem.W.Frag}:PySem.W.kitOne K (.type "int") (.type "bool")=some false:=by with_unfolding_all rfl
theorem ai {H:Hp} {p:Addr} {o:HO} (h:H p=none):ax H (upd H p o):=λb u q=>by rw [ao (aW q h)];exact q
theorem bQ {α:Type} {c:TT} {tb:TS} {D:Ends} {σ:St} {H:Hp} (S:α->St) (Pv:α->Hp->Prop) (μ:α->Nat) (x₀:α) (hσ:σ=S x₀) (h0:Pv x₀ H)
  (hs:∀ x H,Pv x H->c (S x) H λb H1=>if b=true then (∃ N:St->Hp->Prop,(∀ σ' H',N σ' H'->∃ y,σ'=S y/\Pv y H'/\μ y<μ x)/\tb { D with nx:=N,ct:=N,bk:=D.nx } (S x) H1) else D.nx (S x) H1):xS c tb D σ H:=by
 subst hσ
 refine⟨λm σ H=>∃ x,σ=S x/\Pv x H/\m=μ x,⟨_,x₀,rfl,h0,rfl⟩,?_⟩
 rintro m σ H ⟨x,rfl,p,rfl⟩
 have q:=hs x H p
 have e:(λb H1=>if b=true then (∃ N:St->Hp->Prop,(∀ σ' H',N σ' H'->∃ y,σ'=S y/\Pv y H'/\μ y<μ x)/\tb { D with nx:=N,ct:=N,bk:=D.nx } (S x) H1) else D.nx (S x) H1) =
   (λb H1=>if b=true then (∃ N:St->Hp->Prop,(∀ σ' H',N σ' H'->∃ m',m'<μ x/\∃ y,σ'=S y/\Pv y H'/\m'=μ y)/\tb { D with nx:=N,ct:=N,bk:=D.nx } (S x) H1) else D.nx (S x) H1):=by
  funext b H1
  cases b with
  | false=>rfl
  | true =>
   simp only [if_true]
   refine propext ⟨fun⟨N,hN,z⟩=>⟨N,λσ' H' n=>?_,z⟩,fun⟨N,hN,z⟩=>⟨N,λσ' H' n=>?_,z⟩⟩
   ·obtain⟨y,e1,e2,e3⟩:=hN σ' H' n
    exact⟨_,e3,y,e1,e2,rfl⟩
   ·obtain⟨m',l,y,e1,e2,e3⟩:=hN σ' H' n
    exact⟨y,e1,e2,e3▸l⟩
 rw [e] at q
 exact q
end L2
namespace Gcd
structure J (A B g u v ng nu nv:Int):Prop where
 g0:0<=g
 n0:0<=ng
 e1:u*A+v*B=g
 e2:nu*A+nv*B=ng
 ex:∃ s U NU V NV:Int,(s=1∨s = -1)/\0<=U/\0<=NU/\0<=V/\0<=NV/\u=s*U/\nu = -s*NU/\v = -s*V/\nv=s*NV/\g*NU+ng*U=B/\g*NV+ng*V=A /\
  (U<=1∨U<=B)/\(NU<=1∨NU<=B)/\(V<=1∨V<=A)/\(NV<=1∨NV<=A)
theorem J.start {A B:Int} (ha:0<=A) (hb:0<=B):J A B A 1 0 B 0 1 :=
 ⟨ha,hb,by grind,by grind,1,1,0,0,1,.inl rfl,by decide,by decide,by decide,by decide,by grind,by grind,by grind,by grind,by grind,by grind,.inl (by decide),.inl (by decide),.inl (by decide),.inl (by decide)⟩
theorem lG {n x B:Int} (hn:0<n) (hx:0<=x) (h:n*x<=B):x<=B:=by
 have:1*x<=n*x:=Int.mul_le_mul_of_nonneg_right hn hx
 omega
theorem J.turn {A B g u v ng nu nv:Int} (j:J A B g u v ng nu nv) (hn:0<ng) :
  J A B ng nu nv (g-g/ng*ng) (u-g/ng*nu) (v-g/ng*nv)/\(g-g/ng*ng)<ng/\0<=g/ng/\g/ng<=g:=by
 have q0:0<=g/ng:=Int.ediv_nonneg j.g0 j.n0
 have r:=Int.emod_def g ng
 have r0:=Int.emod_nonneg g (show ng≠0 by omega)
 have r1:=Int.emod_lt_of_pos g hn
 have ql:g/ng<=g:=Int.ediv_le_self ng j.g0
 have e1:=j.e1
 have e2:=j.e2
 have hc:g/ng*ng=ng*(g/ng):=Int.mul_comm _ _
 generalize g/ng=q at *
 obtain⟨s,U,NU,V,NV,hs,hU,hNU,hV,hNV,eu,enu,ev,env,b1,b2,l1,l2,l3,l4⟩:=j.ex
 have hqNU:0<=q*NU:=Int.mul_nonneg q0 hNU
 have hqNV:0<=q*NV:=Int.mul_nonneg q0 hNV
 have rr:0<=g-q*ng:=by omega
 have i1:ng*(U+q*NU)+(g-q*ng)*NU=B:=by grind
 have i2:ng*(V+q*NV)+(g-q*ng)*NV=A:=by grind
 have n1:0<=(g-q*ng)*NU:=Int.mul_nonneg rr hNU
 have n2:0<=(g-q*ng)*NV:=Int.mul_nonneg rr hNV
 refine⟨⟨j.n0,rr,e2,by grind,-s,NU,U+q*NU,NV,V+q*NV,by omega,hNU,by omega,hNV,by omega,by grind,by grind,by grind,by grind,i1,i2,l2,.inr (lG hn (by omega) (by omega)),l4,.inr (lG hn (by omega) (by omega))⟩,by omega,q0,ql⟩
structure Cf (a b g u v:Int):Prop where
 g0:0<=g
 lin:u*a+v*b=g
 da:g∣a
 db:g∣b
 bu:u.natAbs<=max 1 b.natAbs
 bv:v.natAbs<=max 1 a.natAbs
theorem J.done {a b g u v nu nv:Int} (j:J (if a<0 then -a else a) (if b<0 then -b else b) g u v 0 nu nv):Cf a b g (if a<0 then -u else u) (if b<0 then -v else v):=by
 have e1:=j.e1
 obtain⟨s,U,NU,V,NV,hs,hU,hNU,hV,hNV,eu,enu,ev,env,b1,b2,l1,l2,l3,l4⟩:=j.ex
 have hu:u.natAbs=U.toNat:=by
  rcases hs with rfl | rfl
  ·omega
  ·omega
 have hv:v.natAbs=V.toNat:=by
  rcases hs with rfl | rfl
  ·omega
  ·omega
 refine⟨j.g0,?_,?_,?_,?_,?_⟩
 ·split<;>split<;>rename_i h1 h2<;>simp only [h1,h2,if_true,if_false] at e1<;>grind
 ·have:g∣(if a<0 then -a else a):=⟨NV,by omega⟩
  by_cases h:a<0
  ·rw [if_pos h] at this
   exact Int.dvd_neg.mp this
  ·rw [if_neg h] at this
   exact this
 ·have:g∣(if b<0 then -b else b):=⟨NU,by omega⟩
  by_cases h:b<0
  ·rw [if_pos h] at this
   exact Int.dvd_neg.mp this
  ·rw [if_neg h] at this
   exact this
 ·have:(if a<0 then -u else u).natAbs=u.natAbs:=by split<;>omega
  rw [this,hu]
  split at l1<;>omega
 ·have:(if b<0 then -v else v).natAbs=v.natAbs:=by split<;>omega
  rw [this,hv]
  split at l3<;>omega
theorem J.small {A B g u v ng nu nv M:Int} (j:J A B g u v ng nu nv) (hA:0<=A) (hB:0<=B) (hAM:A<=M) (hBM:B<=M) (hM:1<=M):(-M<=u/\u<=M)/\(-M<=v/\v<=M)/\(-M<=nu/\nu<=M)/\(-M<=nv/\nv<=M):=by
 obtain⟨s,U,NU,V,NV,hs,hU,hNU,hV,hNV,eu,enu,ev,env,b1,b2,l1,l2,l3,l4⟩:=j.ex
 rcases hs with rfl | rfl
 ·refine⟨⟨?_,?_⟩,⟨?_,?_⟩,⟨?_,?_⟩,⟨?_,?_⟩⟩<;>omega
 ·refine⟨⟨?_,?_⟩,⟨?_,?_⟩,⟨?_,?_⟩,⟨?_,?_⟩⟩<;>omega
end Gcd
namespace L2
open PySem PySem.Spec PyProof.Rows
theorem ax.upd {H H1:Hp} {p:Addr} {o:HO} (h:ax H H1) (hp:H p=none):ax H (upd H1 p o):=λb u q=>by rw [ao (aW q hp)];exact h b u q
theorem ax.B1 {H H1:Hp} {p:Addr} {o:HO} (h:ax H H1) (hp:H1 p=none):ax H (L2.upd H1 p o):=h.upd (h.free hp)
theorem A6 {α:Type} {xs:List α} {k:Int} (h0:0<=k) (h1:k<xs.length):∃ v,qc xs k=some v/\xs[k.toNat]?=some v:=by
 have hk:k.toNat<xs.length:=by omega
 refine⟨xs[k.toNat],?_,List.getElem?_eq_getElem hk⟩
 have:=dA (xs:=xs) (j:=k.toNat) (List.getElem?_eq_getElem hk)
 rwa [Int.toNat_of_nonneg h0] at this
theorem jI {K:PySem.W.Frag} {H:Hp} {p:Addr} {xs:List V} {k:Int} {Q:VK} (h:aM K H p xs) (h0:0<=k) (h1:k<xs.length) (q:∀ v∈xs,Q v H):mW K (.ref p) (.int k) H Q:=by
 obtain⟨v,e,e2⟩:=A6 h0 h1
 exact⟨p,xs,k,v,rfl,rfl,h,e,q v (List.mem_of_getElem? e2)⟩
theorem qH {K:PySem.W.Frag} {H:Hp} {p:Addr} {xs:List V} {k:Int} {v:V} {Q:VK} (h:aM K H p xs) (h0:0<=k) (e:xs[k.toNat]?=some v) (q:Q v H):mW K (.ref p) (.int k) H Q:=by
 have:=dA e
 rw [Int.toNat_of_nonneg h0] at this
 exact⟨p,xs,k,v,rfl,rfl,h,this,q⟩
theorem rR {K:PySem.W.Frag} {H:Hp} {i:Int} {n:String} {b:Bool} {Q:VK} (e:PySem.W.kitOne K (.type "int") (.type n)=some b) (q:Q (.bl b) H) :
  CY K [V.int i,V.ty n] H Q:=⟨_,_,_,_,_,rfl,rfl,eU.int i,e,q⟩
def Loop (J:It) (g:TG) (tb:TS) (D:Ends) (σ:St) (H:Hp):Prop:=∃ W:Nat->Nat->St->Hp->Prop,(∃ m,W 0 m σ H)/\∀ i m σ H,W i m σ H ->
 (J.stop i H/\D.nx σ H)∨(J.go i H/\∃ N:St->Hp->Prop,(∀ σ' H',N σ' H'->∃ m',m'<m/\W (i+1) m' σ' H')/\∀ x H',J.yld i H x H'->g x σ H' λσ2 H2=>tb { D with nx:=N,ct:=N,bk:=D.nx } σ2 H2)
theorem zW {wi:TI} {g:TG} {tb:TS} {D:Ends} {σ:St} {H:Hp}:Dc wi g tb D σ H=wi σ H λJ H1=>Loop J g tb D σ H1:=rfl
theorem bB {lo:Int} {n:Nat} {g:TG} {tb:TS} {D:Ends} {σ:St} {H:Hp} (Pv:Nat->St->Hp->Prop) (h0:Pv 0 σ H)
  (hs:∀ i σ H,i<n->Pv i σ H->g (.int (lo+i)) σ H λσ2 H2=>tb { D with nx:=Pv (i+1),ct:=Pv (i+1),bk:=D.nx } σ2 H2) (hd:∀ σ H,Pv n σ H->D.nx σ H):Loop (Aa lo n) g tb D σ H:=tP Pv h0 hs hd
theorem df {K:PySem.W.Frag} {a:Addr} {xs:List V} {g:TG} {tb:TS} {D:Ends} {σ:St} {H:Hp} (Pv:Nat->St->Hp->Prop) (h0:Pv 0 σ H) (hl:∀ i σ H,i<=xs.length->Pv i σ H->aM K H a xs)
  (hs:∀ i x σ H,xs[i]?=some x->Pv i σ H->g x σ H λσ2 H2=>tb { D with nx:=Pv (i+1),ct:=Pv (i+1),bk:=D.nx } σ2 H2) (hd:∀ σ H,Pv xs.length σ H->D.nx σ H):Loop (ye K a) g tb D σ H:=vF Pv h0 hl hs hd
theorem oA {K:PySem.W.Frag} {a:Addr} {xs:List V} {g:TG} {tb:TS} {D:Ends} {σ:St} {H:Hp} (Pv:Nat->St->Hp->Prop) (h0:Pv 0 σ H) (hl:∀ i σ H,i<=xs.length->Pv i σ H->bE K H a xs)
  (hs:∀ i x σ H,xs[i]?=some x->Pv i σ H->g x σ H λσ2 H2=>tb { D with nx:=Pv (i+1),ct:=Pv (i+1),bk:=D.nx } σ2 H2) (hd:∀ σ H,Pv xs.length σ H->D.nx σ H):Loop (AX K a) g tb D σ H:=yG Pv h0 hl hs hd
def rF (J:It) (js:List (Option Nat)) (g:TG) (tt:TT) (te:TE) (σ:St) (Q:VK) (H1:Hp):Prop:=∃ W:Nat->Nat->List V->Hp->Prop,(∃ m,W 0 m [] H1)/\∀ i m ys H,W i m ys H ->
 (J.stop i H/\ys.length<=sizeLine/\∀ p,H p=none->Q (.ref p) (upd H p (.lst ys))) ∨
 (J.go i H/\ys.length<sizeLine/\∃ N:List V->Hp->Prop,(∀ ys' H',N ys' H'->∃ m',m'<m/\W (i+1) m' ys' H') /\
  ∀ x H',J.yld i H x H'->g x (cS js σ) H' λσ2 H2=>bf (cS js σ) σ2/\tt σ2 H2 λb H3=>if b=true then te σ2 H3 λv H4=>N (ys++[v]) H4 else N ys H3)
theorem BU {js:List (Option Nat)} {wi:TI} {g:TG} {tt:TT} {te:TE} {σ:St} {H:Hp} {Q:VK}:Dd js wi g tt te σ H Q=wi σ H λJ H1=>rF J js g tt te σ Q H1:=rfl
theorem bA {K:PySem.W.Frag} {a:Addr} {xs:List V} {js:List (Option Nat)} {g:TG} {tt:TT} {te:TE} {σ:St} {Q:VK} {H1:Hp} (Pv:Nat->List V->Hp->Prop) (h0:Pv 0 [] H1) (hx:xs.length<=sizeLine) (hl:∀ i ys H,i<=xs.length->Pv i ys H->aM K H a xs/\ys.length<=i)
  (hs:∀ i x ys H,xs[i]?=some x->Pv i ys H->g x (cS js σ) H λσ2 H2=>bf (cS js σ) σ2/\tt σ2 H2 λb H3=>if b=true then te σ2 H3 λv H4=>Pv (i+1) (ys++[v]) H4 else Pv (i+1) ys H3)
  (hd:∀ ys H p,Pv xs.length ys H->H p=none->Q (.ref p) (upd H p (.lst ys))):rF (ye K a) js g tt te σ Q H1:=by
 refine⟨λi m ys H=>m=xs.length-i/\i<=xs.length/\Pv i ys H,⟨xs.length,by simp,Nat.zero_le _,h0⟩,?_⟩
 rintro i m ys H ⟨rfl,hi,p⟩
 obtain⟨q,hy⟩:=hl i ys H hi p
 by_cases hlt:i<xs.length
 ·refine .inr ⟨⟨xs,xs[i],q,by simp [hlt]⟩,by omega,Pv (i+1),λys' H' p'=>⟨xs.length-(i+1),by omega,rfl,hlt,p'⟩,λx H' y=>?_⟩
  obtain⟨e,y⟩:=y
  subst e
  exact hs i x ys _ (y xs q) p
 ·have e:i=xs.length:=by omega
  subst e
  exact .inl ⟨⟨xs,q,Nat.le_refl _⟩,by omega,λp' hp'=>hd ys H p' p hp'⟩
theorem fN {K:PySem.W.Frag} {a:Addr} {xs:List V} {js:List (Option Nat)} {g:TG} {tt:TT} {te:TE} {σ:St} {Q:VK} {H1:Hp} (Pv:Nat->List V->Hp->Prop) (h0:Pv 0 [] H1) (hx:xs.length<=sizeLine) (hl:∀ i ys H,i<=xs.length->Pv i ys H->bE K H a xs/\ys.length<=i)
  (hs:∀ i x ys H,xs[i]?=some x->Pv i ys H->g x (cS js σ) H λσ2 H2=>bf (cS js σ) σ2/\tt σ2 H2 λb H3=>if b=true then te σ2 H3 λv H4=>Pv (i+1) (ys++[v]) H4 else Pv (i+1) ys H3)
  (hd:∀ ys H p,Pv xs.length ys H->H p=none->Q (.ref p) (upd H p (.lst ys))):rF (AX K a) js g tt te σ Q H1:=by
 refine⟨λi m ys H=>m=xs.length-i/\i<=xs.length/\Pv i ys H,⟨xs.length,by simp,Nat.zero_le _,h0⟩,?_⟩
 rintro i m ys H ⟨rfl,hi,p⟩
 obtain⟨q,hy⟩:=hl i ys H hi p
 by_cases hlt:i<xs.length
 ·refine .inr ⟨⟨xs,xs[i],q,by simp [hlt]⟩,by omega,Pv (i+1),λys' H' p'=>⟨xs.length-(i+1),by omega,rfl,hlt,p'⟩,λx H' y=>?_⟩
  obtain⟨e,y⟩:=y
  subst e
  exact hs i x ys _ (y xs q) p
 ·have e:i=xs.length:=by omega
  subst e
  exact .inl ⟨⟨xs,q,Nat.le_refl _⟩,by omega,λp' hp'=>hd ys H p' p hp'⟩
theorem ER {CX:jq} {P:Program} {w:World} {K:PySem.W.Frag} {mg:Str->Option Value} {base:Heap} {N:List Str} {qual:Str} {scope:Scope} {f:Addr} {cd:Value} {A:Around} {outer:List Env} {s:Shared} {H:Hp} {E:XK} :
  (cQ CX P w K mg base N qual scope f cd A outer s H E).K=K:=rfl
theorem Ct {X:Cx} {N':List Str} {scope:Scope} {cl:List (Str × Addr)} {C:Addr} {s₂:Shared} {H₂:Hp} {fp:List Addr}:(cG X N' scope cl C s₂ H₂ fp).K=X.K:=rfl
theorem dI {K:PySem.W.Frag} {b k:Bool} {H:Hp}:yi K (.bl b) H k=(k=b):=rfl
theorem xW {K:PySem.W.Frag} {i:Int} {k:Bool} {H:Hp}:yi K (.int i) H k=(k=(i != 0)):=rfl
def zJ (K:PySem.W.Frag):List V->Hp->VK->Prop:=λxs H Q=>∃ p ys,xs=[.ref p]/\(aM K H p ys∨bE K H p ys)/\Q (.int ys.length) H
theorem aU {X:Cx}:cL X (.builtin "len") (zJ X.K):=ma
theorem cH {K:PySem.W.Frag} {H:Hp} {p:Addr} {xs:List V} {Q:VK} (h:aM K H p xs) (q:Q (.int xs.length) H):zJ K [.ref p] H Q:=⟨p,xs,rfl,.inl h,q⟩
theorem jJ {K:PySem.W.Frag} {H:Hp} {p:Addr} {xs:List V} {Q:VK} (h:bE K H p xs) (q:Q (.int xs.length) H):zJ K [.ref p] H Q:=⟨p,xs,rfl,.inr h,q⟩
theorem zO {a b:Int}:mY (.int a) (.int b)=true:=rfl
theorem zM {a b:Bool}:mY (.bl a) (.bl b)=true:=rfl
theorem zP {a:Int}:mY (.int a) .non=true:=rfl
theorem zQ {a:Int}:mY .non (.int a)=true:=rfl
theorem zR:mY .non .non=true:=rfl
theorem zN {a:Bool}:mY (.bl a) .non=true:=rfl
theorem zS {a b:Str}:mY (.str a) (.str b)=true:=rfl
def Ec (t:TS):TS:=λD σ H=>∃ R:St->Hp->Prop,t { D with nx:=R } σ H/\∀ σ' H',R σ' H'->D.nx σ' H'
theorem gE {X:Cx} {st:Stmt} {t:TS} (h:PS X st t):PS X st (Ec t):=by
 intro pins s σ H D I ⟨R,hw,hR⟩
 refine aQ (h pins s σ H _ I hw) λf s' q=>?_
 cases f with
 | next=>obtain⟨σ',H',I',r⟩:=q;exact⟨σ',H',I',hR _ _ r⟩
 | brk=>exact q
 | cont=>exact q
 | ret u=>exact q
theorem yF {P:Program} {w:World} {K:PySem.W.Frag} {mg:Str->Option Value} {base:Heap} {k:Nat} {x:Str} {ps:List Str} {sp:Sp} {st:Stmt} {N:List Str} {f:Addr} {fd:FuncData} (F:uS K x x st f fd)
  (S:av N ps (aj st)) (len:∀ vs H Q E,sp vs H Q E->vs.length=ps.length)
  (hbody:∀(cdv:Value) (A:Around) (outer:List Env) (s:Shared) (H:Hp) (vs:List V) (Q:VK) (E:XK),bF k (A.deeper (envOfC x (aj st) s.heap.objs.size f cdv))->sp vs H Q E ->
   ∃ t,iD (cQ aO P w K mg base N x (aj st) f cdv A outer s H E).lL (aH st) t/\t { nx:=λ_ H'=>Q .non H',rt:=Q } (start N vs) H):cq P w K mg base aO (k+1) f fd ps sp :=
 F.ok S len λcdv A outer s H vs Q E hr h=>hbody cdv A outer s H vs Q E hr h
theorem yN {P:Program} {w:World} {K:PySem.W.Frag} {mg:Str->Option Value} {k:Nat} {x y:Str} {sp:Sp} {st:Stmt} {fa:Addr} (hfa:mg x=some (.ref fa)) (D:ay K mg x st)
  (hb:∀(kV doc pm:Value) (an:Option Addr) (cdv ct:Value) (u:Value),bindArgs (PySem.W.fnOf x x (aR st) (aH st) (aj st) .none kV doc pm an cdv ct) ⟨[u],[]⟩=pure [(y,u)])
  (ok:∀(base:Heap) (f:Addr) (fd:FuncData),K.In base->uS K x x st f fd->cq P w K mg base aO k f fd [y] sp) :
  ∃ fd:FuncData,(∀(s:Shared) (u:Value),BindsTo s fd ⟨[u],[]⟩ [(y,u)])/\∀ base:Heap,K.In base->base.Ns mainGlobals mg->cq P w K mg base aO k fa fd [y] sp:=by
 obtain⟨f,fd,F,hm⟩:=D
 have e:=hfa.symm.trans hm
 cases e
 refine⟨fd,λs u=>?_,λbase kb _=>ok base _ _ kb F⟩
 obtain⟨oc,od,kV,doc,pm,an,cdv,ct,osl,rfl,lk,hcd⟩:=F.ex
 exact .of_eq (hb kV doc pm an cdv ct u)
end L2
namespace L2
open PySem PySem.Spec PyProof.Rows PySem.W
def cn:List Value:=[.type "ValueError",.type "Exception",.type "BaseException",.type "object"]
def bU:List Value->Bool
 | .ref _::r=>bU r
 | l=>l==cn
theorem pI (self:Value):refuseLoop self "__setattr__" cn=pure ():=by kernel_rfl
theorem kA (self:Value):∀{l:List Value},bU l=true->refuseLoop self "__setattr__" l=pure ()
 | .ref c::r,e=>by rw [refuseLoop_ref];exact kA self (l:=r) e
 | [],e=>by cases e
 | .type n::r,e=>by
  have:Value.type n::r=cn:=by simpa [bU] using e
  rw [this];exact pI self
 | .none::r,e=>by simp [bU,cn] at e
 | .bool _::r,e=>by simp [bU,cn] at e
 | .int _ _::r,e=>by simp [bU,cn] at e
 | .str _ _::r,e=>by simp [bU,cn] at e
 | .bytes _ _::r,e=>by simp [bU,cn] at e
 | .float _ _::r,e=>by simp [bU,cn] at e
 | .builtin _::r,e=>by simp [bU,cn] at e
theorem mv {l:List Value}:bU l=true->l.contains (.type "object")=true/\l.contains (.type "BaseException")=true/\l.isEmpty=false:=by
 intro h
 induction l with
 | nil=>cases h
 | cons a r ih =>
  cases a with
  | ref c =>
   obtain⟨h1,h2,_⟩:=ih h
   exact⟨by rw [List.contains_cons,h1,Bool.or_true],by rw [List.contains_cons,h2,Bool.or_true],rfl⟩
  | type n =>
   have e:Value.type n::r=cn:=by simpa [bU] using h
   rw [e]
   exact⟨by decide,by decide,rfl⟩
  | _=>simp [bU,cn] at h
section
variable {prog:Program} {w:World} {A:Around} {E:Value->Shared->Prop} {s:Shared} {K:PySem.W.Frag} {x C:Addr} {name:Str} {v:Value} {cd:ClassData}
theorem yE {vs:Array Value} {sl:Array (Option Value)} {Q:Unit->Shared->Prop} (X:K.In s.heap) (hx:s.heap.get? x=some ⟨.ref C,none,.fields vs,sl⟩) (hc:clsIn K C=some cd) (hm:bU cd.mro=true) (hh:cd.hasDict=true)
  (hs:findIn K (.ref C) "__setattr__"=some (some (.builtin "object.__setattr__"))) (hn:findIn K (.ref C) name=some none)
  (h:∀ h',h'.get? x=some ⟨.ref C,some s.heap.objs.size,.fields vs,sl⟩->h'.Ns1 s.heap.objs.size (λy=>if y=name then some v else none)->(∀ b ob,b≠x->s.heap.get? b=some ob->h'.get? b=some ob)->Q () { s with heap:=h',toks:=s.toks+2 }) :
  wpAny (model prog w) A (setAttr (.ref x) name v) Q E s:=by
 have I:PySem.W.InstAt s.heap x ⟨.ref C,none,.fields vs,sl⟩ C none:=⟨hx,rfl,rfl,True.intro⟩
 obtain⟨m1,m2,m3⟩:=mv hm
 refine PySem.W.set_plain X I hs ?_
 have SF:=PySem.F.store_object
 have sub:Looks (model prog w) s.heap (isInstance (.ref x) (.type "object")) true:=I.type.andThen (looks_mroIn X (by unfold mroIn;rw [hc,Option.bind_some,if_neg (by rw [m3];decide),m1]))
 refine codeAny_call_builtin SF.slot.plain SF.entry (@check_slot (model prog w) _ _ { s with toks:=s.toks+1 } "object.__setattr__" "object" "__setattr__" (.ref x) [.str name s.toks,v] [] _ SF.kind SF.split sub (SF.args (.ref x) (.str name s.toks) v) ?_)
 have L1:Looks (model prog w) s.heap (mroOf (.ref C)) cd.mro:=(looks_clsIn X hc).andThen .now
 rw [osa_eq,refuse_eq]
 refine wpAny_bind (wpAny_bind (Looks.here (s:={ s with toks:=s.toks+1 }) I.type (wpAny_bind (Looks.here (s:={ s with toks:=s.toks+1 }) L1 ?_))))
 rw [kA _ hm]
 refine wpAny_pure (wpAny_bind (Looks.here (s:={ s with toks:=s.toks+1 }) I.type (wpAny_bind (Looks.here (s:={ s with toks:=s.toks+1 }) (looks_findIn X hn) (wpAny_bind (wpAny_pure ?_))))))
 show wpAny _ _ (Builtin.ObjectAttr.storeInOwnDict (.ref x) (.ref C) (.str name s.toks) name v false) _ _ _
 refine wpAny_bind (wpAny_pure (wpAny_bind (wpAny_bind (wpAny_loadPart hx (wpAny_bind (Looks.here (s:={ s with toks:=s.toks+1 }) (looks_clsIn X hc) ?_))))))
 rw [hh]
 refine wpAny_bind (wpAny_alloc ?_)
 have hlt:x≠s.heap.objs.size:=Nat.ne_of_lt (Heap.lt_size hx)
 have hp:(s.heap.push { cls:=.type "dict",data:=.dict #[] }).get? x=some ⟨.ref C,none,.fields vs,sl⟩:=Heap.get?_push_of_some _ hx
 refine wpAny_bind (wpAny_update (s:={ s with toks:=s.toks+1,heap:=s.heap.push { cls:=.type "dict",data:=.dict #[] } }) hp ?_)
 refine wpAny_pure ?_
 show wpAny _ _ (Builtin.ObjectAttr.storeInDict s.heap.objs.size (.str name s.toks) name v) _ _ _
 generalize hu:(s.heap.push { cls:=.type "dict",data:=.dict #[] }).update x (λo=>{ o with dict:=some s.heap.objs.size })=h1
 have g1:h1.get? x=some ⟨.ref C,some s.heap.objs.size,.fields vs,sl⟩:=by rw [<- hu];exact Heap.get?_update_self _ hp rfl
 have g2:∀ b,b≠x->h1.get? b=(s.heap.push { cls:=.type "dict",data:=.dict #[] }).get? b:=λb hb=>by rw [<- hu];exact Heap.get?_update_other _ _ (Ne.symm hb)
 have g3:h1.Ns1 s.heap.objs.size (λ_=>none):=by
  have e1:h1.get? s.heap.objs.size=some { cls:=.type "dict",data:=.dict #[] }:=by rw [g2 _ (Ne.symm hlt)];exact Heap.get?_push_size _ rfl
  have e3:h1.Ns s.heap.objs.size (λ_=>none):=⟨_,#[],_,e1,rfl,(λe he=>absurd he (by simp)),λ_=>rfl⟩
  exact Heap.Ns1.of_empty e3
 refine wpAny_bind (wpAny_pure (wpAny_bind ?_))
 refine wpAny_nsSet1 (s:={ s with toks:=s.toks+1,heap:=h1 }) g3 λh' hn2 hs2=>?_
 obtain⟨oD,esD,epD,hoD,hdD,hcD⟩:=hn2.count (ns:=[name]) (PySem.Within.cons name v (ns:=[]) (λy hy=>absurd rfl hy))
 refine wpAny_bind (wpAny_lookBehind hoD (by rw [hdD];exact pastItsLine_dict (Nat.le_trans hcD (by show 1<=sizeLine+1;decide))) ?_)
 refine wpAny_pure (h h' ((hs2.2 _ hlt).trans g1) hn2 λb ob hb e=>?_)
 have hb2:b≠s.heap.objs.size:=Nat.ne_of_lt (Heap.lt_size e)
 exact (hs2.2 b hb2).trans ((g2 b hb).trans (Heap.get?_push_of_some _ e))
structure cF (K:PySem.W.Frag) (C:Addr):Prop where
 cls:∃ cd,clsIn K C=some cd/\bU cd.mro=true/\cd.hasDict=true
 at_:∃ od cd sl,K.lookup C=some ⟨.type "type",od,.cls cd,sl⟩
 sa:findIn K (.ref C) "__setattr__"=some (some (.builtin "object.__setattr__"))
 ga:findIn K (.ref C) "__getattribute__"=some (some (.builtin "BaseException.__getattribute__"))
 gx:findIn K (.ref C) "__getattr__"=some none
 ca:findIn K (.ref C) "__class__"=some (some (.builtin "object.__class__"))
 gs:specialIn K (.builtin "object.__class__") "__get__"=some (some (.builtin "getset_descriptor.__get__"))
 tk:takesIn K (.builtin "object.__class__")=some true
end
section
variable {prog:Program} {w:World} {A:Around} {E:Value->Shared->Prop} {h:Heap} {g:Array GenState} {d:Drawn} {t:Nat} {os:OsState}
variable {nm q:Str} {C N:Addr} {bs bm:List Value} {hdct:Bool} {sn:List Str} {sub:List Value} {ab:Bool} {col:Option Bool} {dd:Option Addr} {k0 k1 k2 k3 k5:Option Value}
abbrev kQ:String := "ValueError.__new__"
abbrev newExc (C a:Addr):Obj:={ cls:=.ref C,data:=.fields #[.ref a,.none,.none,.none,.bool false,.none] }
theorem yD (hB:bm.contains (.type "ValueError")=true) (hA:bm.contains (.type "AttributeError")=false) (hN:bm.contains (.type "NameError")=false) {rest:List Value} {R:Result->Shared->Prop}
  (hC:h.get? C=some (excClassObj nm q C N bs bm hdct sn sub ab col dd k0 k1 k2 k3 k5 kQ)) (hrest:rest.length<=sizeLine)
  (hq:R (.ok (.ret (.ref (h.objs.size+1)))) ⟨(h.push { cls:=.type "tuple",data:=.seq rest.toArray }).push (newExc C h.objs.size),g,d,t,os⟩) :
  codeAny (model prog w) A (.builtin kQ ⟨.ref C::rest,[]⟩) R ⟨h,g,d,t,os⟩:=by
 have Fn:=PySem.F.excBase_ValueError
 have hends:=Fn.ends
 have cB:(Value.ref C::bm).contains (.type "ValueError")=true:=by rw [List.contains_cons,hB,Bool.or_true]
 have cA:(Value.ref C::bm).contains (.type "AttributeError")=false:=by rw [List.contains_cons,hA];rfl
 have cN:(Value.ref C::bm).contains (.type "NameError")=false:=by rw [List.contains_cons,hN];rfl
 refine codeAny_builtinAt Fn.entry ?_
 unfold Builtin.«BaseException.__new__»
 refine PySem.wpAt_bind ?_
 show PySem.wpAt _ _ _ (stack >>= _) _ _ _
 refine PySem.wpAt_bind (PySem.wpAt_stack λp below=>PySem.wpAt_of_wpAny ?_)
 wp_walk
 refine PySem.wpAt_of_wpAny ?_
 rw [Fn.owner]
 repeat (first | with_reducible refine wpAny_madeHere_exc Fn.canon hC ?_ | with_reducible refine wpAny_loadPart_at hC ?_ | (with_reducible refine wpAny_isSubtype_exc hC ?_;first | rw [cB] | rw [cA] | rw [cN]) | wp_step)
 show R _ _
 rw [Heap.size_push]
 exact hq
theorem kM (hB:bm.contains (.type "ValueError")=true) {rest:List Value} {M:Model} {Q:Unit->Shared->Prop} (hC:h.get? C=some (excClassObj nm q C N bs bm hdct sn sub ab col dd k0 k1 k2 k3 k5 kQ))
  (hq:Q () ⟨h,g,d,t,os⟩):wpAny M A (checkBuiltinCall kQ ⟨.ref C::rest,[]⟩) Q E ⟨h,g,d,t,os⟩:=by
 have Fn:=PySem.F.excBase_ValueError
 have cB:(Value.ref C::bm).contains (.type "ValueError")=true:=by rw [List.contains_cons,hB,Bool.or_true]
 have hstar:=Fn.noStar
 simp only [checkBuiltinCall,Fn.newKind,Fn.newSplit,Fn.newRow]
 repeat (first | refine wpAny_loadPart_at hC ?_ | (refine wpAny_isSubtype_exc hC ?_;rw [cB]) | refine wpAny_staticBase_exc hC ?_ | refine wpAny_madeBy_exc hC ?_ | simp only [bne_self_eq_false,Bool.false_eq_true,if_false] | wp_step)
 exact hq
theorem mw {K:PySem.W.Frag} {i:Value} {rest:List Value} {Q:Fin->Shared->Prop} (X:K.In h) (hB:bm.contains (.type "ValueError")=true) (hA:bm.contains (.type "AttributeError")=false) (hN:bm.contains (.type "NameError")=false)
  (hC:h.get? C=some (excClassObj nm q C N bs bm hdct sn sub ab col dd k0 k1 k2 k3 k5 kQ)) (hrest:rest.length<=sizeLine) (hi:findIn K (.ref C) "__init__"=some (some i)) {j:Value}
  (hb:Looks (model prog w) h (bindSpecial i (.ref (h.objs.size+1))) (j,[.ref (h.objs.size+1)]))
  (hq:codeAny (model prog w) A (.call j ⟨.ref (h.objs.size+1)::rest,[]⟩) (λr s'=>match r with | .ok (.ret v)=>v=.none/\Q (.done (.ret (.ref (h.objs.size+1)))) s' | .ok _=>False | .error e=>E e s')
   ⟨(h.push { cls:=.type "tuple",data:=.seq rest.toArray }).push (newExc C h.objs.size),g,d,t,os⟩) :
  wpAny (model prog w) A (Builtin.«type.__call__» ⟨.ref C::rest,[]⟩) Q E ⟨h,g,d,t,os⟩:=by
 have Fn:=PySem.F.excBase_ValueError
 repeat (first | with_reducible refine wpAny_loadPart_at hC ?_ | with_reducible refine wpAny_madeBy_exc hC ?_ | wp_step)
 refine codeAny_call_builtin_code (Code.quiet_builtin _ Fn.quiet) (kM hB hC ?_)
 refine yD hB hA hN hC hrest ?_
 show wpAny _ _ _ _ _ _
 have kp:∀ b o,h.get? b=some o->((h.push { cls:=.type "tuple",data:=.seq rest.toArray }).push (newExc C h.objs.size)).get? b=some o:=λb o e=>Heap.get?_push_of_some _ (Heap.get?_push_of_some _ e)
 have hget:((h.push { cls:=.type "tuple",data:=.seq rest.toArray }).push (newExc C h.objs.size)).get? (h.objs.size+1)=some (newExc C h.objs.size):=by
  have:=Heap.get?_push_size (h.push { cls:=.type "tuple",data:=.seq rest.toArray }) (o:=newExc C h.objs.size) rfl
  rwa [Heap.size_push] at this
 have cC:(Value.ref C::bm).contains (.ref C)=true:=by simp
 have hC₁:=kp _ _ hC
 have L1:=(looks_findIn (M:=model prog w) X hi).keeps kp
 have L2:=hb.keeps kp
 unfold isInstance
 repeat (first | with_reducible refine wpAny_loadPart_at hget ?_ | (with_reducible refine wpAny_isSubtype_exc hC₁ ?_;rw [cC]) | wp_step)
 show wpAny _ _ (typeLookup (.ref C) _) _ _ _
 refine L1.at (wpAny_holding (wpAny_bind (L2.at (wpAny_bind (wpAny_call (codeAny_mono hq λr s' z=>?_))))))
 rcases r with e | (_ | _ | _ | v)
 ·exact z
 ·exact z.elim
 ·exact z.elim
 ·exact z.elim
 ·obtain⟨rfl,z⟩:=z
  exact wpAny_pure (wpAny_pure z)
theorem nW {K:PySem.W.Frag} {i:Value} {rest:List Value} {Q:Value->Shared->Prop} (X:K.In h) (hB:bm.contains (.type "ValueError")=true) (hA:bm.contains (.type "AttributeError")=false) (hN:bm.contains (.type "NameError")=false)
  (hC:h.get? C=some (excClassObj nm q C N bs bm hdct sn sub ab col dd k0 k1 k2 k3 k5 kQ)) (hrest:rest.length<=sizeLine) (hi:findIn K (.ref C) "__init__"=some (some i)) {j:Value}
  (hb:Looks (model prog w) h (bindSpecial i (.ref (h.objs.size+1))) (j,[.ref (h.objs.size+1)]))
  (hq:codeAny (model prog w) (A.under (.builtin "type.__call__" ⟨.ref C::rest,[]⟩)) (.call j ⟨.ref (h.objs.size+1)::rest,[]⟩) (λr s'=>match r with | .ok (.ret v)=>v=.none/\Q (.ref (h.objs.size+1)) s' | .ok _=>False | .error e=>E e s')
   ⟨(h.push { cls:=.type "tuple",data:=.seq rest.toArray }).push (newExc C h.objs.size),g,d,t,os⟩) :
  wpAny (model prog w) A (call (.ref C) rest) Q E ⟨h,g,d,t,os⟩:=by
 have f1:=tc_lookup
 have f2:=tc_bind (.ref C)
 have hT:(⟨h,g,d,t,os⟩:Shared).TypeIs (.ref C) "type":=⟨_,hC,rfl⟩
 refine wpAny_call (codeAny_of_tree ?_)
 show wpAny _ _ (callAny (.ref C) _) _ _ _
 repeat (any_goals (first | assumption | with_reducible refine wpAny_loadPart_at hC ?_ | wp_step))
 refine⟨rfl,?_⟩
 refine codeAny_call_builtin_at (Code.quiet_builtin _ (by decide +kernel)) entry_typeCall (wpAny_check_type_call_sub hC ?_)
 exact mw X hB hA hN hC hrest hi hb hq
end
def Tr (h:Heap) (e:Addr) (C:Value) (dd:Option Addr) (T:Addr) (fl:Value):Prop :=
 ∃ vs sl oT ts,h.get? e=some ⟨C,dd,.fields vs,sl⟩/\vs[1]?=some (.ref T)/\T≠e/\h.get? T=some oT/\oT.data=.fields ts/\ts[3]?=some fl
structure Kp (fs ch:List Addr) (h h':Heap):Prop where
 keep:∀ b o,b∉ch->b∉fs->h.get? b=some o->h'.get? b=some o
 slot:∀ b o,b∉ch->h.get? b=some o->∃ sl,h'.get? b=some { o with slots:=sl }
theorem Kp.trans {fs ch:List Addr} {h h' h'':Heap} (a:Kp fs ch h h') (b:Kp fs ch h' h''):Kp fs ch h h'' :=
 ⟨λc o hc hf e=>b.keep c o hc hf (a.keep c o hc hf e),λc o hc e=>by
  obtain⟨sl,e1⟩:=a.slot c o hc e
  obtain⟨sl',e2⟩:=b.slot c _ hc e1
  exact⟨sl',e2⟩⟩
theorem Kp.mono {fs ch ch':List Addr} {h h':Heap} (a:Kp fs ch h h') (hs:∀ b∈ch,b∈ch'):Kp fs ch' h h' :=
 ⟨λc o hc hf e=>a.keep c o (λz=>hc (hs c z)) hf e,λc o hc e=>a.slot c o (λz=>hc (hs c z)) e⟩
section
variable {M:Model} {A:Around} {E:Value->Shared->Prop} {s:Shared} {base:Heap} {env:Env} {outer:List Env} {L e T:Addr} {C:Value} {dd:Option Addr} {fl:Value}
theorem jT {vs:Array Value} {sl:Array (Option Value)} {head:Value} {hadNext:Bool} {Q:Unit->Shared->Prop} (hfr:A.frames=some (env::outer)) (hl:s.heap.FunFrames base (env::outer)) (hf:env.frame=some L)
  (he:s.heap.get? e=some ⟨C,dd,.fields vs,sl⟩) (hsz:1<vs.size)
  (h:∀ h' T,Tr h' e C dd T (rawInt L)->s.heap.objs.size<=T->Kp (c9 (env::outer)) [e] s.heap h'->Q () { s with heap:=h' }) :
  wpAny M A (do let a <- frameOf env;let pl <- entryPlaceOf L hadNext;let b <- EntryCells.newEntry head a .none (rawInt L) .none pl;setField (.ref e) 1 b) Q E s:=by
 have hne:e∉c9 (env::outer):=λhm=>by
  obtain⟨_,o,ho,hnf⟩:=hl.mem hm
  rw [he] at ho
  cases ho
  exact hnf vs rfl
 refine wpAny_bind (wpAny_frameOf_fun hfr hl hf λh1 so=>?_)
 refine wpAny_bind (wpAny_entryPlaceOf λpl hpl=>?_)
 unfold EntryCells.newEntry newFields
 refine wpAny_bind (wpAny_newObj_type ?_ (hpl.sizeOk5 _ _ _ _ _))
 have e1:h1.get? e=some ⟨C,dd,.fields vs,sl⟩:=(so.2.1 e hne).trans he
 generalize hO:({ cls:=.type "traceback",dict:=none,data:=.fields ([head,.ref L,.none,rawInt L,.none]++(if pl.isEmpty then List.replicate 6 Value.none else pl)).toArray }:Obj)=oT
 have hTd:oT.data=.fields ([head,.ref L,.none,rawInt L,.none]++(if pl.isEmpty then List.replicate 6 Value.none else pl)).toArray:=by rw [<- hO]
 have hTf:oT.isFreed=false:=by rw [<- hO];rfl
 have e2:(h1.push oT).get? e=some ⟨C,dd,.fields vs,sl⟩:=Heap.get?_push_of_some oT e1
 refine wpAny_setField e2 rfl hsz (h _ h1.objs.size ?_ ?_ ?_)
 ·have ne:h1.objs.size≠e:=Nat.ne_of_gt (Heap.lt_size e1)
  refine⟨vs.setIfInBounds 1 (.ref h1.objs.size),sl,oT,_,Heap.get?_update_self _ e2 rfl,by simp [hsz],ne,?_,hTd,by simp⟩
  rw [Heap.get?_update_other _ _ (Ne.symm ne)]
  exact Heap.get?_push_size h1 hTf
 ·exact Nat.le_of_eq (Eq.symm so.1)
 ·refine⟨λb o hb hf' q=>?_,λb o hb q=>?_⟩
  ·have hb':b≠e:=λz=>hb (by simp [z])
   rw [Heap.get?_update_other _ _ (Ne.symm hb')]
   exact Heap.get?_push_of_some oT ((so.2.1 b hf').trans q)
  ·have hb':b≠e:=λz=>hb (by simp [z])
   obtain⟨sl',q'⟩:=so.2.2 b o q
   refine⟨sl',?_⟩
   rw [Heap.get?_update_other _ _ (Ne.symm hb')]
   exact Heap.get?_push_of_some oT q'
theorem qM {vs:Array Value} {sl:Array (Option Value)} {Q:Unit->Shared->Prop} (hfr:A.frames=some (env::outer)) (hl:s.heap.FunFrames base (env::outer)) (hf:env.frame=some L)
  (he:s.heap.get? e=some ⟨C,dd,.fields vs,sl⟩) (h1:vs[1]?=some .none)
  (h:∀ h' T,Tr h' e C dd T (rawInt L)->s.heap.objs.size<=T->Kp (c9 (env::outer)) [e] s.heap h'->Q () { s with heap:=h' }):wpAny M A (noteFrame (.ref e) env) Q E s:=by
 unfold noteFrame
 simp only [hf]
 refine wpAny_bind (wpAny_field he rfl h1 ?_)
 rw [if_neg (by decide)]
 exact jT hfr hl hf he (Array.getElem?_eq_some_iff.mp h1).1 h
theorem lK {Q:Unit->Shared->Prop} (hfr:A.frames=some (env::outer)) (hl:s.heap.FunFrames base (env::outer)) (hf:env.frame=some L) (ht:Tr s.heap e C dd T .none)
  (h:∀ h' T',Tr h' e C dd T' (rawInt L)->s.heap.objs.size<=T'->Kp (c9 (env::outer)) [e,T] s.heap h'->Q () { s with heap:=h' }):wpAny M A (noteFrame (.ref e) env) Q E s:=by
 obtain⟨vs,sl,oT,ts,he,h1,hTe,hT,hdT,h3⟩:=ht
 unfold noteFrame
 simp only [hf]
 refine wpAny_bind (wpAny_field he rfl h1 ?_)
 rw [if_pos (show (Value.ref T != Value.none)=true from by simp)]
 refine wpAny_bind (wpAny_field hT hdT h3 ?_)
 rw [if_neg (show ¬((Value.none==rawInt L)=true) from by simp [rawInt])]
 refine wpAny_bind (wpAny_setField hT hdT (Array.getElem?_eq_some_iff.mp h3).1 ?_)
 generalize hu:s.heap.update T (Obj.mapFields (·.setIfInBounds 3 Value.none))=h1'
 have oth:∀ b,b≠T->h1'.get? b=s.heap.get? b:=λb hb=>by rw [<- hu];exact Heap.get?_update_other _ _ (Ne.symm hb)
 have hT1:∃ o,h1'.get? T=some o:=⟨_,by rw [<- hu];exact Heap.get?_update_self _ hT (Obj.isFreed_of_fields (Obj.data_mapFields hdT _))⟩
 have hl1:h1'.FunFrames base (env::outer):=hl.of_keeps λb o hb hnf=>⟨o,(oth b λq=>by rw [q,hT] at hb;cases hb;exact hnf ts hdT).trans hb,rfl⟩
 refine jT (s:={ s with heap:=h1' }) hfr hl1 hf ((oth e (Ne.symm hTe)).trans he) (Array.getElem?_eq_some_iff.mp h1).1 λh' T' t' n' k'=>h h' T' t' ?_ ?_
 ·have z:h1'.objs.size=s.heap.objs.size:=by rw [<- hu];exact Heap.size_update ..
  rw [<- z];exact n'
 ·refine⟨λb o hb hf' q=>k'.keep b o (λz=>hb (by simp at z;simp [z])) hf' ((oth b λz=>hb (by simp [z])).trans q),λb o hb q=>k'.slot b o (λz=>hb (by simp at z;simp [z])) ((oth b λz=>hb (by simp [z])).trans q)⟩
theorem land {Q:Unit->Shared->Prop} {fs:List Addr} (ht:Tr s.heap e C dd T fl) (h:∀ h',Tr h' e C dd T .none->Kp fs [T] s.heap h'->Q () { s with heap:=h' }):wpAny M A (setFlight (.ref e) none) Q E s:=by
 obtain⟨vs,sl,oT,ts,he,h1,hTe,hT,hdT,h3⟩:=ht
 unfold setFlight
 refine wpAny_bind (wpAny_field he rfl h1 ?_)
 rw [if_pos (show (Value.ref T != Value.none)=true from by simp)]
 have hsz:=(Array.getElem?_eq_some_iff.mp h3).1
 refine wpAny_setField hT hdT hsz (h _ ?_ ?_)
 ·refine⟨vs,sl,_,_,(Heap.get?_update_other _ _ hTe).trans he,h1,hTe,Heap.get?_update_self _ hT (Obj.isFreed_of_fields (Obj.data_mapFields hdT _)),Obj.data_mapFields hdT _,by simp [hsz]⟩
 ·refine⟨λb o hb _ q=>(Heap.get?_update_other _ _ λz=>hb (by simp [z])).trans q,λb o hb q=>⟨o.slots,(Heap.get?_update_other _ _ λz=>hb (by simp [z])).trans q⟩⟩
theorem oz {vs:Array Value} {sl:Array (Option Value)} {Q:Unit->Shared->Prop} (hfr:A.frames=some (env::outer)) (hl:s.heap.FunFrames base (env::outer)) (hf:env.frame=some L)
  (he:s.heap.get? e=some ⟨C,dd,.fields vs,sl⟩) (h1:vs[1]?=some .none)
  (h:∀ h' T,Tr h' e C dd T .none->s.heap.objs.size<=T->Kp (c9 (env::outer)) [e] s.heap h'->Q () { s with heap:=h' }):wpAny M A (leaving env (.ref e)) Q E s:=by
 unfold leaving
 refine wpAny_bind (qM hfr hl hf he h1 λh1' T t1 n1 k1=>?_)
 refine land (fs:=c9 (env::outer)) t1 λh2 t2 k2=>h h2 T t2 n1 ⟨λb o hb hf' q=>?_,λb o hb q=>?_⟩
 ·exact k2.keep b o (λz=>by simp at z;rw [z] at q;exact absurd (Heap.lt_size q) (Nat.not_lt.mpr n1)) hf' (k1.keep b o hb hf' q)
 ·obtain⟨s1,q1⟩:=k1.slot b o hb q
  obtain⟨s2,q2⟩:=k2.slot b _ (λz=>by simp at z;rw [z] at q;exact absurd (Heap.lt_size q) (Nat.not_lt.mpr n1)) q1
  exact⟨s2,q2⟩
theorem qI {Q:Unit->Shared->Prop} (hfr:A.frames=some (env::outer)) (hl:s.heap.FunFrames base (env::outer)) (hf:env.frame=some L) (ht:Tr s.heap e C dd T .none)
  (h:∀ h' T',Tr h' e C dd T' .none->s.heap.objs.size<=T'->Kp (c9 (env::outer)) [e,T] s.heap h'->Q () { s with heap:=h' }):wpAny M A (leaving env (.ref e)) Q E s:=by
 unfold leaving
 refine wpAny_bind (lK hfr hl hf ht λh1' T' t1 n1 k1=>?_)
 refine land (fs:=c9 (env::outer)) t1 λh2 t2 k2=>h h2 T' t2 n1 ⟨λb o hb hf' q=>?_,λb o hb q=>?_⟩
 ·exact k2.keep b o (λz=>by simp at z;rw [z] at q;exact absurd (Heap.lt_size q) (Nat.not_lt.mpr n1)) hf' (k1.keep b o hb hf' q)
 ·obtain⟨s1,q1⟩:=k1.slot b o hb q
  obtain⟨s2,q2⟩:=k2.slot b _ (λz=>by simp at z;rw [z] at q;exact absurd (Heap.lt_size q) (Nat.not_lt.mpr n1)) q1
  exact⟨s2,q2⟩
end
def XO (x C:Addr) (dd:Option Addr):HO:=.ext λh=>∃ vs sl,h.get? x=some ⟨.ref C,dd,.fields vs,sl⟩
def XN (x C:Addr) (dd:Option Addr):HO:=.ext λh=>∃ t sl,h.get? x=some ⟨.ref C,dd,.fields #[.ref t,.none,.none,.none,.bool false,.none],sl⟩
section
variable {P:Program} {w:World} {H H':Hp} {h h':Heap} {x C:Addr} {dd:Option Addr}
theorem XO.ok {vs:Array Value} {sl:Array (Option Value)} (e:h.get? x=some ⟨.ref C,dd,.fields vs,sl⟩):aZ P w H h x (XO x C dd) :=
 ⟨⟨vs,sl,e⟩,⟨_,e⟩,λ_ _ ⟨vs,sl,q⟩ k=>⟨vs,sl,k _ q⟩⟩
theorem XN.ok {t:Addr} {sl:Array (Option Value)} (e:h.get? x=some ⟨.ref C,dd,.fields #[.ref t,.none,.none,.none,.bool false,.none],sl⟩):aZ P w H h x (XN x C dd) :=
 ⟨⟨t,sl,e⟩,⟨_,e⟩,λ_ _ ⟨vs,sl,q⟩ k=>⟨vs,sl,k _ q⟩⟩
theorem XN.get (hok:eX P w H h) (e:H x=some (XN x C dd)):∃ t sl,h.get? x=some ⟨.ref C,dd,.fields #[.ref t,.none,.none,.none,.bool false,.none],sl⟩:=by
 obtain⟨q,_⟩:=(show aZ P w H h x (XN x C dd) from hok x _ e)
 exact q
end
def dO (P:Program) (w:World):jq:=λouter H s E e s'=>∃(x C T:Addr) (dd:Option Addr) (H':Hp),e=.ref x/\s'.os=s.os/\AllBare s'.gens/\Un (c9 outer) [] H H' s.heap s'.heap/\eX P w H' s'.heap /\
 Tr s'.heap x (.ref C) dd T .none/\s.heap.get? x=none/\s.heap.get? T=none/\H' T=none/\H' x=some (XO x C dd)/\E (.ref C) (some x) H'
theorem gR {base h h':Heap} {H H':Hp} {ex:List Addr}:∀{l:List Env} {fs:List Addr},h.FunFrames base l->Un fs ex H H' h h'->(∀ b∈c9 l,H b=none)->(∀ b∈c9 l,b∉ex)->h'.FunFrames base l
 | [],_,_,_,_,_=>trivial
 | env::r,fs,hl,u,hn,hx=>by
  obtain⟨hk,⟨L,o,hf,hb,ho,hd⟩,hr⟩:=hl
  have hL:L∈c9 (env::r):=by unfold c9;rw [List.filterMap_cons,hf];exact List.mem_cons_self
  have sub:∀ b∈c9 r,b∈c9 (env::r):=λb hb'=>by unfold c9;rw [List.filterMap_cons,hf];exact List.mem_cons_of_mem _ hb'
  obtain⟨sl,e⟩:=u.any ho (hn L hL) (hx L hL)
  exact⟨hk,⟨L,_,hf,hb,e,hd⟩,gR hr u (λb hb'=>hn b (sub b hb')) λb hb'=>hx b (sub b hb')⟩
theorem gQ {P:Program} {w:World} {H':Hp} {h h':Heap} {x C:Addr} {dd:Option Addr} {fs ch:List Addr} (hok:eX P w H' h) (k:Kp fs ch h h') (hch:∀ b∈ch,b=x∨H' b=none) (hfs:∀ b∈fs,H' b=none)
  (hx:H' x=some (XO x C dd)) {vs:Array Value} {sl:Array (Option Value)} (e:h'.get? x=some ⟨.ref C,dd,.fields vs,sl⟩):eX P w H' h':=by
 intro b o q
 by_cases hb:b=x
 ·subst hb
  rw [hx] at q
  cases q
  exact XO.ok e
 ·refine (hok b o q).fZ (λc u hc r=>k.keep c u (λz=>?_) (λz=>?_) r) (λ_ r=>r) λ_ _ r=>r
  ·rcases hch c z with q1 | q1
   ·rcases hc with q2 | q2
    ·exact hb (q2.symm.trans q1)
    ·rw [q1,hx] at q2;cases q2
   ·rcases hc with q2 | q2
    ·rw [q2,q] at q1;cases q1
    ·rw [q2] at q1;cases q1
  ·have q1:=hfs c z
   rcases hc with q2 | q2
   ·rw [q2,q] at q1;cases q1
   ·rw [q2] at q1;cases q1
theorem oS {P:Program} {w:World} {K:PySem.W.Frag} {mg:Str->Option Value} {base:Heap} {N:List Str} {qual:Str} {scope:Scope} {f:Addr} {cd:Value} {A:Around} {outer:List Env} {s:Shared} {H:Hp} {E:XK} :
  Passes (dO P w) (cQ (dO P w) P w K mg base N qual scope f cd A outer s H E) E:=by
 intro pins σ H1 s1 e s' I hq
 obtain⟨x,C,T,dd,H',rfl,os,bare,un,hok,tr,nx,nT,hT,hx,hE⟩:=hq
 have hl:=gR I.stack un I.cJ (λb _=>by simp)
 have frN:∀ b∈c9 (envOfC qual scope s.heap.objs.size f cd::outer),H' b=none:=λb hb=>by
  obtain⟨_,o,ho,_⟩:=I.stack.mem hb
  exact un.free b o ho (I.cJ b hb) (by simp)
 show wpAny (model P w) (A.deeper (envOfC qual scope s.heap.objs.size f cd)) (leaving (envOfC qual scope s.heap.objs.size f cd) (.ref x)) _ _ s'
 refine qI (L:=s.heap.objs.size) I.ok.frames hl rfl tr λh'' T' t' n' k'=>?_
 have old:∀ b o,s.heap.get? b=some o->b∉[x,T]:=λb o q hb=>by
  obtain⟨o1,q1⟩:=I.base.there b o q (by intro z;exact absurd (show b∈([]:List Addr) from z) (by simp))
  rcases List.mem_cons.mp hb with z | z
  ·rw [z,nx] at q1;cases q1
  ·rw [List.mem_singleton.mp z,nT] at q1;cases q1
 have nex:∀ b:Addr,b∉(cQ (dO P w) P w K mg base N qual scope f cd A outer s H E).ex:=λb z=>absurd (show b∈([]:List Addr) from z) (by simp)
 have nfr:∀ b o,s.heap.get? b=some o->b∉c9 outer->b∉c9 (envOfC qual scope s.heap.objs.size f cd::outer):=λb o q hb hm=>by
  rcases List.mem_cons.mp (I.eI b hm) with z | z
  ·exact absurd (Heap.lt_size q) (by rw [z];exact Nat.lt_irrefl _)
  ·exact hb z
 obtain⟨vs,sl,oT,ts,he,r'⟩:=t'
 have tr':Tr h'' x (.ref C) dd T' .none:=⟨vs,sl,oT,ts,he,r'⟩
 refine⟨x,C,T',dd,H',rfl,os.trans I.os,bare,?_,?_,tr',?_,?_,hok.fresh n',hx,hE⟩
 ·refine⟨λb o q nn hb _=>?_,λb o q nn hb _=>?_,λb o q nn _=>?_,λb o q _=>?_,λb xs q=>un.tups b xs (I.base.tups b xs q),λb o xs q=>un.frzs b o xs (I.base.frzs b o xs q),λb ps q=>?_⟩
  ·have q1:=I.base.keep b o q nn hb (nex b)
   have q2:=un.keep b o q1 (I.base.free b o q nn (nex b)) (nfr b o q hb) (by simp)
   exact k'.keep b o (old b o q) (nfr b o q hb) q2
  ·obtain⟨s1',q1⟩:=I.base.slot b o q nn hb (nex b)
   obtain⟨s2',q2⟩:=un.any q1 (I.base.free b o q nn (nex b)) (by simp)
   obtain⟨s3',q3⟩:=k'.slot b _ (old b o q) q2
   exact⟨s3',q3⟩
  ·obtain⟨o1,q1⟩:=I.base.there b o q (nex b)
   exact un.free b o1 q1 (I.base.free b o q nn (nex b)) (by simp)
  ·obtain⟨o1,q1⟩:=I.base.there b o q (nex b)
   obtain⟨o2,q2⟩:=un.there b o1 q1 (by simp)
   obtain⟨s3',q3⟩:=k'.slot b _ (old b o q) q2
   exact⟨_,q3⟩
  ·obtain⟨m1,e1⟩:=I.base.tbls b ps q
   obtain⟨m2,e2⟩:=un.tbls b _ e1
   exact⟨m1++m2,by rw [e2,Array.append_assoc]⟩
 ·exact gQ hok k' (λb hb=>by
   rcases List.mem_cons.mp hb with z | z
   ·exact .inl z
   ·exact .inr (by rw [List.mem_singleton.mp z];exact hT)) frN hx he
 ·cases q:s.heap.get? x with
  | none=>rfl
  | some o=>exact absurd (List.mem_cons_self) (old x o q)
 ·cases q:s.heap.get? T' with
  | none=>rfl
  | some o =>
   obtain⟨o1,q1⟩:=I.base.there T' o q (nex T')
   obtain⟨o2,q2⟩:=un.there T' o1 q1 (by simp)
   exact absurd (Heap.lt_size q2) (Nat.not_lt.mpr n')
section
variable {prog:Program} {w:World} {A:Around} {E:Value->Shared->Prop} {s:Shared} {K:PySem.W.Frag} {env:Env}
theorem kN {x:Sem Value} {Q:Flow->Shared->Prop} (hh:A.handled=none)
  (h:wpAny (model prog w) A x (λv s₁=>∃ e C t dd sl,v=.ref e/\K.In s₁.heap/\cF K C/\s₁.heap.get? e=some ⟨.ref C,dd,.fields #[.ref t,.none,.none,.none,.bool false,.none],sl⟩/\E (.ref e) s₁) E s) :
  wpAny (model prog w) A (raiseStmt env (some x) none) Q E s:=by
 unfold raiseStmt
 refine wpAny_bind (wpAny_mono h (λv s₁ h₁=>?_) λ_ _ z=>z)
 obtain⟨e,C,t,dd,sl,rfl,X,c,he,hE⟩:=h₁
 obtain⟨hp,g,d,tk,os⟩:=s₁
 have L1:Looks (model prog w) hp (isSubtype (.ref C) (.type "BaseException")) true:=by
  obtain⟨cd,hc,hm,_⟩:=c.cls
  obtain⟨m1,m2,m3⟩:=mv hm
  exact looks_mroIn X (by unfold mroIn;rw [hc,Option.bind_some,if_neg (by rw [m3];decide),m2])
 obtain⟨od,cd,sc,hk⟩:=c.at_
 have hC:=X _ _ hk
 repeat (first | with_reducible refine wpAny_loadPart_at he ?_ | with_reducible refine wpAny_loadPart_at hC ?_ | with_reducible refine Looks.at L1 ?_ | wp_step)
 exact wpAny_raiseNew_none hh hE
end
def xR (K:PySem.W.Frag) (H₀:Hp) (E:XK) (te:TE):TS:=λ_ σ H=>te σ H λv H1=>∃ x C dd,v=.ref x/\H1 x=some (XN x C dd)/\cF K C/\H₀ x=none/\E (.ref C) (some x) (upd H1 x (XO x C dd))
section
variable {P:Program} {w:World} {K:PySem.W.Frag} {mg:Str->Option Value} {base:Heap} {N:List Str} {qual:Str} {scope:Scope} {f:Addr} {cd:Value} {A:Around} {outer:List Env} {s:Shared} {H:Hp} {E:XK}
theorem uH {pins:List (Addr × Obj)} {σ:St} {H2:Hp} {s2:Shared} {x C:Addr} {dd:Option Addr} (I:Inv (cQ (dO P w) P w K mg base N qual scope f cd A outer s H E) pins σ H2 s2) (hx:H2 x=some (XN x C dd)) (hn:H x=none)
  (hE:E (.ref C) (some x) (upd H2 x (XO x C dd))):(cQ (dO P w) P w K mg base N qual scope f cd A outer s H E).xe (.ref x) s2:=by
 obtain⟨t,sl,he⟩:=XN.get I.hok hx
 have nex:∀ b:Addr,b∉(cQ (dO P w) P w K mg base N qual scope f cd A outer s H E).ex:=λb z=>absurd (show b∈([]:List Addr) from z) (by simp)
 have nx:s.heap.get? x=none:=by
  cases q:s.heap.get? x with
  | none=>rfl
  | some o =>
   have:=I.base.free x o q hn (nex x)
   rw [hx] at this
   cases this
 have old:∀ b o,s.heap.get? b=some o->b≠x:=λb o q z=>by rw [z,nx] at q;cases q
 have nfr:∀ b o,s.heap.get? b=some o->b∉c9 outer->b∉c9 (envOfC qual scope s.heap.objs.size f cd::outer):=λb o q hb hm=>by
  rcases List.mem_cons.mp (I.eI b hm) with z | z
  ·exact absurd (Heap.lt_size q) (by rw [z];exact Nat.lt_irrefl _)
  ·exact hb z
 have hok':eX P w (upd H2 x (XO x C dd)) s2.heap:=λb o q=>by
  by_cases hb:b=x
  ·subst hb
   rw [af] at q
   cases q
   exact XO.ok he
  ·rw [ao hb] at q
   refine (I.hok b o q).fZ (λ_ _ _ r=>r) (λc r=>?_) λc xs r=>?_
   ·rw [ao (λz=>by rw [z,hx] at r;cases r)];exact r
   ·rw [ao (λz=>by rw [z,hx] at r;cases r)];exact r
 show wpAny (model P w) (A.deeper (envOfC qual scope s.heap.objs.size f cd)) (leaving (envOfC qual scope s.heap.objs.size f cd) (.ref x)) _ _ s2
 refine oz (L:=s.heap.objs.size) I.ok.frames I.stack rfl he rfl λh'' T t' n' k'=>?_
 obtain⟨vs,sl',oT,ts,he',r'⟩:=t'
 have tr':Tr h'' x (.ref C) dd T .none:=⟨vs,sl',oT,ts,he',r'⟩
 have nT:T≠x:=r'.2.1
 refine⟨x,C,T,dd,upd H2 x (XO x C dd),rfl,I.os,I.bare,?_,?_,tr',nx,?_,?_,af,hE⟩
 ·refine⟨λb o q nn hb _=>?_,λb o q nn hb _=>?_,λb o q nn _=>?_,λb o q _=>?_,λb xs q=>?_,λb o xs q=>?_,λb ps q=>?_⟩
  ·exact k'.keep b o (by simp [old b o q]) (nfr b o q hb) (I.base.keep b o q nn hb (nex b))
  ·obtain⟨s1',q1⟩:=I.base.slot b o q nn hb (nex b)
   obtain⟨s3',q3⟩:=k'.slot b _ (by simp [old b o q]) q1
   exact⟨s3',q3⟩
  ·rw [ao (old b o q)]
   exact I.base.free b o q nn (nex b)
  ·obtain⟨o1,q1⟩:=I.base.there b o q (nex b)
   obtain⟨s3',q3⟩:=k'.slot b _ (by simp [old b o q]) q1
   exact⟨_,q3⟩
  ·have:=I.base.tups b xs q
   rw [ao (λz=>by rw [z,hx] at this;cases this)];exact this
  ·have:=I.base.frzs b o xs q
   rw [ao (λz=>by rw [z,hx] at this;cases this)];exact this
  ·obtain⟨m1,e1⟩:=I.base.tbls b ps q
   exact⟨m1,by rw [ao (λz=>by rw [z,hx] at e1;cases e1)];exact e1⟩
 ·exact gQ hok' k' (λb hb=>.inl (by simpa using hb)) (λb hb=>by
   have z:=I.cJ b hb
   rw [ao (λy=>by rw [y,hx] at z;cases z)];exact z) af he'
 ·cases q:s.heap.get? T with
  | none=>rfl
  | some o =>
   obtain⟨o1,q1⟩:=I.base.there T o q (nex T)
   exact absurd (Heap.lt_size q1) (Nat.not_lt.mpr n')
 ·rw [ao nT]
  exact I.hok.fresh n'
theorem hJ {e:Expr} {te:TE} {pos:Pos} (he:PE (cQ (dO P w) P w K mg base N qual scope f cd A outer s H E) e te):PS (cQ (dO P w) P w K mg base N qual scope f cd A outer s H E) (.Raise (some e) none pos) (xR K H E te):=by
 intro pins s1 σ H1 D I h
 rw [arm_exec_Raise]
 refine wpAny_bind (wpAny_standAt (kN (K:=K) (I.ok.hd rfl) (wpAny_bind (aQ (he pins s1 σ H1 _ I h) λv s2 ⟨y,H2,I2,r,x,C,dd,ey,hx,c,hn,hE⟩=>?_))))
 subst ey
 obtain rfl:v=Value.ref x:=r
 obtain⟨t,sl,hg⟩:=XN.get I2.hok hx
 exact wpAny_bind (wpAny_standAt (wpAny_pure ⟨x,C,t,dd,sl,rfl,I2.d6,c,hg,uH I2 hx hn hE⟩))
end
section
variable {prog:Program} {w:World} {A:Around} {E:Value->Shared->Prop} {h:Heap} {g:Array GenState} {d:Drawn} {t:Nat} {os:OsState}
variable {nm q:Str} {C N:Addr} {bs bm:List Value} {hdct:Bool} {sn:List Str} {sub:List Value} {ab:Bool} {col:Option Bool} {dd:Option Addr} {k0 k1 k2 k3 k5:Option Value}
theorem tN {R:Result->Shared->Prop} {e a:Addr} (hB:bm.contains (.type "ValueError")=true) (hC:h.get? C=some (excClassObj nm q C N bs bm hdct sn sub ab col dd k0 k1 k2 k3 k5 kQ)) (he:h.get? e=some (newExc C a))
  (hq:∀ h',h'.get? e=some (newExc C h.objs.size)->(∀ b o,b≠e->h.get? b=some o->h'.get? b=some o)->R (.ok (.ret .none)) ⟨h',g,d,t,os⟩) :
  codeAny (model prog w) A (.call (.builtin "ValueError.__init__") ⟨[.ref e],[]⟩) R ⟨h,g,d,t,os⟩:=by
 have Fn:=PySem.F.excBase_ValueError
 have cB:(Value.ref C::bm).contains (.type "ValueError")=true:=by rw [List.contains_cons,hB,Bool.or_true]
 have hshort:=Fn.noStar
 refine codeAny_call_builtin Fn.init.plain Fn.initEntry ?_
 have chk:∀{Q:Unit->Shared->Prop} {E:Value->Shared->Prop} {A:Around},Q () ⟨h,g,d,t,os⟩->wpAny (model prog w) A (checkBuiltinCall "ValueError.__init__" ⟨[.ref e],[]⟩) Q E ⟨h,g,d,t,os⟩:=by
  intro Q E A hq
  simp only [checkBuiltinCall,Fn.initKind,Fn.initSplit,Fn.initRow]
  repeat (first | with_reducible refine wpAny_loadPart_at he ?_ | with_reducible refine wpAny_loadPart_at hC ?_ | (with_reducible refine wpAny_isSubtype_exc hC ?_;rw [cB]) | wp_step)
  exact hq
 refine chk ?_
 wp_walk
 have hp:=Heap.get?_push_of_some (h:=h) { cls:=.type "tuple",data:=.seq ([]:List Value).toArray } he
 refine hq _ ?_ λb o hb z=>?_
 ·exact Heap.get?_update_self _ hp rfl
 ·rw [Heap.get?_update_other _ _ (Ne.symm hb)]
  exact Heap.get?_push_of_some _ z
end
theorem cq.any {P:Program} {w:World} {K:PySem.W.Frag} {mg:Str->Option Value} {base:Heap} {CX:jq} {k:Nat} {f:Addr} {fd:FuncData} {ps:List Str} {sp:Sp} (F:cq P w K mg base aO k f fd ps sp):cq P w K mg base CX k f fd ps sp :=
 ⟨F.len,λA outer s H args us vs Q E hr he hb hv hs=>codeAny_mono (F.run A outer s H args us vs Q E hr he hb hv hs) λr s' q=>by
  cases r with
  | error e=>exact False.elim q
  | ok fl =>
   cases fl with
   | ret u=>exact q
   | next=>exact q
   | brk=>exact q
   | cont=>exact q⟩
def C4 (K:PySem.W.Frag) (ta tv:TE) (f:Str):TS:=λD σ H=>tv σ H λy H1=>ta σ H1 λxv H2=>∃ x C,xv=.ref x/\H2 x=some (XN x C none)/\cF K C/\findIn K (.ref C) f=some none /\
 ∀ dx,H2 dx=none->dx≠x->D.nx σ (upd (upd H2 dx (.xd [(f,y)])) x (XN x C (some dx)))
section
variable {X:Cx} {o value:Expr} {f:Str} {pos pos':Pos} {ta tv:TE}
theorem zF (ha:PE X o ta) (hv:PE X value tv) (hs:swapsWith value (some (.Attribute o f pos')) pos.line X.env=pure false:=by rfl):PS X (.Assign [.Attribute o f pos'] value pos) (C4 X.K ta tv f):=by
 intro pins s σ H D I h
 refine plainObj_wpAny_Assign_Attribute (aQ (hv pins s σ H _ I h) λu s1 ⟨y,H1,I1,ry,q⟩=>aQ (ha pins s1 σ H1 _ I1 q) λov s2 ⟨xv,H2,I2,rx,x,C,ex,hx,c,hf,q2⟩=>?_) hs
 subst ex
 obtain rfl:ov=Value.ref x:=rx
 obtain⟨t,sl,hg⟩:=XN.get I2.hok hx
 obtain⟨cd,hc,hm,hh⟩:=c.cls
 refine yE I2.d6 hg hc hm hh c.sa hf λh' g1 g2 g3=>?_
 have hd0:H2 s2.heap.objs.size=none:=I2.hok.fresh (Nat.le_refl _)
 have hne:s2.heap.objs.size≠x:=λz=>by rw [z,hx] at hd0;cases hd0
 have bx:∀ b,H2 b=none->b≠x:=λb z y=>by rw [y,hx] at z;cases z
 have bd:∀ b o,s2.heap.get? b=some o->b≠s2.heap.objs.size:=λb o q=>Nat.ne_of_lt (Heap.lt_size q)
 have tb:∀ b u,H2 b=some u->b≠s2.heap.objs.size:=λb u q z=>by rw [z,hd0] at q;cases q
 refine⟨σ,upd (upd H2 s2.heap.objs.size (.xd [(f,y)])) x (XN x C (some s2.heap.objs.size)),I2.un ⟨λb o q n _ _=>g3 b o (bx b n) q,λb o q n _ _=>⟨o.slots,g3 b o (bx b n) q⟩,λb o q n _=>?_,λb o q _=>?_,λb xs q=>?_,λb o xs q=>?_,λb ps q=>?_⟩ ?_,q2 _ hd0 hne⟩
 ·rw [ao (bx b n),ao (bd b o q)];exact n
 ·by_cases z:b=x
  ·exact⟨_,by rw [z];exact g1⟩
  ·exact⟨o,g3 b o z q⟩
 ·rw [ao (λz=>by rw [z,hx] at q;cases q),ao (tb b _ q)];exact q
 ·rw [ao (λz=>by rw [z,hx] at q;cases q),ao (tb b _ q)];exact q
 ·exact⟨#[],by rw [ao (λz=>by rw [z,hx] at q;cases q),ao (tb b _ q),q];simp⟩
 ·intro b o q
  by_cases z:b=x
  ·subst z
   rw [af] at q
   cases q
   exact XN.ok g1
  ·rw [ao z] at q
   by_cases z2:b=s2.heap.objs.size
   ·subst z2
    rw [af] at q
    cases q
    refine⟨_,g2,λk=>?_⟩
    show dS (List.lookup k [(f,y)]) (if k=f then some u else none)
    by_cases e:k=f
    ·subst e
     rw [if_pos rfl,List.lookup_cons,beq_self_eq_true]
     exact ry
    ·have e':(k==f)=false:=by simpa using e
     rw [if_neg e,List.lookup_cons,e']
     exact True.intro
   ·rw [ao z2] at q
    refine (I2.hok b o q).fZ (λc' u' hc' r=>g3 c' u' (λz3=>?_) r) (λc' r=>?_) λc' xs r=>?_
    ·rcases hc' with e | e
     ·exact z (e.symm.trans z3)
     ·rw [z3,hx] at e;cases e
    ·rw [ao (λz3=>by rw [z3,hx] at r;cases r),ao (tb c' _ r)];exact r
    ·rw [ao (λz3=>by rw [z3,hx] at r;cases r),ao (tb c' _ r)];exact r
end
structure ya (K:PySem.W.Frag) (C:Addr):Prop where
 obj:∃ nm q N bs bm hdct sn sub ab col dd k0 k1 k2 k3 k5,K.lookup C=some (excClassObj nm q C N bs bm hdct sn sub ab col dd k0 k1 k2 k3 k5 kQ)/\bm.contains (.type "ValueError")=true/\bm.contains (.type "AttributeError")=false/\bm.contains (.type "NameError")=false
 kp:keepIn K (.ref C)=true
def ni (K:PySem.W.Frag) (f:Str):Sp:=λvs H Q _=>∃ x C v,vs=[.ref x,v]/\H x=some (XN x C none)/\cF K C/\findIn K (.ref C) f=some none /\
 ∀ dx,H dx=none->dx≠x->Q .non (upd (upd H dx (.xd [(f,v)])) x (XN x C (some dx)))
def BX (C:Addr) (f:Str) (t:TA):TE:=λσ H Q=>t σ H λvs H1=>∃ v,vs=[v]/\∀ x dx,H1 x=none->H1 dx=none->dx≠x->Q (.ref x) (upd (upd (upd H1 x (XN x C none)) dx (.xd [(f,v)])) x (XN x C (some dx)))
def BW (C:Addr):TE:=λ_ H Q=>∀ x,H x=none->Q (.ref x) (upd H x (XN x C none))
section
variable {X:Cx} {C fi:Addr} {fd:FuncData} {p f x:Str} {k:Nat} {pos np:Pos} {e:Expr} {t:TA}
theorem Inv.newExc {pins:List (Addr × Obj)} {σ:St} {H:Hp} {s:Shared} (I:Inv X pins σ H s) (us:List Value):Inv X pins σ (upd H (s.heap.objs.size+1) (XN (s.heap.objs.size+1) C none))
  { s with heap:=(s.heap.push { cls:=.type "tuple",data:=.seq us.toArray }).push (L2.newExc C s.heap.objs.size) }:=by
 have I1:Inv X pins σ H { s with heap:=s.heap.push { cls:=.type "tuple",data:=.seq us.toArray } }:=I.kept (t':=s.toks) λb u q=>Heap.get?_push_of_some _ q
 refine I1.laid (a:=s.heap.objs.size+1) (t':=s.toks) (λb u q=>Heap.get?_push_of_some _ q) (Nat.le_of_eq (Heap.size_push _ _)) ?_
 refine XN.ok (t:=s.heap.objs.size) (sl:=#[]) ?_
 have:=Heap.get?_push_size (s.heap.push { cls:=.type "tuple",data:=.seq us.toArray }) (o:=L2.newExc C s.heap.objs.size) rfl
 rwa [Heap.size_push] at this
theorem uC (M:ya X.K C) (c:cF X.K C) (hi:findIn X.K (.ref C) "__init__"=some (some (.ref fi))) (fn:isFn X.K (.ref fi)=true) (hf:findIn X.K (.ref C) f=some none) (F:cq X.prog X.w X.K X.mg X.base aO k fi fd ["self",p] (ni X.K f)) (hr:bF (k+1) X.A) (hg:Gl X x)
  (hm:X.mg x=some (.ref C)) (hb:Binds X.K fd ["self",p] []) (ha:PA X [e] t) (hdb:(x==("__debug__":Str))=false:=by decide) (he:starEach [e] X.env=(false,eval e X.env)::starEach [] X.env:=by rfl) (hpl:(backTo pos (starEach [] X.env)).any (·.1)=false:=by rfl) :
  PE X (.Call (.Name x np) [e] [] pos) (BX C f t):=by
 intro pins s σ H Q I h
 refine wpAny_Call_Name_kw (eB I hg hm ?_ hdb)
 refine PySem.W.callWith_K (h₀:=X.base) I.ok.mod.kin M.kp (aQ (ha pos pins s σ H _ I h) λus s1 ⟨vs,H1,I1,r,q⟩=>⟨I1.d6,?_⟩) he hpl
 obtain⟨v,rfl,q⟩:=q
 obtain⟨u,rfl,ru⟩:=vals1 r
 obtain⟨nm,qn,Nn,bs,bm,hdct,sn,sub,ab,col,dd,k0,k1,k2,k3,k5,hk,hB,hA,hN⟩:=M.obj
 have I2:=Inv.newExc (C:=C) I1 [u]
 have n1:H1 (s1.heap.objs.size+1)=none:=I1.hok.fresh (Nat.le_succ _)
 have r2:Vals [V.ref (s1.heap.objs.size+1),v] [Value.ref (s1.heap.objs.size+1),u]:=.cons rfl (.cons ru .nil)
 have hq:ni X.K f [V.ref (s1.heap.objs.size+1),v] (upd H1 (s1.heap.objs.size+1) (XN (s1.heap.objs.size+1) C none)) (λz H3=>z=.non/\Q (.ref (s1.heap.objs.size+1)) H3) E0 :=
  ⟨_,C,v,rfl,af,c,hf,λdx hd hne=>⟨rfl,q _ dx n1 (by rw [ao hne] at hd;exact hd) hne⟩⟩
 obtain⟨hh,g,d,tk,os⟩:=s1
 refine nW (K:=X.K) I1.d6 hB hA hN (I1.d6 _ _ hk) (by show 1<=sizeLine;decide) hi (bind_fn I1.d6 _ (beq_iff_eq.mp fn)) ?_
 refine codeAny_mono (F.run _ X.stack _ _ ⟨[Value.ref (hh.objs.size+1),u],[]⟩ [Value.ref (hh.objs.size+1),u] _ _ E0 (hr.make C [u] []) (I2.yB.make C [u] []) (by have:=hb _ [Value.ref (hh.objs.size+1),u] I2.d6 rfl;rwa [List.append_nil] at this) r2 hq) λr s' hq'=>?_
 cases r with
 | error e=>exact False.elim hq'
 | ok fl =>
  cases fl with
  | ret u' =>
   obtain⟨v',H',I3,rv,ev,q3⟩:=I2.after hq'
   subst ev
   exact⟨rv,⟨V.ref (hh.objs.size+1),H',I3,rfl,q3⟩⟩
  | next=>exact False.elim hq'
  | brk=>exact False.elim hq'
  | cont=>exact False.elim hq'
theorem uB (M:ya X.K C) (hi:findIn X.K (.ref C) "__init__"=some (some (.builtin "ValueError.__init__"))) (hg:Gl X x) (hm:X.mg x=some (.ref C)) (hdb:(x==("__debug__":Str))=false:=by decide) :
  PE X (.Call (.Name x np) [] [] pos) (BW C):=by
 intro pins s σ H Q I h
 refine wpAny_Call_Name_kw (eB I hg hm ?_ hdb)
 refine PySem.W.callWith_K0 I.d6 M.kp ?_
 obtain⟨nm,qn,Nn,bs,bm,hdct,sn,sub,ab,col,dd,k0,k1,k2,k3,k5,hk,hB,hA,hN⟩:=M.obj
 have I2:=Inv.newExc (C:=C) I []
 have n1:H (s.heap.objs.size+1)=none:=I.hok.fresh (Nat.le_succ _)
 have Fn:=PySem.F.excBase_ValueError
 obtain⟨hh,g,d,tk,os⟩:=s
 have hC:=I.d6 _ _ hk
 refine nW (K:=X.K) I.d6 hB hA hN hC (by show 0<=sizeLine;decide) hi (j:=.builtin "ValueError.__init__") (Looks.of_pure (Fn.init.bind _)) ?_
 have hC2:((hh.push { cls:=.type "tuple",data:=.seq ([]:List Value).toArray }).push (L2.newExc C hh.objs.size)).get? C=some _:=Heap.get?_push_of_some _ (Heap.get?_push_of_some _ hC)
 have he2:((hh.push { cls:=.type "tuple",data:=.seq ([]:List Value).toArray }).push (L2.newExc C hh.objs.size)).get? (hh.objs.size+1)=some (L2.newExc C hh.objs.size):=by
  have:=Heap.get?_push_size (hh.push { cls:=.type "tuple",data:=.seq ([]:List Value).toArray }) (o:=L2.newExc C hh.objs.size) rfl
  rwa [Heap.size_push] at this
 refine tN hB hC2 he2 λh' g1 g3=>⟨rfl,.ref (hh.objs.size+1),_,?_,rfl,h _ n1⟩
 have e:upd (upd H (hh.objs.size+1) (XN (hh.objs.size+1) C none)) (hh.objs.size+1) (XN (hh.objs.size+1) C none)=upd H (hh.objs.size+1) (XN (hh.objs.size+1) C none):=by
  funext b
  by_cases z:b=hh.objs.size+1
  ·rw [z,af,af]
  ·rw [ao z]
 have W:=I2.write (x:=hh.objs.size+1) (e:=hh.objs.size+1) (o:=XN (hh.objs.size+1) C none) (h':=h') (t':=tk) (by rw [af];exact True.intro) (.inl rfl) (λb u hb q=>g3 b u hb q) ⟨_,g1⟩ (XN.ok g1)
 rw [e] at W
 exact W
end
def EN (H:Hp) (x C:Addr) (dd:Option Addr):Prop:=H x=some (XO x C dd)∨H x=some (XN x C dd)
def E4 (K:PySem.W.Frag) (ta:TE) (f:Str):TE:=λσ H Q=>ta σ H λxv H1=>∃ x C dx fs v,xv=.ref x/\EN H1 x C (some dx)/\cF K C/\findIn K (.ref C) f=some none/\H1 dx=some (.xd fs)/\fs.lookup f=some v/\Q v H1
section
variable {X:Cx} {e:Expr} {f:Str} {pos:Pos} {ta:TE}
end
section
variable {prog:Program} {w:World} {A:Around} {E:Value->Shared->Prop} {K:PySem.W.Frag} {h:Heap} {g:Array GenState} {d:Drawn} {t:Nat} {os:OsState} {x C B:Addr}
theorem cF.base (c:cF K C):mroIn K C (.type "BaseException")=some true:=by
 obtain⟨cd,hc,hm,_⟩:=c.cls
 obtain⟨m1,m2,m3⟩:=mv hm
 unfold mroIn
 rw [hc,Option.bind_some,if_neg (by rw [m3];decide),m2]
theorem tO {dd:Option Addr} {vs:Array Value} {sl:Array (Option Value)} {Q:Bool->Shared->Prop} (X:K.In h) (c:cF K C) (b:cF K B) (he:h.get? x=some ⟨.ref C,dd,.fields vs,sl⟩) (hs:mroIn K C (.ref B)=some true)
  (hq:Q true ⟨h,g,d,t,os⟩):wpAny (model prog w) A (excMatches (.ref x) (.ref B)) Q E ⟨h,g,d,t,os⟩:=by
 have f:=tc_notTuple
 have L1:=looks_mroIn (M:=model prog w) X hs
 have L2:=looks_mroIn (M:=model prog w) X b.base
 have L3:=looks_mroIn (M:=model prog w) X c.base
 obtain⟨od,cd,sc,hk⟩:=b.at_
 have hB:=X _ _ hk
 unfold excMatches
 repeat (first | with_reducible refine wpAny_loadPart_at he ?_ | with_reducible refine wpAny_loadPart_at hB ?_ | with_reducible refine Looks.at L1 ?_ | with_reducible refine Looks.at L2 ?_ | with_reducible refine Looks.at L3 ?_ | wp_step)
 exact hq
end
section
variable {M:Model} {A:Around} {E:Value->Shared->Prop} {s:Shared}
end
section
variable {X:Cx} {pins:List (Addr × Obj)} {σ:St} {H:Hp} {s:Shared} {M:Model} {A:Around} {E:Value->Shared->Prop}
end
def Ca (X:Cx) (x:Addr):Cx:={ X with A:=X.A.mark (some (.ref x)),calm:=false,xe:=λ_ _=>False }
section
variable {X:Cx} {pins:List (Addr × Obj)} {σ:St} {H:Hp} {s:Shared} {x:Addr}
theorem Inv.EV (I:Inv X pins σ H s) (x:Addr):Inv (Ca X x) pins σ H s :=
 ⟨⟨I.ok.mod,I.ok.kind,I.ok.glob,I.ok.blt,I.ok.above,I.ok.inj,I.ok.has,I.ok.cab,λz=>absurd (show false=true from z) (by decide),I.ok.frames,I.ok.stk,I.ok.exf,I.ok.bs,I.ok.bsz,I.ok.noex,I.ok.exfs,I.ok.iL,I.ok.frf⟩,I.os,I.bare,I.base,I.loc,I.cell,I.free,I.freeC,I.pin,I.hok,I.len⟩
theorem Inv.zt (ok:X.Ok) (I:Inv (Ca X x) pins σ H s):Inv X pins σ H s:=⟨ok,I.os,I.bare,I.base,I.loc,I.cell,I.free,I.freeC,I.pin,I.hok,I.len⟩
theorem landed {E:XK} {ev:Value} {s' s1:Shared} {H1:Hp} {Q:Unit->Shared->Prop} {E':Value->Shared->Prop} (hst:X.stack=X.env::X.outer) (hfr:X.env.frame=some X.env.locals) (I:Inv X pins σ H1 s1) (hq:dO X.prog X.w X.stack H1 s1 E ev s')
  (h:∀ x C T dd H' h',ev=.ref x->Inv X pins σ H' { s' with heap:=h' }->Tr h' x (.ref C) dd T .none->H' T=none->H' x=some (XO x C dd)->E (.ref C) (some x) H'->(X.env.locals<T/\(∀ y c,X.env.cells.lookup y=some c->c≠T)/\∀ p∈X.pn++pins,p.1≠T)->Q () { s' with heap:=h' }) :
  wpAny (model X.prog X.w) X.A (noteFrame ev X.env) (λ_ s2=>wpAny (model X.prog X.w) X.A (setFlight ev none) Q E' s2) E' s':=by
 obtain⟨x,C,T,dd,H',rfl,os,bare,un,hok,tr,nx,nT,hT,hx,hE⟩:=hq
 have hl:=gR I.stack un I.cJ (λb _=>by simp)
 have frN:∀ b∈c9 X.stack,H' b=none:=λb hb=>by
  obtain⟨_,o,ho,_⟩:=I.stack.mem hb
  exact un.free b o ho (I.cJ b hb) (by simp)
 have fr:=I.ok.frames
 have old:∀ b o,s1.heap.get? b=some o->b∉[x,T]:=λb o q hb=>by
  rcases List.mem_cons.mp hb with z | z
  ·rw [z,nx] at q;cases q
  ·rw [List.mem_singleton.mp z,nT] at q;cases q
 rw [hst] at hl fr
 refine lK (L:=X.env.locals) fr hl hfr tr λh1 T' t1 n1 k1=>?_
 refine land (fs:=c9 (X.env::X.outer)) t1 λh2 t2 k2=>?_
 rw [<- hst] at k1 k2
 have k3:Kp (c9 X.stack) [x,T] s'.heap h2:=⟨λb o hb hf q=>k2.keep b o (λz=>by simp at z;rw [z] at q;exact absurd (Heap.lt_size q) (Nat.not_lt.mpr n1)) hf (k1.keep b o hb hf q),λb o hb q=>by
  obtain⟨s1',q1⟩:=k1.slot b o hb q
  obtain⟨s2',q2⟩:=k2.slot b _ (λz=>by simp at z;rw [z] at q;exact absurd (Heap.lt_size q) (Nat.not_lt.mpr n1)) q1
  exact⟨s2',q2⟩⟩
 obtain⟨vs,sl,oT,ts,he,r'⟩:=t2
 have below:∀ b o,s1.heap.get? b=some o->b<T':=λb o q=>by
  obtain⟨o1,q1⟩:=un.there b o q (by simp)
  exact Nat.lt_of_lt_of_le (Heap.lt_size q1) n1
 have fT:X.env.locals<T'/\(∀ y c,X.env.cells.lookup y=some c->c≠T')/\∀ p∈X.pn++pins,p.1≠T':=by
  refine⟨?_,λy c e=>?_,λp hp=>?_⟩
  ·obtain⟨m,⟨o,_,_,ho,_⟩,_⟩:=I.loc
   exact below _ o ho
  ·obtain⟨v,o,ho,_⟩:=I.cell y c e
   exact Nat.ne_of_lt (below _ o ho)
  ·exact Nat.ne_of_lt (below _ _ (I.pin p hp).1)
 refine h x C T' dd H' h2 rfl ?_ ⟨vs,sl,oT,ts,he,r'⟩ (hok.fresh n1) hx hE fT
 refine I.Ae (s':={ s' with heap:=h2 }) (ch:=[]) os ⟨λb o q nn hb _=>?_,λb o q nn hb _=>?_,λb o q nn _=>un.free b o q nn (by simp),λb o q _=>?_,un.tups,un.frzs,un.tbls⟩ ?_ bare (λb hb=>absurd hb (by simp))
 ·exact k3.keep b o (old b o q) hb (un.keep b o q nn hb (by simp))
 ·obtain⟨s1',q1⟩:=un.any q nn (by simp)
  obtain⟨s2',q2⟩:=k3.slot b _ (old b o q) q1
  exact⟨s2',q2⟩
 ·obtain⟨o1,q1⟩:=un.there b o q (by simp)
  obtain⟨s2',q2⟩:=k3.slot b _ (old b o q) q1
  exact⟨_,q2⟩
 ·exact gQ hok k3 (λb hb=>by
   rcases List.mem_cons.mp hb with z | z
   ·exact .inl z
   ·exact .inr (by rw [List.mem_singleton.mp z];exact hT)) frN hx he
def tQ (n:Option Nat) (x:Addr) (σ:St):St:=match n with | some i=>σ.set i (some (.ref x)) | none=>σ
def lz (n:Option Nat) (D:Ends):Ends:=match n with
 | some i=>{ nx:=λσ H=>D.nx (σ.set i none) H,rt:=D.rt,bk:=λσ H=>D.bk (σ.set i none) H,ct:=λσ H=>D.ct (σ.set i none) H }
 | none=>D
theorem tT {c:Str} {np hpos:Pos} {b₀:Stmt} {suite:List Stmt} {ts:TS} {D:Ends} {C B T:Addr} {dd:Option Addr} (I:Inv X pins σ H s) (tr:Tr s.heap x (.ref C) dd T .none) (hT:H T=none) (fT:X.env.locals<T/\(∀ y c,X.env.cells.lookup y=some c->c≠T)/\∀ p∈X.pn++pins,p.1≠T)
  (cC:cF X.K C) (cB:cF X.K B) (hs:mroIn X.K C (.ref B)=some true) (hg:Gl X c) (hm:X.mg c=some (.ref B))
  (ht:iD (Ca X x) (b₀::suite) ts) (h:ts D σ H) (hdb:(c==("__debug__":Str))=false:=by decide) :
  wpAny (model X.prog X.w) X.A (handleBy (.ref x) X.env [.ExceptHandler (some (.Name c np)) none (b₀::suite) hpos]) (SP X pins D) X.xe s:=by
 have J:=I.EV x
 obtain⟨vs,sl,oT,tsv,he,r'⟩:=tr
 refine wpAny_handleBy_cons (codeAny_handlers_test (eB (X:=Ca X x) J hg hm ?_ hdb)) (by intro q;cases q)
 obtain⟨hh,g,d,tk,os⟩:=s
 refine tO I.d6 cC cB he hs ?_
 refine codeAny_handlers_suite (land (s:=⟨hh,g,d,tk,os⟩) (fs:=[]) ⟨vs,sl,oT,tsv,he,r'⟩ λh' t' k'=>?_)
 have J1:Inv (Ca X x) pins σ H { (⟨hh,g,d,tk,os⟩:Shared) with heap:=h' }:=J.turned (t':=tk) (it:=T) (λb o hb e=>k'.keep b o (by simpa using hb) (by simp) e) hT (Nat.ne_of_gt fT.1) (.inr (Nat.le_trans I.ok.above (Nat.le_of_lt fT.1))) fT.2.1 fT.2.2
 refine wpAny_mono (ht pins _ _ H _ J1 h) (λfl s3 q=>?_) λ_ _ z=>False.elim z
 cases fl with
 | next=>obtain⟨σ',H',I',q⟩:=q;exact⟨σ',H',I'.zt I.ok,q⟩
 | brk=>obtain⟨σ',H',I',q⟩:=q;exact⟨σ',H',I'.zt I.ok,q⟩
 | cont=>obtain⟨σ',H',I',q⟩:=q;exact⟨σ',H',I'.zt I.ok,q⟩
 | ret u=>obtain⟨v,σ',H',I',rv,q⟩:=q;exact⟨v,σ',H',I'.zt I.ok,rv,q⟩
end
def PH (X:Cx) (n:Option Nat) (B:Addr) (hd:ExceptHandler) (ts:TS):Prop:=∀(pins:List (Addr × Obj)) (σ:St) (H:Hp) (s:Shared) (x C T:Addr) (dd:Option Addr) (D:Ends),Inv X pins σ H s->Tr s.heap x (.ref C) dd T .none->H T=none ->
 (X.env.locals<T/\(∀ y c,X.env.cells.lookup y=some c->c≠T)/\∀ p∈X.pn++pins,p.1≠T)->cF X.K C->mroIn X.K C (.ref B)=some true->ts (lz n D) (tQ n x σ) H->wpAny (model X.prog X.w) X.A (handleBy (.ref x) X.env [hd]) (SP X pins D) X.xe s
def Dm (K:PySem.W.Frag) (B:Addr) (n:Option Nat) (sp:Sp) (ta:TA) (put:V->St->St) (ts:TS):TS:=λD σ H=>ta σ H λvs H1=>sp vs H1 (λv H2=>D.nx (put v σ) H2)
 (λcv xo H2=>∃ C x dd,cv=.ref C/\xo=some x/\H2 x=some (XO x C dd)/\cF K C/\mroIn K C (.ref B)=some true/\ts (lz n D) (tQ n x σ) H2)
section
variable {X:Cx} {B:Addr} {n:Option Nat} {hd:ExceptHandler} {ts:TS}
theorem CQ {c:Str} {np hpos:Pos} {b₀:Stmt} {suite:List Stmt} (cB:cF X.K B) (hg:Gl X c) (hm:X.mg c=some (.ref B)) (ht:∀ x,iD (Ca X x) (b₀::suite) ts)
  (hdb:(c==("__debug__":Str))=false:=by decide):PH X none B (.ExceptHandler (some (.Name c np)) none (b₀::suite) hpos) ts :=
 λpins σ H s x C T dd D I tr hT fT cC hs h=>tT I tr hT fT cC cB hs hg hm (ht x) h hdb
variable {k:Nat} {f:Str} {ps:List Str} {sp:Sp} {e:Expr} {es:List Expr} {t:TA} {p cpos epos pos:Pos}
theorem A9 {pins:List (Addr × Obj)} {σ:St} {D:Ends} {E:XK} {ev:Value} {s' s1:Shared} {H1:Hp} (hst:X.stack=X.env::X.outer) (hfr:X.env.frame=some X.env.locals) (hh:PH X n B hd ts) (I:Inv X pins σ H1 s1) (hq:dO X.prog X.w X.stack H1 s1 E ev s')
  (hE:∀ C x H',E (.ref C) (some x) H'->cF X.K C/\mroIn X.K C (.ref B)=some true/\ts (lz n D) (tQ n x σ) H') :
  wpAny (model X.prog X.w) X.A (noteFrame ev X.env) (λ_ s2=>wpAny (model X.prog X.w) X.A (setFlight ev none) (λ_ s3=>wpAny (model X.prog X.w) X.A (handleBy ev X.env [hd]) (SP X pins D) X.xe s3) X.xe s2) X.xe s':=by
 refine landed hst hfr I hq λx C T dd H' h' ee I' tr hT hx e fT=>?_
 subst ee
 obtain⟨c1,c2,c3⟩:=hE C x H' e
 exact hh pins σ H' _ x C T dd D I' tr hT fT c1 c2 c3
end
section
variable {P:Program} {w:World} {K:PySem.W.Frag} {mg:Str->Option Value} {base:Heap} {k:Nat} {x:Str} {ps:List Str} {sp:Sp}
theorem qw {st:Stmt} {N:List Str} (D:ay K mg x st)
  (hb:∀(kV doc pm:Value) (an:Option Addr) (cdv ct:Value) (us:List Value),us.length=ps.length->bindArgs (PySem.W.fnOf x x (aR st) (aH st) (aj st) .none kV doc pm an cdv ct) ⟨us,[]⟩=pure (ps.zip us))
  (S:av N ps (aj st)) (len:∀ vs H Q E,sp vs H Q E->vs.length=ps.length)
  (hbody:∀(f:Addr) (cdv:Value) (A:Around) (outer:List Env) (s:Shared) (H:Hp) (vs:List V) (Q:VK) (E:XK),bF k (A.deeper (envOfC x (aj st) s.heap.objs.size f cdv))->sp vs H Q E ->
   ∃ t,iD (cQ (dO P w) P w K mg base N x (aj st) f cdv A outer s H E) (aH st) t/\t { nx:=λ_ H'=>Q .non H',rt:=Q } (start N vs) H):Callee P w K mg base (dO P w) (k+1) x ps sp:=by
 obtain⟨f,fd,F,hm⟩:=D
 obtain⟨oc,od,kV,doc,pm,an,cdv,ct,osl,rfl,lk,hcd⟩:=F.ex
 exact⟨f,_,vE lk hcd S len λA outer s H vs Q E hr h=>hbody f cdv A outer s H vs Q E hr h,hm,F.kp,F.binds hb⟩
theorem Callee.any {CX:jq} (C:Callee P w K mg base aO k x ps sp):Callee P w K mg base CX k x ps sp:=by
 obtain⟨f,fd,F,a,b,c⟩:=C.ex
 exact⟨f,fd,F.any,a,b,c⟩
end
theorem yK {P:Program} {w:World} {K:PySem.W.Frag} {mg:Str->Option Value} {base:Heap} {qual f p:Str} {st:Stmt} {fi:Addr} {fd:FuncData} {p1 p2 p3 p4:Pos} (F:uS K "__init__" qual st fi fd) (S:av ["self",p] ["self",p] (aj st))
  (hb:aH st=[.Assign [.Attribute (.Name "self" p1) f p2] (.Name p p3) p4]) (h1:(aj st).names.lookup ("self":Str)=some .local) (h2:(aj st).names.lookup p=some .local) (hd:(p==("__debug__":Str))=false) (hcd:(p==("__classdict__":Str))=false)
  (ab:∀ env:Env,attributeBase (.Name "self" p1) f env (eval (.Name "self" p1) env)=eval (.Name "self" p1) env) (sw:∀ env:Env,swapsWith (.Name p p3) (some (.Attribute (.Name "self" p1) f p2)) p4.line env=pure false):cq P w K mg base aO 1 fi fd ["self",p] (ni K f):=by
 refine F.ok S (λvs H Q E h=>?_) (λcdv A outer s H vs Q E hr h=>?_)
 ·obtain⟨x,C,v,rfl,_⟩:=h
  rfl
 ·obtain⟨x,C,v,rfl,hx,c,hf,q⟩:=h
  rw [hb]
  refine⟨_,ak (zF (rf (i:=0) rfl (.inl h1) (by decide) (by decide)) (rf (i:=1) rfl (.inl h2) hd hcd) (sw _)),?_⟩
  exact⟨v,rfl,.ref x,rfl,x,C,rfl,hx,c,hf,λdx n ne=>q dx n ne⟩
structure yj (P:Program) (w:World) (K:PySem.W.Frag) (mg:Str->Option Value) (base:Heap) (x:Str) (C:Addr) (f:Str):Prop where
 mkd:ya K C
 cls:cF K C
 at_:mg x=some (.ref C)
 nof:findIn K (.ref C) f=some none
 ex:∃ fi fd p,findIn K (.ref C) "__init__"=some (some (.ref fi))/\isFn K (.ref fi)=true/\cq P w K mg base aO 1 fi fd ["self",p] (ni K f)/\Binds K fd ["self",p] []
structure uY (K:PySem.W.Frag) (mg:Str->Option Value) (x:Str) (C:Addr):Prop where
 mkd:ya K C
 cls:cF K C
 at_:mg x=some (.ref C)
 ini:findIn K (.ref C) "__init__"=some (some (.builtin "ValueError.__init__"))
section
variable {X:Cx} {C:Addr} {f x:Str} {pos np:Pos} {e:Expr} {t:TA}
theorem wQ (c:yj X.prog X.w X.K X.mg X.base x C f) (hr:bF 2 X.A) (hg:Gl X x) (ha:PA X [e] t) (hdb:(x==("__debug__":Str))=false:=by decide)
  (he:starEach [e] X.env=(false,eval e X.env)::starEach [] X.env:=by rfl) (hpl:(backTo pos (starEach [] X.env)).any (·.1)=false:=by rfl):PE X (.Call (.Name x np) [e] [] pos) (BX C f t):=by
 obtain⟨fi,fd,p,hi,fn,F,hb⟩:=c.ex
 exact uC c.mkd c.cls hi fn c.nof F hr hg c.at_ hb ha hdb he hpl
theorem wO (c:uY X.K X.mg x C) (hg:Gl X x) (hdb:(x==("__debug__":Str))=false:=by decide):PE X (.Call (.Name x np) [] [] pos) (BW C):=uB c.mkd c.ini hg c.at_ hdb
end
inductive AU (K:PySem.W.Frag) (H:Hp):Nat->V->V->Bool->Prop
 | flat {d:Nat} {y x:V}:cW y=true->cW x=true->AU K H d y x (mn y x)
 | same {d:Nat} {p:Addr}:AU K H d (.ref p) (.ref p) true
 | lists {d:Nat} {p q:Addr} {xs ys:List V} {e:Nat->Bool}:p≠q->aM K H p xs->aM K H q ys->xs.length=ys.length->(∀ j y x,xs[j]?=some y->ys[j]?=some x->AU K H d y x (e j))->AU K H (d+1) (.ref p) (.ref q) ((List.range xs.length).all e)
 | unlike {d:Nat} {p q:Addr} {xs ys:List V}:p≠q->aM K H p xs->aM K H q ys->xs.length≠ys.length->AU K H (d+1) (.ref p) (.ref q) false
 | tups {d:Nat} {p q:Addr} {xs ys:List V} {e:Nat->Bool}:p≠q->bE K H p xs->bE K H q ys->(∀ j y x,xs[j]?=some y->ys[j]?=some x->AU K H d y x (e j))->AU K H (d+1) (.ref p) (.ref q) ((List.range (min xs.length ys.length)).all e && xs.length==ys.length)
section
variable {X:Cx} {pins:List (Addr × Obj)} {σ:St} {H:Hp} {s:Shared}
theorem Vals.at {xs:List V} {us:List Value} (r:Vals xs us):∀{j:Nat} {u:Value},us[j]?=some u->∃ x,xs[j]?=some x/\RelV x u:=by
 induction r with
 | nil=>intro j u h;simp at h
 | cons r t ih =>
  intro j u h
  cases j with
  | zero=>simp only [List.getElem?_cons_zero,Option.some.injEq] at h;subst h;exact⟨_,rfl,r⟩
  | succ j=>simp only [List.getElem?_cons_succ] at h ⊢;exact ih h
theorem Vals.len {xs:List V} {us:List Value} (r:Vals xs us):us.length=xs.length:=by
 induction r with
 | nil=>rfl
 | cons r t ih=>simp only [List.length_cons,ih]
end
theorem cP {A B:Prop} (a:A) (f:A->B):B:=f a
section
variable {K:PySem.W.Frag} {mg:Str->Option Value} {h:Heap} {x f p qual:Str} {C D fi N:Addr}
section
variable {nm q:Str} {bs bm:List Value} {hdct ab:Bool} {sn:Option Str} {od:Option Addr} {cd:ClassData} {sl:Array (Option Value)}
theorem B4 {o:Obj} (l:K.lookup C=some o) (ob:∃ nm q N bs bm hdct sn sub ab col dd k0 k1 k2 k3 k5,o=excClassObj nm q C N bs bm hdct sn sub ab col dd k0 k1 k2 k3 k5 kQ/\bm.contains (.type "ValueError")=true/\bm.contains (.type "AttributeError")=false/\bm.contains (.type "NameError")=false) (kp:keepIn K (.ref C)=true):ya K C:=by
 obtain⟨nm,q,N,bs,bm,hdct,sn,sub,ab,col,dd,k0,k1,k2,k3,k5,e,r⟩:=ob
 subst e
 exact⟨⟨nm,q,N,bs,bm,hdct,sn,sub,ab,col,dd,k0,k1,k2,k3,k5,l,r⟩,kp⟩
theorem z7 (l:K.lookup C=some ⟨.type "type",od,.cls cd,sl⟩) (h2:bU cd.mro=true) (h3:cd.hasDict=true)
  (sa:findIn K (.ref C) "__setattr__"=some (some (.builtin "object.__setattr__"))) (ga:findIn K (.ref C) "__getattribute__"=some (some (.builtin "BaseException.__getattribute__"))) (gx:findIn K (.ref C) "__getattr__"=some none)
  (ca:findIn K (.ref C) "__class__"=some (some (.builtin "object.__class__"))) (gs:specialIn K (.builtin "object.__class__") "__get__"=some (some (.builtin "getset_descriptor.__get__"))) (tk:takesIn K (.builtin "object.__class__")=some true):L2.cF K C :=
 ⟨⟨cd,by unfold clsIn;rw [l],h2,h3⟩,⟨_,_,_,l⟩,sa,ga,gx,ca,gs,tk⟩
theorem ny (a:mg x=some (.ref C)) (M:ya K C) (c:cF K C) (ini:findIn K (.ref C) "__init__"=some (some (.builtin "ValueError.__init__"))):uY K mg x C:=⟨M,c,a,ini⟩
structure qh (qual f p:Str) (st:Stmt):Prop where
 S:av ["self",p] ["self",p] (aj st)
 hb:∃ p1 p2 p3 p4,aH st=[.Assign [.Attribute (.Name "self" p1) f p2] (.Name p p3) p4]/\(∀ env:Env,attributeBase (.Name "self" p1) f env (eval (.Name "self" p1) env)=eval (.Name "self" p1) env)/\(∀ env:Env,swapsWith (.Name p p3) (some (.Attribute (.Name "self" p1) f p2)) p4.line env=pure false)
 h1:(aj st).names.lookup ("self":Str)=some .local
 h2:(aj st).names.lookup p=some .local
 hd:(p==("__debug__":Str))=false
 hcd:(p==("__classdict__":Str))=false
 bd:∀(kV doc pm:Value) (an:Option Addr) (cdv ct:Value) (us:List Value),us.length=2->bindArgs (PySem.W.fnOf "__init__" qual (aR st) (aH st) (aj st) .none kV doc pm an cdv ct) ⟨us,[]⟩=pure ((["self",p]:List Str).zip us)
theorem sT {st:Stmt} {oc:Value} {od an:Option Addr} {osl:Array (Option Value)} {kV doc pm cdv ct:Value} (I:qh qual f p st) (a:mg x=some (.ref C)) (M:ya K C) (c:cF K C) (nof:findIn K (.ref C) f=some none)
  (ini:findIn K (.ref C) "__init__"=some (some (.ref fi))) (fn:isFn K (.ref fi)=true) (l:K.lookup fi=some ⟨oc,od,.func (PySem.W.fnOf "__init__" qual (aR st) (aH st) (aj st) .none kV doc pm an cdv ct),osl⟩) (cc:codeIn K cdv qual=true) (kk:keepIn K (.ref fi)=true) :
  ∀(P:Program) (w:World) (base:Heap),yj P w K mg base x C f:=λP w base=>by
 obtain⟨p1,p2,p3,p4,hb,ab,sw⟩:=I.hb
 have F:=qE l cc kk
 exact⟨M,c,a,nof,fi,_,p,ini,fn,yK F I.S hb I.h1 I.h2 I.hd I.hcd ab sw,F.binds I.bd⟩
end
theorem iC {od:Option Addr} {cd:ClassData} {sl:Array (Option Value)} (_:K.In h) (_:mg x=some (.ref C)) (l:K.lookup C=some ⟨.type "type",od,.cls cd,sl⟩) (h2:bU cd.mro=true) (h3:cd.hasDict=true)
  (sa:findIn K (.ref C) "__setattr__"=some (some (.builtin "object.__setattr__"))) (ga:findIn K (.ref C) "__getattribute__"=some (some (.builtin "BaseException.__getattribute__"))) (gx:findIn K (.ref C) "__getattr__"=some none)
  (ca:findIn K (.ref C) "__class__"=some (some (.builtin "object.__class__"))) (gs:specialIn K (.builtin "object.__class__") "__get__"=some (some (.builtin "getset_descriptor.__get__"))) (tk:takesIn K (.builtin "object.__class__")=some true)
  (ob:∃ nm q N bs bm hdct sn sub ab col dd k0 k1 k2 k3 k5,(⟨.type "type",od,.cls cd,sl⟩:Obj)=excClassObj nm q C N bs bm hdct sn sub ab col dd k0 k1 k2 k3 k5 kQ/\bm.contains (.type "ValueError")=true/\bm.contains (.type "AttributeError")=false/\bm.contains (.type "NameError")=false) (kp:keepIn K (.ref C)=true):cF K C/\ya K C :=
 ⟨z7 l h2 h3 sa ga gx ca gs tk,B4 l ob kp⟩
theorem Bv {b:Bool} (_:cF K C/\ya K C) (_:cF K D/\ya K D) (m:mroIn K C (.ref D)=some b):mroIn K C (.ref D)=some b:=m
end
end L2
namespace Pw
theorem kx (x n:Int):∀ k:Nat,(x%n)^k%n=x^k%n
 | 0=>by rw [Int.pow_zero,Int.pow_zero]
 | k+1=>by rw [Int.pow_succ,Int.pow_succ,Int.mul_emod,kx x n k,Int.emod_emod,<- Int.mul_emod]
theorem xH (b:Int):∀ k:Nat,(b*b)^k=b^(2*k)
 | 0=>by rw [Nat.mul_zero,Int.pow_zero,Int.pow_zero]
 | k+1=>by
  rw [Int.pow_succ,xH b k,Nat.mul_add,Nat.mul_one,Int.pow_succ,Int.pow_succ,Int.mul_assoc]
theorem vZ (x y n:Int):x%n*y%n=x*y%n:=by rw [Int.mul_emod,Int.emod_emod,<- Int.mul_emod]
theorem Ar {x x' y y' n:Int} (h:x%n=x'%n) (h':y%n=y'%n):x*y%n=x'*y'%n:=by rw [Int.mul_emod,h,h',<- Int.mul_emod]
theorem step (r b n:Int) (l:Nat):(if l%2=1 then r*b%n else r)*(b*b%n)^(l/2)%n=r*b^l%n:=by
 have e:(b*b%n)^(l/2)%n=b^(2*(l/2))%n:=by rw [kx,xH]
 by_cases c:l%2=1
 ·rw [if_pos c]
  have h:l=2*(l/2)+1:=by omega
  have e2:b^l=b^(2*(l/2))*b:=by rw [<- Int.pow_succ];exact congrArg _ h
  rw [Ar (Int.emod_emod_of_dvd (r*b) (Int.dvd_refl n)) e,e2]
  congr 1
  rw [Int.mul_assoc,Int.mul_comm b]
 ·rw [if_neg c]
  have h:l=2*(l/2):=by omega
  rw [Ar (rfl:r%n=r%n) e,<- h]
theorem pow_add (a:Int) (m:Nat):∀ k:Nat,a^(m+k)=a^m*a^k
 | 0=>by rw [Nat.add_zero,Int.pow_zero,Int.mul_one]
 | k+1=>by rw [<- Nat.add_assoc,Int.pow_succ,pow_add a m k,Int.pow_succ,Int.mul_assoc]
theorem mul_pow (a b:Int):∀ k:Nat,(a*b)^k=a^k*b^k
 | 0=>by rw [Int.pow_zero,Int.pow_zero,Int.pow_zero,Int.mul_one]
 | k+1=>by
  rw [Int.pow_succ,Int.pow_succ,Int.pow_succ,mul_pow a b k]
  grind
theorem pow_mul (a:Int) (m:Nat):∀ k:Nat,a^(m*k)=(a^m)^k
 | 0=>by rw [Nat.mul_zero,Int.pow_zero,Int.pow_zero]
 | k+1=>by rw [Nat.mul_add,Nat.mul_one,pow_add,pow_mul a m k,Int.pow_succ]
theorem one_pow:∀ k:Nat,(1:Int)^k=1
 | 0=>Int.pow_zero 1
 | k+1=>by rw [Int.pow_succ,one_pow k,Int.mul_one]
theorem A4 {n x y:Int}:x%n=y%n↔n∣x-y:=by
 rw [Int.emod_eq_emod_iff_emod_sub_eq_zero,Int.dvd_iff_emod_eq_zero]
end Pw
namespace L2
open PySem PySem.Spec PyProof.Rows
theorem BG {X:Cx} {st:Stmt} {t:TS} (h:PS X.lL st t):PS X st t:=λpins s σ H D I hw =>
 wpAny_mono (h pins s σ H D (I.iB _) hw) (λ_ _ q=>q.c8) λ_ _ z=>False.elim z
end L2
namespace L2
open PySem PySem.Spec PyProof.Rows PySem.W
theorem Vals.rev:∀{xs:List V} {us:List Value},Vals xs us->Vals xs.reverse us.reverse
 | [],[],_=>.nil
 | x::xs,u::us,.cons r t=>by
  rw [List.reverse_cons,List.reverse_cons]
  exact (Vals.rev t).append (.cons r .nil)
def Dl (K:PySem.W.Frag) (te:TE) (tk:TO):TE:=λσ H Q=>te σ H λx H1=>tk σ H1 λo H2=>o=some (-1)/\∃ a xs,x=.ref a/\aM K H2 a xs/\∀ p,H2 p=none->Q (.ref p) (upd H2 p (.lst xs.reverse))
section
variable {X:Cx} {e k:Expr} {te:TE} {tk:TO} {p2 pos:Pos}
theorem BF (he:PE X e te) (hk:PO X (some k) tk)
  (hs:∀ a b:Addr,∃ ops,subscripted (.Slice none none (some k) p2) false (.ref a) (.ref b)=operate ops (getItem (.ref a) (.ref b)):=by intro a b;exact⟨_,by with_unfolding_all rfl⟩):PE X (.Subscript e (.Slice none none (some k) p2) pos) (Dl X.K te tk):=by
 intro pins s σ H Q I h
 refine Subscript_ (aQ (he pins s σ H _ I h) λv s1 ⟨x,H1,I1,r1,q1⟩=>?_)
 refine wpAny_Slice ?_
 rw [evalPart_none]
 refine wpAny_pure (wpAny_pure ?_)
 refine aQ (hk pins s1 σ H1 _ I1 q1) λvk s3 ⟨o,H3,I3,pk,eo,a,xs,ex,hx,q3⟩=>?_
 subst eo
 subst ex
 cases r1
 have I4:Inv X pins σ H3 { s3 with heap:=s3.heap.push { cls:=.type "slice",data:=.fields #[.none,.none,vk] } }:=I3.kept (t':=s3.toks) λb ob q=>Heap.get?_push_of_some _ q
 obtain⟨its,r,ht,hz⟩:=I4.list hx
 have hlen:=r.length
 show wpAny (model X.prog X.w) X.A (subscriptTail e (.Slice none none (some k) p2) (.ref a) (.ref s3.heap.objs.size)) (EP X pins σ Q) X.xe { s3 with heap:=s3.heap.push { cls:=.type "slice",data:=.fields #[.none,.none,vk] } }
 obtain⟨ops,hops⟩:=hs a s3.heap.objs.size
 refine tail_any (ops:=ops) ht.isList.typeIs slot_list_getitem.lookup ?_ hops
 refine wpAny_getItem_list_slice ht.isList (Heap.IsSliceOf.new ..) .none .none pk (by simp) ?_ (by rw [List.size_toArray]<;>omega)
 rw [krv_pick]
 refine⟨.ref _,_,I4.laid (t':=s3.toks) (o:=.lst xs.reverse) (λb ob q=>Heap.get?_push_of_some _ q) (Nat.le_refl _) ?_,rfl,q3 _ (I4.hok.fresh (Nat.le_refl _))⟩
 exact⟨by rw [List.length_reverse];exact hz,_,0,r.rev,Heap.get?_push_size _ rfl⟩
end
mutual
def dv (K:PySem.W.Frag) (H:Hp):PyData->V->Prop
 | .none,v=>v=.non
 | .bool b,v=>v=.bl b
 | .int i,v=>v=.int i
 | .str x,v=>v=.str x
 | .list ds,v=>∃ p xs,v=.ref p/\aM K H p xs/\aF K H ds xs
 | .tuple ds,v=>∃ p xs,v=.ref p/\bE K H p xs/\aF K H ds xs
 | .dict _,_=>False
def aF (K:PySem.W.Frag) (H:Hp):List PyData->List V->Prop
 | [],xs=>xs=[]
 | d::ds,xs=>∃ x r,xs=x::r/\dv K H d x/\aF K H ds r
end
section
variable {K:PySem.W.Frag} {H H':Hp}
theorem Rd.same {a:Addr} {o:HO} (h:Rd H a o) (s:ax H H'):Rd H' a o:=by
 rcases h with h | ⟨b,h⟩
 ·exact .inl (s _ _ h)
 ·exact .inr ⟨b,s _ _ h⟩
theorem aM.same {a:Addr} {xs:List V} (h:aM K H a xs) (s:ax H H'):aM K H' a xs:=h.imp (λz=>z.same s) id
theorem bE.same {a:Addr} {xs:List V} (h:bE K H a xs) (s:ax H H'):bE K H' a xs:=h.imp (λz=>z.same s) id
mutual
theorem dv.same (s:ax H H'):∀(d:PyData) {v:V},dv K H d v->dv K H' d v
 | .none,_,h=>h
 | .bool _,_,h=>h
 | .int _,_,h=>h
 | .str _,_,h=>h
 | .list ds,_,⟨p,xs,e,h,t⟩=>⟨p,xs,e,h.same s,aF.same s ds t⟩
 | .tuple ds,_,⟨p,xs,e,h,t⟩=>⟨p,xs,e,h.same s,aF.same s ds t⟩
 | .dict _,_,h=>h.elim
theorem aF.same (s:ax H H'):∀(ds:List PyData) {xs:List V},aF K H ds xs->aF K H' ds xs
 | [],_,h=>h
 | d::ds,_,⟨x,r,e,h,t⟩=>⟨x,r,e,dv.same s d h,aF.same s ds t⟩
end
theorem aF.length:∀{ds:List PyData} {xs:List V},aF K H ds xs->xs.length=ds.length
 | [],_,h=>by cases h;rfl
 | d::ds,_,⟨x,r,e,h,t⟩=>by subst e;rw [List.length_cons,List.length_cons,aF.length t]
theorem aF.get:∀{ds:List PyData} {xs:List V},aF K H ds xs->∀{i:Nat} {x:V},xs[i]?=some x->∃ d,ds[i]?=some d/\dv K H d x
 | [],_,h,i,x,e=>by cases h;simp at e
 | d::ds,_,⟨y,r,ey,h,t⟩,0,x,e=>by subst ey;simp at e;subst e;exact⟨d,rfl,h⟩
 | d::ds,_,⟨y,r,ey,h,t⟩,i+1,x,e=>by subst ey;simp at e;simpa using aF.get t e
theorem aF.append:∀{ds es:List PyData} {xs ys:List V},aF K H ds xs->aF K H es ys->aF K H (ds++es) (xs++ys)
 | [],_,_,_,h,h'=>by cases h;exact h'
 | d::ds,_,_,_,⟨x,r,e,h,t⟩,h'=>by subst e;exact⟨x,_,rfl,h,t.append h'⟩
theorem aF.one {d:PyData} {x:V} (h:dv K H d x):aF K H [d] [x]:=⟨x,[],rfl,h,rfl⟩
theorem aF.ints:∀ ns:List Int,aF K H (ns.map PyData.int) (ns.map V.int)
 | []=>rfl
 | n::ns=>⟨_,_,rfl,rfl,aF.ints ns⟩
theorem dv.lst {p:Addr} {xs:List V} {ds:List PyData} (h:H p=some (.lst xs)) (t:aF K H ds xs):dv K H (.list ds) (.ref p):=⟨p,xs,rfl,aM.of h,t⟩
theorem dv.tup {p:Addr} {xs:List V} {ds:List PyData} (h:H p=some (.tup xs)) (t:aF K H ds xs):dv K H (.tuple ds) (.ref p):=⟨p,xs,rfl,bE.of h,t⟩
theorem yo {α:Type} {xs:List α} {v:α} (h:xs.getLast?=some v):qc xs (-1)=some v:=by
 have l:0<xs.length:=by
  cases xs with
  | nil=>simp at h
  | cons=>simp
 unfold qc vP
 rw [if_neg (by decide),if_pos (by omega),Option.bind_some,show (-1+(xs.length:Int)).toNat=xs.length-1 by omega,<- List.getLast?_eq_getElem?,h]
mutual
def v5:PyData->Bool
 | .list _=>false
 | .tuple ds=>eV ds
 | _=>true
def eV:List PyData->Bool
 | []=>true
 | d::ds=>v5 d && eV ds
end
def SameBut (p:Addr) (H H':Hp):Prop:=∀ b o,b≠p->H b=some o->H' b=some o
theorem bE.but {p a:Addr} {us xs:List V} (hp:H p=some (.lst us)) (s:SameBut p H H') (h:bE K H a xs):bE K H' a xs:=by
 rcases h with (h | ⟨o,h⟩) | h
 ·exact .inl (.inl (s _ _ (λe=>by rw [e,hp] at h;cases h) h))
 ·exact .inl (.inr ⟨o,s _ _ (λe=>by rw [e,hp] at h;cases h) h⟩)
 ·exact .inr h
mutual
theorem dv.but {p:Addr} {us:List V} (hp:H p=some (.lst us)) (s:SameBut p H H'):∀(d:PyData) {v:V},v5 d=true->dv K H d v->dv K H' d v
 | .none,_,_,h=>h
 | .bool _,_,_,h=>h
 | .int _,_,_,h=>h
 | .str _,_,_,h=>h
 | .list ds,_,z,_=>by cases z
 | .tuple ds,_,z,⟨q,xs,e,h,t⟩=>⟨q,xs,e,h.but hp s,aF.but hp s ds z t⟩
 | .dict _,_,_,h=>h.elim
theorem aF.but {p:Addr} {us:List V} (hp:H p=some (.lst us)) (s:SameBut p H H'):∀(ds:List PyData) {xs:List V},eV ds=true->aF K H ds xs->aF K H' ds xs
 | [],_,_,h=>h
 | d::ds,_,z,⟨x,r,e,h,t⟩=>by
  have z':v5 d=true/\eV ds=true:=by simpa [eV] using z
  exact⟨x,r,e,dv.but hp s d z'.1 h,aF.but hp s ds z'.2 t⟩
end
theorem fk {α:Type} {f:α->PyData} (h:∀ x,v5 (f x)=true):∀ xs:List α,eV (xs.map f)=true
 | []=>rfl
 | x::xs=>by rw [List.map_cons,eV,h,fk h xs];rfl
end
section
variable {X:Cx} {pins:List (Addr × Obj)} {σ:St} {H:Hp} {s:Shared}
mutual
theorem fB (I:Inv X pins σ H s):∀(d:PyData) {v:V} {u:Value},dv X.K H d v->RelV v u->∃ as,Reads s.heap u d as
 | .none,_,u,h,r=>by cases h;cases r;exact⟨_,.none⟩
 | .bool _,_,u,h,r=>by cases h;cases r;exact⟨_,.bool _⟩
 | .int _,_,u,h,r=>by cases h;obtain⟨t,rfl⟩:=r;exact⟨_,.int _ _⟩
 | .str _,_,u,h,r=>by cases h;obtain⟨t,rfl⟩:=r;exact⟨_,.str _ _⟩
 | .list ds,_,u,⟨p,xs,e,h,t⟩,r=>by
  subst e
  cases r
  obtain⟨its,rr,pl,_⟩:=I.list h
  obtain⟨o,h1,h2,n,h3⟩:=pl.isList
  obtain⟨as,ra⟩:=fA I ds t rr
  exact⟨_,.list h1 h2 h3 (by simpa using ra)⟩
 | .tuple ds,_,u,⟨p,xs,e,h,t⟩,r=>by
  subst e
  cases r
  obtain⟨its,rr,pl,_⟩:=I.tuple h
  obtain⟨o,h1,h2,n,h3⟩:=pl
  obtain⟨as,ra⟩:=fA I ds t rr
  exact⟨_,.tuple h1 h2 h3 (by simpa using ra)⟩
 | .dict _,_,_,h,_=>h.elim
theorem fA (I:Inv X pins σ H s):∀(ds:List PyData) {xs:List V} {us:List Value},aF X.K H ds xs->Vals xs us->∃ as,ReadsAll s.heap us ds as
 | [],_,us,h,r=>by cases h;cases r;exact⟨_,.nil⟩
 | d::ds,_,us,⟨x,r,e,h,t⟩,rr=>by
  subst e
  cases rr with
  | cons r1 r2 =>
   obtain⟨a1,q1⟩:=fB I d h r1
   obtain⟨a2,q2⟩:=fA I ds t r2
   exact⟨_,.cons q1 q2⟩
end
def BI (K:PySem.W.Frag) (neg:Bool):R2:=λy x H Q=>∃ d e,dv K H d y/\dv K H e x/\d.canLay0=true/\e.canLay0=true/\min d.depth e.depth<=60/\Q (.bl (if neg then !PyData.eqv d e else PyData.eqv d e)) H
theorem wD (hu:X.A.units+64<cLine):gI X (compareOp .Eq) (BI X.K false):=by
 intro pins s σ H y x u v Q I ry rx h
 obtain⟨d,e,hd,he,c1,c2,c3,q⟩:=h
 obtain⟨as,ra⟩:=fB I d hd ry
 obtain⟨bs,rb⟩:=fB I e he rx
 exact SeqAt.compareEq_reads ra rb c1 c2 (by omega) ⟨.bl _,H,I,rfl,q⟩
theorem wF (hu:X.A.units+64<cLine):gI X (compareOp .NotEq) (BI X.K true):=by
 intro pins s σ H y x u v Q I ry rx h
 obtain⟨d,e,hd,he,c1,c2,c3,q⟩:=h
 obtain⟨as,ra⟩:=fB I d hd ry
 obtain⟨bs,rb⟩:=fB I e he rx
 exact SeqAt.compareNe_reads ra rb c1 c2 (by omega) ⟨.bl _,H,I,rfl,q⟩
end
end L2
namespace Pw
def lst (xs:List Nat):Nat:=xs.getLast?.getD 0
end Pw
namespace L2
open PySem PySem.Spec PyProof.Rows PySem.W
def AS (C:Addr) (H:Hp) (E:XK):Prop:=∀ x H',ax H H'->H x=none->H' x=some (XO x C none)->E (.ref C) (some x) H'
def Ef (C:Addr) (f:Str) (v:V) (H:Hp) (E:XK):Prop:=∀ x dx H',ax H H'->H x=none->H' x=some (XO x C (some dx))->H' dx=some (.xd [(f,v)])->E (.ref C) (some x) H'
theorem lu {K:PySem.W.Frag} {C x:Addr} {H H1:Hp} {E:XK} (c:cF K C) (hs:ax H H1) (hx:H1 x=none) (e:AS C H E) :
  ∃(C':Addr) (dd:Option Addr),upd H1 x (XN x C none) x=some (XN x C' dd)/\cF K C'/\H x=none/\E (.ref C') (some x) (upd (upd H1 x (XN x C none)) x (XO x C' dd)):=by
 refine⟨C,none,af,c,hs.free hx,e x _ ?_ (hs.free hx) af⟩
 intro b o q
 have q1:=hs _ _ q
 have bx:b≠x:=λy=>by rw [y,hx] at q1;cases q1
 rw [ao bx,ao bx]
 exact q1
theorem tM {K:PySem.W.Frag} {C x dx:Addr} {f:Str} {v:V} {H H1:Hp} {E:XK} (c:cF K C) (hs:ax H H1) (hx:H1 x=none) (hdx:H1 dx=none) (ne:dx≠x) (e:Ef C f v H E) :
  ∃(C':Addr) (dd:Option Addr),upd (upd (upd H1 x (XN x C none)) dx (.xd [(f,v)])) x (XN x C (some dx)) x=some (XN x C' dd)/\cF K C'/\H x=none/\E (.ref C') (some x) (upd (upd (upd (upd H1 x (XN x C none)) dx (.xd [(f,v)])) x (XN x C (some dx))) x (XO x C' dd)):=by
 refine⟨C,some dx,af,c,hs.free hx,e x dx _ ?_ (hs.free hx) af ?_⟩
 ·intro b o q
  have q1:=hs _ _ q
  have bx:b≠x:=λy=>by rw [y,hx] at q1;cases q1
  have bd:b≠dx:=λy=>by rw [y,hdx] at q1;cases q1
  rw [ao bx,ao bx,ao bd,ao bx]
  exact q1
 ·rw [ao ne,ao ne,af]
end L2
namespace Ld
structure uW (n r:Int):Prop where
 two:2<=r
 dv:r∣n
 no:∀ d:Int,2<=d->d<r->¬d∣n
structure Inv (n k:Int):Prop where
 two:2<=k
 odd:k=2∨k%2=1
 no:∀ d:Int,2<=d->d<k->¬d∣n
theorem Inv.step {n k:Int} (h:Inv n k) (hk:¬k∣n):Inv n (k+if k=2 then 1 else 2):=by
 have h2:=h.two
 by_cases c:k=2
 ·rw [if_pos c]
  refine⟨by omega,.inr (by omega),λd d0 d1=>?_⟩
  have:d=k:=by omega
  rw [this];exact hk
 ·rw [if_neg c]
  have ho:k%2=1:=by rcases h.odd with z | z;exact absurd z c;exact z
  refine⟨by omega,.inr (by omega),λd d0 d1 hd=>?_⟩
  rcases (by omega:d<k∨d=k∨d=k+1) with z | z | z
  ·exact h.no d d0 z hd
  ·subst z;exact hk hd
  ·have e2:(2:Int)∣d:=Int.dvd_of_emod_eq_zero (by omega)
   exact h.no 2 (by omega) (by omega) (Int.dvd_trans e2 hd)
end Ld
namespace L2
open PySem PySem.Spec PyProof.Rows PySem.W
section
variable {K:PySem.W.Frag} {H:Hp}
mutual
theorem eqv_refl:∀ d:PyData,d.canLay0=true->PyData.eqv d d=true
 | .none,_=>by simp [PyData.eqv]
 | .bool _,_=>by simp [PyData.eqv]
 | .int _,_=>by simp [PyData.eqv]
 | .str _,_=>by simp [PyData.eqv]
 | .list ds,h=>by simpa [PyData.eqv] using iK ds h
 | .tuple ds,h=>by simpa [PyData.eqv] using iK ds h
 | .dict _,h=>by simp [PyData.canLay0] at h
theorem iK:∀ ds:List PyData,PyData.canLayAll0 ds=true->PyData.eqvAll ds ds=true
 | [],_=>by simp [PyData.eqvAll]
 | d::ds,h=>by
  have h':d.canLay0=true/\PyData.canLayAll0 ds=true:=by simpa [PyData.canLayAll0] using h
  simp [PyData.eqvAll,eqv_refl d h'.1,iK ds h'.2]
end
theorem eY {neg:Bool} {v u:V} {d:PyData} {Q:VK} (h1:dv K H d v) (h2:dv K H d u) (hl:d.canLay0=true) (hd:d.depth<=60) (h:Q (.bl (!neg)) H):BI K neg v u H Q:=by
 refine⟨d,d,h1,h2,hl,hl,by omega,?_⟩
 rw [eqv_refl d hl]
 cases neg
 ·exact h
 ·exact h
end
end L2
namespace L2
open PySem PySem.Spec PyProof.Rows
def DG (lo k:Int) (n:Nat):It:=⟨λi _=>i<n,λi H x H'=>H'=H/\x=.int (lo+i*k),λi _=>n<=i⟩
def CJ (lo hi k:Int):Nat:=if lo<hi then ((hi-lo-1)/k+1).toNat else 0
def Cz (ta:TA):TI:=λσ H R=>ta σ H λvs H1=>∃ i j k:Int,vs=[.int i,.int j,.int k]/\(-(2^60)<=i/\i<2^60 /\ -(2^60)<=j/\j<2^60/\0<k/\k<2^29)/\R (DG i k (CJ i j k)) H1
section
variable {X:Cx} {tg:Expr}
end
end L2
namespace Sv
def BR (d:Nat) (arr:Nat->Bool):Nat->Bool:=λj=>arr j || (decide (d*d<=j) && decide (j%d=0))
def sv:Nat->(Nat->Bool) × List Nat
 | 0=>(λ_=>false,[])
 | i+1=>if (sv i).1 (i+2) then sv i else (BR (i+2) (sv i).1,(sv i).2++[i+2])
theorem len:∀ i,(sv i).2.length<=i
 | 0=>Nat.le_refl _
 | i+1=>by
  have:=len i
  rw [sv]
  split
  ·omega
  ·rw [List.length_append,List.length_singleton];omega
end Sv
namespace L2
open PySem PySem.Spec PyProof.Rows
theorem tj {X:Cx}:cL X (.type "int") (λxs H Q=>∃ k,xs=[.bl k]/\Q (.int (if k=true then 1 else 0)) H):=λpins s σ H xs us Q I r h=>tf pins s σ H xs us Q I r (.inr h)
section
variable {X:Cx} {pins:List (Addr × Obj)} {σ:St} {H:Hp} {s:Shared} {h':Heap}
theorem Inv.jL {t':Nat} {ch:List Addr} (I:Inv X pins σ H s) (k:∀ b o,b∉ch->s.heap.get? b=some o->h'.get? b=some o) (hf:∀ b∈ch,kL X pins H b):Inv X pins σ H { s with heap:=h',toks:=t' }:=by
 have nit:∀ b u,H b=some u->b∉ch:=λb u e z=>by rw [(hf b z).1] at e;cases e
 refine I.step (g':=s.gens) (d':=s.drawn) (ch:=ch) (λb hb=>?_) (λb o _ _ hc e _=>k b o hc e) (λb o _ _ hc e _=>⟨o.slots,k b o hc e⟩) (λ_ _ _ _ n=>n)
  (λb o hc e=>⟨o,k b o hc e⟩) (λ_ _ e=>e) (λ_ _ _ e=>e) (λb ps e=>⟨#[],by rw [e];simp⟩) (λm hm=>?_) (λb u e=>?_) I.bare
 ·obtain⟨_,f1,_,f3,f4,f5⟩:=hf b hb
  exact⟨f3,f1,f4,f5⟩
 ·obtain⟨o,es,ep,ho,r⟩:=hm
  exact⟨o,es,ep,k _ o (λz=>(hf _ z).2.1 rfl) ho,r⟩
 ·refine (I.hok b u e).fZ (λc v hc q=>k c v ?_ q) (λ_ q=>q) λ_ _ q=>q
  rcases hc with z | z
  ·rw [z];exact nit b u e
  ·exact nit c _ z
theorem Inv.adopt {T:Addr} {o:HO} (I:Inv X pins σ H s) (hf:kL X pins H T) (new:aZ X.prog X.w (upd H T o) s.heap T o):Inv X pins σ (upd H T o) s:=by
 have nT:∀ b u,H b=some u->b≠T:=λb u e z=>by rw [z,hf.1] at e;cases e
 refine I.step (h':=s.heap) (g':=s.gens) (d':=s.drawn) (t':=s.toks) (ch:=[T]) (λb hb=>?_) (λb o _ _ hc e _=>e) (λb o _ _ hc e _=>⟨o.slots,e⟩) (λb o hc e n=>by rw [ao (λz=>hc (by simp [z]))];exact n)
  (λb o hc e=>⟨o,e⟩) (λb xs e=>by rw [ao (nT _ _ e)];exact e) (λb o u e=>by rw [ao (nT _ _ e)];exact e) (λb ps e=>⟨#[],by rw [ao (nT _ _ e),e];simp⟩) (λm hm=>hm) (λb u e=>?_) I.bare
 ·have e:b=T:=by simpa using hb
  subst e
  obtain⟨_,f1,_,f3,f4,f5⟩:=hf
  exact⟨f3,f1,f4,f5⟩
 ·by_cases z:b=T
  ·subst z
   rw [af] at e
   cases e
   exact new
  ·rw [ao z] at e
   exact (I.hok b u e).fZ (λc v _ q=>q) (λc q=>by rw [ao (nT _ _ q)];exact q) λc xs q=>by rw [ao (nT _ _ q)];exact q
end
def DE (K:PySem.W.Frag) (a:Addr):It :=
 ⟨λi H=>∃ xs x,aM K H a xs/\xs[i]?=some x,λi H x H'=>∃ p v,H p=none/\x=.ref p/\(∀ xs,aM K H a xs->xs[i]?=some v)/\H'=upd H p (.tup [.int i,v]),λi H=>∃ xs,aM K H a xs/\xs.length<=i⟩
theorem uN {P:Program} {w:World} {K:PySem.W.Frag} {elts:List Expr} {x1} {pos:Pos} (a it e:Addr) (ne:e≠it):Turn P w K (.Tuple elts x1 pos) (DE K a) [e,it] e (λi h=>(∃ old,IsEnum h e it i old)/\h.IsListIter it a i) where
 mem:=by simp
 obj:=λi h st b hb=>by
  obtain⟨⟨old,he⟩,hit⟩:=st
  rcases List.mem_cons.mp hb with z | z
  ·subst z
   exact⟨_,he,λv z=>by cases z⟩
  ·have z:b=it:=by simpa using z
   subst z
   obtain⟨o,e,c,d⟩:=hit
   exact⟨o,e,λv z=>by rw [d] at z;cases z⟩
 keep:=λi h h' st k=>by
  obtain⟨⟨old,he⟩,hit⟩:=st
  exact⟨⟨old,k e (by simp) _ he⟩,hit.at λo x=>k it (by simp) o x⟩
 item:=by
  intro X hP hw hK hc i pins s σ H E I hf st hg
  subst hP hw hK
  obtain⟨xs,x,hq,hx⟩:=hg
  obtain⟨its,rv,p,hz⟩:=I.list hq
  obtain⟨u,hu,ru⟩:=rv.get hx
  obtain⟨⟨old,he⟩,hit⟩:=st
  refine wpAny_pyNext_enum_item he hit p.isList (x:=u) (by simpa using hu) ne λh' ho hit' hT hsz hk=>?_
  refine⟨_,rfl,?_⟩
  have fT:H s.heap.objs.size=none:=I.hok.fresh (Nat.le_refl _)
  refine wpAny_letOwnedTupleGo_enum ho λh2 he2 hs2=>?_
  have hke:∀ b o,b∉[e,it]->s.heap.get? b=some o->h2.get? b=some o:=λb o hb q=>by
   have n1:b≠e:=λz=>hb (by simp [z])
   have n2:b≠it:=λz=>hb (by simp [z])
   exact (hs2.2 b n1).trans (hk b o n1 n2 q)
  have I1:Inv X pins σ H { s with heap:=h2,toks:=s.toks+1 }:=I.jL hke hf
  have ne1:s.heap.objs.size≠e:=Nat.ne_of_gt (Heap.lt_size he)
  have hT2:h2.get? s.heap.objs.size=some { cls:=.type "tuple",data:=.seq #[.int i s.toks,u] }:=(hs2.2 _ ne1).trans hT
  refine⟨.ref s.heap.objs.size,upd H s.heap.objs.size (.tup [.int i,x]),?_,rfl,⟨_,x,fT,rfl,λys hy=>by rw [I.jZ hy hq];exact hx,rfl⟩,⟨⟨u,by simpa using he2⟩,hit'.at λo q=>(hs2.2 it (Ne.symm ne)).trans q⟩,λb hb=>?_⟩
  ·have:=I1.adopt (T:=s.heap.objs.size) (o:=.tup [.int i,x]) (I.my (Nat.le_refl _) fT) ⟨by show 2<=sizeLine;decide,[.int i s.toks,u],.cons ⟨_,rfl⟩ (.cons ru .nil),⟨_,hT2,rfl,_,rfl⟩⟩
   exact this
  ·have ne2:s.heap.objs.size≠it:=by obtain⟨o,q,_⟩:=hit;exact Nat.ne_of_gt (Heap.lt_size q)
   have nb:b≠s.heap.objs.size:=λz=>by
    subst z
    simp only [List.mem_cons,List.not_mem_nil,or_false] at hb
    rcases hb with y | y
    ·exact ne1 y
    ·exact ne2 y
   rw [ao nb]
   exact (hf b hb).1
 done:=by
  intro X hP hw hK hc i pins s σ H E I hf st hg
  subst hP hw hK
  obtain⟨xs,hq,hx⟩:=hg
  obtain⟨its,rv,p,hz⟩:=I.list hq
  have hl:=rv.length
  obtain⟨⟨old,he⟩,hit⟩:=st
  exact wpAny_pyNext_enum_end (I.ok.hd hc) he hit p.isList (by simp;omega) λh' eb=>⟨rfl,I.jL (t':=s.toks) (ch:=[it]) (λb o hb q=>eb b o (λz=>hb (by simp [z])) q) (λb hb=>hf b (List.mem_cons_of_mem _ hb))⟩
 self:=λ_ _ _ _ _ st h=>by
  obtain⟨⟨old,he⟩,_⟩:=st
  exact wpAny_pyIter_enum he h
def Aj (K:PySem.W.Frag) (ta:TA):TI:=λσ H R=>ta σ H λvs H1=>∃ a,vs=[.ref a]/\(∃ xs,aM K H1 a xs)/\R (DE K a) H1
theorem jt:bootBuiltins "enumerate"=some (.type "enumerate"):=by decide +kernel
theorem mQ {X:Cx} {elts:List Expr} {x1} {tpos:Pos} {a:Expr} {ta:TA} {p pos:Pos} (hg:Gl X "enumerate") (hm:X.mg "enumerate"=none) (ha:PA X [a] ta) (hs:starEach [a] X.env=[(false,eval a X.env)]:=by rfl) :
  PI X (.Tuple elts x1 tpos) (.Call (.Name "enumerate" p) [a] [] pos) (Aj X.K ta):=by
 intro pins s σ H R I h
 refine Call_ (gw I hg hm jt (PyProof.Rows.callWith_type1 (aQ (ha pos pins s σ H _ I h) λus s1 ⟨vs,H1,I1,r1,q1⟩=>?_) hs rfl))
 obtain⟨b,e,⟨xs,hq⟩,q⟩:=q1
 subst e
 cases r1 with
 | cons r rr =>
  cases rr
  cases r
  obtain⟨its,rv,pl,hz⟩:=I1.list hq
  refine call_enumerate_list pl.isList λh' he hit hsz hk=>?_
  refine wpAny_pyIter_enum he ?_
  have I2:Inv X pins σ H1 { s1 with heap:=h' }:=I1.kept (t':=s1.toks) hk
  refine⟨_,[s1.heap.objs.size+1,s1.heap.objs.size],_,_,H1,rfl,I2,uN b s1.heap.objs.size (s1.heap.objs.size+1) (Nat.succ_ne_self _),⟨⟨_,he⟩,hit⟩,λc hc=>?_,q⟩
  simp only [List.mem_cons,List.not_mem_nil,or_false] at hc
  rcases hc with rfl | rfl
  ·exact I1.my (by omega) (I1.hok.fresh (by omega))
  ·exact I1.my (by omega) (I1.hok.fresh (by omega))
theorem iQ {K:PySem.W.Frag} {a:Addr} {xs:List V} {g:TG} {tb:TS} {D:Ends} {σ:St} {H:Hp} (Pv:Nat->St->Hp->Prop) (h0:Pv 0 σ H) (hl:∀ i σ H,i<=xs.length->Pv i σ H->aM K H a xs)
  (hs:∀ i x σ H p,xs[i]?=some x->Pv i σ H->H p=none->g (.ref p) σ (upd H p (.tup [.int i,x])) λσ2 H2=>tb { D with nx:=Pv (i+1),ct:=Pv (i+1),bk:=D.nx } σ2 H2) (hd:∀ σ H,Pv xs.length σ H->D.nx σ H):Loop (DE K a) g tb D σ H:=by
 refine⟨λi m σ H=>m=xs.length-i/\i<=xs.length/\Pv i σ H,⟨xs.length,by simp,Nat.zero_le _,h0⟩,?_⟩
 rintro i m σ H ⟨rfl,hi,p⟩
 have q:=hl i σ H hi p
 by_cases hlt:i<xs.length
 ·have hx:xs[i]?=some xs[i]:=List.getElem?_eq_getElem hlt
  refine .inr ⟨⟨xs,_,q,hx⟩,Pv (i+1),λσ' H' p'=>⟨xs.length-(i+1),by omega,rfl,hlt,p'⟩,λx H' y=>?_⟩
  obtain⟨pt,v,f,e1,e2,e3⟩:=y
  subst e1 e3
  have:=e2 xs q
  exact hs i v σ H pt this p f
 ·have e:i=xs.length:=by omega
  subst e
  exact .inl ⟨⟨xs,q,Nat.le_refl _⟩,hd σ H p⟩
end L2
namespace Crt
structure G (a b g:Int):Prop where
 pos:0<g
 da:g∣a
 db:g∣b
 lin:∃ u v:Int,u*a+v*b=g
theorem G.gr {a b g d:Int} (h:G a b g) (h1:d∣a) (h2:d∣b):d∣g:=by
 obtain⟨u,v,e⟩:=h.lin
 rw [<- e]
 exact Int.dvd_add (Int.dvd_mul_of_dvd_right h1) (Int.dvd_mul_of_dvd_right h2)
theorem G.one {a b g g':Int} (h:G a b g) (h':G a b g'):g=g':=Int.le_antisymm (Int.le_of_dvd h'.pos (h'.gr h.da h.db)) (Int.le_of_dvd h.pos (h.gr h'.da h'.db))
theorem a1 {g u A v L:Int} (e:u*(g*A)+v*(g*L)=g):g*(u*A+v*L)=g*1:=by grind
theorem a2 {g A k L l y:Int} (h1:y=g*A*k) (h2:y=g*L*l):g*(A*k)=g*(L*l):=by grind
theorem a3 {u A v L k l:Int} (e4:u*A+v*L=1) (e5:A*k=L*l):k=L*(u*l+v*k):=by
 have z:k*(u*A+v*L)=k:=by rw [e4,Int.mul_one]
 grind
theorem a4 {A D r L q1 t:Int} (et:L*q1+t=D*r):A*t=A*(D*r)-A*(L*q1):=by grind
theorem a5 {D r A L c:Int} (hc:r*A-1=L*c):D*(r*A)-D=D*(L*c):=by rw [<- hc];grind
theorem a6 {M L t q2 N x:Int} (ex:M*L*q2+x=N+M*t):x-N=M*(t-L*q2):=by grind
theorem a7 {g A L t q1 q2 c D r N x:Int} (z3:x=N+g*A*t-g*A*L*q2) (z1:A*t=A*(D*r)-A*(L*q1)) (z2:D*(r*A)-D=D*(L*c)):x-(N+g*D)=g*L*(c*D-q1*A-A*q2):=by grind
theorem a8 {M L k w:Int} (h:k=L*w):M*k=M*L*w:=by rw [h,Int.mul_assoc]
structure AQ (M N m n W x:Int):Prop where
 pos:0<W
 dM:M∣W
 dm:m∣W
 le:∀ y:Int,M∣y->m∣y->W∣y
 x0:0<=x
 x1:x<W
 eM:M∣x-N
 em:m∣x-n
theorem both {M N m n g r:Int} (hM:0<M) (hm:0<m) (h:G M m g) (hd:g∣n-N) (hr:m/g∣r*(M/g)-1):AQ M N m n (M*(m/g)) ((N+M*((n-N)/g*r%(m/g)))%(M*(m/g))):=by
 obtain⟨A,hA⟩:=h.da
 obtain⟨L,hL⟩:=h.db
 obtain⟨D,hD⟩:=hd
 have g0:=h.pos
 have e1:m/g=L:=by rw [hL];exact Int.mul_ediv_cancel_left _ (by omega)
 have e2:M/g=A:=by rw [hA];exact Int.mul_ediv_cancel_left _ (by omega)
 have e3:(n-N)/g=D:=by rw [hD];exact Int.mul_ediv_cancel_left _ (by omega)
 rw [e1,e2] at hr
 rw [e1,e3]
 have L0:0<L:=by
  rcases (by omega:L<=0∨0<L) with z | z
  ·have:=Int.mul_nonpos_of_nonneg_of_nonpos (Int.le_of_lt g0) z
   omega
  ·exact z
 have W0:0<M*L:=Int.mul_pos hM L0
 have dm:m∣M*L:=⟨A,by rw [hA,hL,Int.mul_assoc,Int.mul_assoc,Int.mul_comm A L]⟩
 have et:=Int.mul_ediv_add_emod (D*r) L
 have ex:=Int.mul_ediv_add_emod (N+M*(D*r%L)) (M*L)
 generalize hT:D*r%L=t at *
 generalize D*r/L=q1 at *
 have X0:=Int.emod_nonneg (N+M*t) (show M*L≠0 by omega)
 have X1:=Int.emod_lt_of_pos (N+M*t) W0
 generalize (N+M*t)%(M*L)=x at *
 generalize (N+M*t)/(M*L)=q2 at *
 obtain⟨c,hc⟩:=hr
 refine⟨W0,⟨L,rfl⟩,dm,λy h1 h2=>?_,X0,X1,⟨t-L*q2,a6 ex⟩,?_⟩
 ·obtain⟨k,hk⟩:=h1
  obtain⟨l,hl⟩:=h2
  obtain⟨u,v,e⟩:=h.lin
  have e4:u*A+v*L=1:=Int.eq_of_mul_eq_mul_left (show g≠0 by omega) (a1 (by rw [hA,hL] at e;exact e))
  have e5:A*k=L*l:=Int.eq_of_mul_eq_mul_left (show g≠0 by omega) (a2 (y:=y) (by rw [hA] at hk;exact hk) (by rw [hL] at hl;exact hl))
  exact⟨u*l+v*k,by rw [hk];exact a8 (a3 e4 e5)⟩
 ·refine⟨c*D-q1*A-A*q2,?_⟩
  have hN:n=N+g*D:=by omega
  have z3:x=N+g*A*t-g*A*L*q2:=by rw [hA] at ex;omega
  rw [hN,hL]
  exact a7 z3 (a4 et) (a5 hc)
theorem DC:∀(b a:Nat),0<a->∃ g,G (a:Int) (b:Int) g:=by
 intro b
 induction b using Nat.strongRecOn with
 | ind b ih =>
  intro a ha
  rcases Nat.eq_zero_or_pos b with z | z
  ·subst z
   exact⟨a,by omega,Int.dvd_refl _,Int.dvd_zero _,1,0,by simp⟩
  ·obtain⟨g,h⟩:=ih (a%b) (Nat.mod_lt a z) b z
   obtain⟨u,v,e⟩:=h.lin
   have ed:(a:Int)=(b:Int)*((a/b:Nat):Int)+((a%b:Nat):Int):=by
    have:=Nat.div_add_mod a b
    rw [<- Int.natCast_mul,<- Int.natCast_add,this]
   refine⟨g,h.pos,?_,h.da,v,u-v*((a/b:Nat):Int),?_⟩
   ·rw [ed]
    exact Int.dvd_add (Int.dvd_mul_of_dvd_left h.da) h.db
   ·rw [ed,<- e]
    generalize ((a/b:Nat):Int)=q
    generalize ((a%b:Nat):Int)=r
    generalize (b:Int)=b'
    grind
theorem uT {a b:Int} (ha:0<a) (hb:0<b):∃ g,G a b g:=by
 obtain⟨g,h⟩:=DC b.toNat a.toNat (by omega)
 rw [Int.toNat_of_nonneg (by omega),Int.toNat_of_nonneg (by omega)] at h
 exact⟨g,h⟩
structure Told (ps:List (Int × Int)) (M N:Int):Prop where
 pos:0<M
 x0:0<=N
 x1:N<M
 dv:∀ p∈ps,p.1∣M
 le:∀ y:Int,(∀ p∈ps,p.1∣y)->M∣y
 al:∀ p∈ps,p.1∣N-p.2
theorem Told.nil:Told [] 1 0:=⟨by decide,by decide,by decide,λ_ h=>by simp at h,λy _=>⟨y,by omega⟩,λ_ h=>by simp at h⟩
theorem Told.step {ps:List (Int × Int)} {M N m n W x:Int} (h:Told ps M N) (b:AQ M N m n W x):Told (ps++[(m,n)]) W x:=by
 refine⟨b.pos,b.x0,b.x1,λp hp=>?_,λy hy=>?_,λp hp=>?_⟩
 ·rcases List.mem_append.mp hp with z | z
  ·exact Int.dvd_trans (h.dv p z) b.dM
  ·rw [List.mem_singleton.mp z];exact b.dm
 ·exact b.le y (h.le y λp hp=>hy p (List.mem_append_left _ hp)) (hy (m,n) (List.mem_append_right _ (by simp)))
 ·rcases List.mem_append.mp hp with z | z
  ·have e1:=Int.dvd_trans (h.dv p z) b.eM
   have e2:=h.al p z
   have:=Int.dvd_add e1 e2
   rwa [show x-N+(N-p.2)=x-p.2 by omega] at this
  ·rw [List.mem_singleton.mp z];exact b.em
theorem Told.fits {ps:List (Int × Int)} {M N m n g:Int} (h:Told ps M N) (G0:G M m g) (hp:∀ p∈ps,∀ d,G p.1 m d->d∣p.2-n) (hG:∀ p∈ps,∃ d,G p.1 m d):g∣n-N:=by
 obtain⟨A,hA⟩:=G0.da
 obtain⟨L,hL⟩:=G0.db
 have g0:=G0.pos
 have key:M∣(n-N)*A:=by
  refine h.le _ λp hm=>?_
  obtain⟨d,hd⟩:=hG p hm
  obtain⟨u,v,e⟩:=hd.lin
  have d1:d∣n-N:=by
   have z1:=hp p hm d hd
   have z2:=Int.dvd_trans hd.da (h.al p hm)
   have:=Int.dvd_add z1 z2
   have w:=(Int.dvd_neg).mpr this
   rwa [show -(p.2-n+(N-p.2))=n-N by omega] at w
  obtain⟨c,hc⟩:=d1
  obtain⟨B,hB⟩:=h.dv p hm
  refine⟨c*(u*A+v*L*B),?_⟩
  rw [hc,<- e]
  have:m*A=p.1*(L*B):=by
   have z:g*(m*A)=g*(p.1*(L*B)):=by
    have:m*M=g*L*(p.1*B):=by rw [hL,hB]
    have z2:g*(m*A)=m*M:=by rw [hA];grind
    rw [z2,this];grind
   exact Int.eq_of_mul_eq_mul_left (by omega) z
  grind
 obtain⟨c,hc⟩:=key
 have A0:A≠0:=λz=>by rw [z] at hA;have:=h.pos;omega
 refine⟨c,?_⟩
 have:A*(n-N)=A*(g*c):=by rw [Int.mul_comm A (n-N),hc,hA];grind
 exact Int.eq_of_mul_eq_mul_left A0 this
theorem Told.one {ps:List (Int × Int)} {M N M' N':Int} (h:Told ps M N) (h':Told ps M' N'):M=M'/\N=N':=by
 have e:M=M':=Int.le_antisymm (Int.le_of_dvd h'.pos (h.le _ h'.dv)) (Int.le_of_dvd h.pos (h'.le _ h.dv))
 subst e
 refine⟨rfl,?_⟩
 have z:M∣N-N':=h.le _ λp hp=>by
  have:=Int.dvd_sub (h.al p hp) (h'.al p hp)
  rwa [show N-p.2-(N' - p.2)=N-N' by omega] at this
 have w:=Int.emod_emod_of_dvd
 have:=(Int.emod_eq_emod_iff_emod_sub_eq_zero (m:=N) (n:=M) (k:=N')).mpr (Int.emod_eq_zero_of_dvd z)
 rwa [Int.emod_eq_of_lt h.x0 h.x1,Int.emod_eq_of_lt h'.x0 h'.x1] at this
end Crt
namespace Num
def Al (n x y:Int):Prop:=n∣x-y
theorem Al.refl (n x:Int):Al n x x:=⟨0,by omega⟩
theorem Al.symm {n x y:Int} (h:Al n x y):Al n y x:=by
 have:=(Int.dvd_neg).mpr h
 rwa [show -(x-y)=y-x by omega] at this
theorem Al.trans {n x y z:Int} (h:Al n x y) (h':Al n y z):Al n x z:=by
 have:=Int.dvd_add h h'
 rwa [show x-y+(y-z)=x-z by omega] at this
theorem Al.mul {n x y u v:Int} (h:Al n x y) (h':Al n u v):Al n (x*u) (y*v):=by
 have h1:n∣(x-y)*u:=Int.dvd_mul_of_dvd_left h
 have h2:n∣y*(u-v):=Int.dvd_mul_of_dvd_right h'
 have:=Int.dvd_add h1 h2
 rwa [show (x-y)*u+y*(u-v)=x*u-y*v by rw [Int.sub_mul,Int.mul_sub];omega] at this
theorem Al.pow {n x y:Int} (h:Al n x y):∀ k:Nat,Al n (x^k) (y^k)
 | 0=>by rw [Int.pow_zero,Int.pow_zero];exact Al.refl _ _
 | k+1=>by rw [Int.pow_succ,Int.pow_succ];exact (Al.pow h k).mul h
theorem Al.iff {n x y:Int}:Al n x y↔x%n=y%n:=Pw.A4.symm
theorem Al.rest (n x:Int):Al n (x%n) x:=Al.iff.mpr (Int.emod_emod_of_dvd x (Int.dvd_refl n))
def Co (a n:Int):Prop:=∃ u v:Int,u*a+v*n=1
theorem Co.dvd {a n b:Int} (h:Co a n) (hd:n∣a*b):n∣b:=by
 obtain⟨u,v,e⟩:=h
 have h1:n∣u*(a*b):=Int.dvd_mul_of_dvd_right hd
 have h2:n∣(v*b)*n:=⟨v*b,Int.mul_comm _ _⟩
 have:=Int.dvd_add h1 h2
 have e2:u*(a*b)+v*b*n=(u*a+v*n)*b:=by
  rw [Int.add_mul,Int.mul_assoc u a b,Int.mul_assoc v n b,Int.mul_comm n b,Int.mul_assoc v b n]
 rw [e2,e,Int.one_mul] at this
 exact this
theorem Co.cancel {a n x y:Int} (h:Co a n) (e:Al n (a*x) (a*y)):Al n x y:=by
 refine h.dvd ?_
 rw [Int.mul_sub]
 exact e
theorem Co.mul {a b n:Int} (h:Co a n) (h':Co b n):Co (a*b) n:=by
 obtain⟨u,v,e⟩:=h
 obtain⟨u',v',e'⟩:=h'
 refine⟨u*u',u*a*v'+v*(u'*b+v'*n),?_⟩
 have:(u*a+v*n)*(u'*b+v'*n)=1:=by rw [e,e'];rfl
 grind
theorem Co.pow {a n:Int} (h:Co a n):∀ k:Nat,Co (a^k) n
 | 0=>⟨1,0,by rw [Int.pow_zero];simp⟩
 | k+1=>by rw [Int.pow_succ];exact (Co.pow h k).mul h
theorem Co.Au {a b n:Int} (h:Co a n) (e:Al n a b):Co b n:=by
 obtain⟨u,v,e1⟩:=h
 obtain⟨c,hc⟩:=e
 refine⟨u,v+u*c,?_⟩
 have:b=a-n*c:=by omega
 rw [this]
 grind
theorem aT {n a:Int} {d k:Nat} (h:Al n (a^d) 1):Al n (a^(d*k)) 1:=by
 rw [Pw.pow_mul]
 have:=h.pow k
 rwa [Pw.one_pow] at this
structure Ord (n a:Int) (m:Nat):Prop where
 pos:0<m
 one:Al n (a^m) 1
 dv:∀ j:Nat,Al n (a^j) 1->m∣j
theorem pow_mod {n a:Int} {m j:Nat} (h:Al n (a^m) 1) (hj:Al n (a^j) 1):Al n (a^(j%m)) 1:=by
 have e:a^j=a^(m*(j/m))*a^(j%m):=by rw [<- Pw.pow_add,Nat.div_add_mod]
 rw [e] at hj
 have h1:=(aT (k:=j/m) h).mul (Al.refl n (a^(j%m)))
 rw [Int.one_mul] at h1
 exact h1.symm.trans hj
theorem mO {n a:Int} {m:Nat} (pos:0<m) (one:Al n (a^m) 1) (no:∀ j,0<j->j<m->¬Al n (a^j) 1):Ord n a m:=by
 refine⟨pos,one,λj hj=>?_⟩
 have h:=pow_mod one hj
 rcases Nat.eq_zero_or_pos (j%m) with z | z
 ·exact Nat.dvd_of_mod_eq_zero z
 ·exact absurd h (no _ z (Nat.mod_lt _ pos))
theorem fh {P:Nat->Prop}:∀ N:Nat,P N->∃ m,P m/\∀ j,j<m->¬P j:=by
 intro N
 induction N using Nat.strongRecOn with
 | ind N ih =>
  intro h
  by_cases z:∃ j,j<N/\P j
  ·obtain⟨j,hj,pj⟩:=z
   exact ih j hj pj
  ·exact⟨N,h,λj hj pj=>z ⟨j,hj,pj⟩⟩
theorem mN {n a:Int} {N:Nat} (pos:0<N) (h:Al n (a^N) 1):∃ m,Ord n a m/\m<=N:=by
 obtain⟨m,⟨m0,m1⟩,no⟩:=fh (P:=λj=>0<j/\Al n (a^j) 1) N ⟨pos,h⟩
 refine⟨m,mO m0 m1 λj j0 jm z=>no j jm ⟨j0,z⟩,?_⟩
 by_cases z:m<=N
 ·exact z
 ·exact absurd ⟨pos,h⟩ (no N (by omega))
theorem Ord.iS {n a:Int} {m m':Nat} (h:Ord n a m) (h':Ord n a m'):m=m':=Nat.dvd_antisymm (h.dv _ h'.one) (h'.dv _ h.one)
theorem Ord.inj {n a:Int} {m i j:Nat} (h:Ord n a m) (c:Co a n) (hi:i<m) (hj:j<m) (e:Al n (a^i) (a^j)):i=j:=by
 have aux:∀ i j:Nat,i<m->j<m->i<=j->Al n (a^i) (a^j)->i=j:=by
  intro i j hi hj hij e
  have e1:a^j=a^i*a^(j-i):=by rw [<- Pw.pow_add];congr 1;omega
  rw [e1] at e
  have e2:Al n (a^i*1) (a^i*a^(j-i)):=by rw [Int.mul_one];exact e
  have e3:=(c.pow i).cancel e2
  have:=h.dv _ e3.symm
  rcases Nat.eq_zero_or_pos (j-i) with z | z
  ·omega
  ·have:=Nat.le_of_dvd z this
   omega
 rcases Nat.le_total i j with z | z
 ·exact aux i j hi hj z e
 ·exact (aux j i hj hi z e.symm).symm
theorem mR:∀(n:Nat) (l:List Nat),l.Nodup->(∀ x∈l,x<n)->l.length<=n:=by
 intro n
 induction n with
 | zero =>
  intro l _ h
  cases l with
  | nil=>exact Nat.le_refl _
  | cons x r=>exact absurd (h x (by simp)) (by omega)
 | succ n ih =>
  intro l nd h
  by_cases c:n∈l
  ·have h1:=ih (l.erase n) (nd.erase n) λx hx=>by
    have hx':=List.mem_of_mem_erase hx
    have ne:x≠n:=λz=>by
     subst z
     exact absurd hx (List.Nodup.not_mem_erase nd)
    have:=h x hx'
    omega
   rw [List.length_erase_of_mem c] at h1
   omega
  ·have h1:=ih l nd λx hx=>by
    have:=h x hx
    have ne:x≠n:=λz=>c (z▸hx)
    omega
   omega
end Num
namespace Num
structure Pm (p:Int):Prop where
 two:2<=p
 no:∀ d:Int,2<=d->d<p->¬d∣p
theorem Pm.co {p a:Int} (h:Pm p) (ha:¬p∣a):Co a p:=by
 have h2:=h.two
 have r0:=Int.emod_nonneg a (show p≠0 by omega)
 have r1:=Int.emod_lt_of_pos a (show 0<p by omega)
 have rn:a%p≠0:=λz=>ha (Int.dvd_of_emod_eq_zero z)
 obtain⟨g,G⟩:=Crt.uT (a:=a%p) (b:=p) (by omega) (by omega)
 have gl:=Int.le_of_dvd (show 0<a%p by omega) G.da
 have g1:g=1:=by
  have g0:=G.pos
  rcases (by omega:g=1∨2<=g) with z | z
  ·exact z
  ·exact absurd G.db (h.no g z (by omega))
 obtain⟨u,v,e⟩:=G.lin
 rw [g1] at e
 exact Co.Au ⟨u,v,e⟩ (Al.rest p a)
theorem Pm.or {p a b:Int} (h:Pm p) (hd:p∣a*b) (ha:¬p∣a):p∣b:=(h.co ha).dvd hd
theorem Pm.yV {p:Int} (h:Pm p):¬Al p 0 1:=λz=>by
 have h2:=h.two
 have z':p∣0-1:=z
 have z2:=(Int.dvd_neg).mpr z'
 rw [show -((0:Int)-1)=1 by decide] at z2
 have:=Int.le_of_dvd (show (0:Int)<1 by decide) z2
 omega
def H:Int->List Int->Int->Int
 | acc,[],_=>acc
 | acc,c::cs,x=>H (acc*x+c) cs x
theorem uU (x:Int):∀(cs:List Int) (a b:Int),H (a+b) cs x=H a cs x+b*x^cs.length
 | [],a,b=>by rw [List.length_nil,Int.pow_zero,Int.mul_one];rfl
 | c::cs,a,b=>by
  show H ((a+b)*x+c) cs x=H (a*x+c) cs x+b*x^(cs.length+1)
  rw [show (a+b)*x+c=(a*x+c)+b*x by rw [Int.add_mul];omega,uU x cs,Int.pow_succ,Int.mul_assoc,Int.mul_comm x]
def zH (r:Int):Int->List Int->List Int
 | _,[]=>[]
 | _,[_]=>[]
 | c0,c::c'::cs=>(c0*r+c)::zH r (c0*r+c) (c'::cs)
theorem mV (r:Int):∀(cs:List Int) (c0:Int),(zH r c0 cs).length=cs.length-1
 | [],_=>rfl
 | [_],_=>rfl
 | c::c'::cs,c0=>by
  show (zH r (c0*r+c) (c'::cs)).length+1=_
  rw [mV r (c'::cs)]
  simp
theorem factor (x r:Int):∀(cs:List Int) (c0:Int),cs≠[]->H c0 cs x-H c0 cs r=(x-r)*H c0 (zH r c0 cs) x
 | [],_,h=>absurd rfl h
 | [c],c0,_=>by
  show c0*x+c-(c0*r+c)=(x-r)*c0
  rw [Int.sub_mul,Int.mul_comm c0 x,Int.mul_comm c0 r]
  omega
 | c::c'::cs,c0,_=>by
  have ih:=factor x r (c'::cs) (c0*r+c) (by simp)
  show H (c0*x+c) (c'::cs) x-H (c0*r+c) (c'::cs) r=(x-r)*H (c0*x+(c0*r+c)) (zH r (c0*r+c) (c'::cs)) x
  have e1:c0*x+c=(c0*r+c)+c0*(x-r):=by rw [Int.mul_sub];omega
  have e2:H (c0*x+(c0*r+c)) (zH r (c0*r+c) (c'::cs)) x=H (c0*r+c) (zH r (c0*r+c) (c'::cs)) x+c0*x*x^cs.length:=by
   rw [Int.add_comm (c0*x),uU,mV]
   simp
  rw [e1,uU,e2,List.length_cons,Int.pow_succ,Int.mul_add,<- ih]
  generalize H (c0*r+c) (c'::cs) x=A
  generalize H (c0*r+c) (c'::cs) r=B
  generalize x^cs.length=Y
  grind
theorem roots {p:Int} (hp:Pm p):∀(n:Nat) (cs:List Int) (c0:Int),cs.length=n->¬p∣c0->∀ rs:List Int,rs.Pairwise (λa b=>¬Al p a b)->(∀ r∈rs,p∣H c0 cs r)->rs.length<=n:=by
 intro n
 induction n with
 | zero =>
  intro cs c0 hl h0 rs hr hz
  have:cs=[]:=List.eq_nil_of_length_eq_zero hl
  subst this
  cases rs with
  | nil=>exact Nat.le_refl _
  | cons r rs=>exact absurd (hz r (by simp)) h0
 | succ n ih =>
  intro cs c0 hl h0 rs hr hz
  cases rs with
  | nil=>exact Nat.zero_le _
  | cons r rs =>
   have hne:cs≠[]:=λz=>by rw [z] at hl;simp at hl
   obtain⟨h1,h2⟩:=List.pairwise_cons.mp hr
   have:=ih (zH r c0 cs) c0 (by rw [mV,hl];rfl) h0 rs h2 λs hs=>by
    have e:=factor s r cs c0 hne
    have d1:=hz s (List.mem_cons_of_mem _ hs)
    have d2:=hz r (by simp)
    have d3:=Int.dvd_sub d1 d2
    rw [e] at d3
    exact hp.or d3 λz=>h1 s hs (Al.symm z)
   simpa using this
theorem uV (x:Int):∀(n:Nat) (a:Int),H a (List.replicate n 0++[-1]) x=a*x^(n+1)-1
 | 0,a=>by
  show a*x + -1=_
  rw [Int.pow_succ,Int.pow_zero,Int.one_mul];omega
 | n+1,a=>by
  show H (a*x+0) (List.replicate n 0++[-1]) x=_
  rw [uV x n,Int.add_zero,Int.pow_succ x (n+1),Int.mul_comm (x^(n+1)) x,Int.mul_assoc]
theorem ym {p:Int} (hp:Pm p) {n:Nat} (hn:0<n) (h:∀ a:Int,¬p∣a->Al p (a^n) 1):p-1<=n:=by
 have h2:=hp.two
 obtain⟨m,rfl⟩:∃ m,n=m+1:=⟨n-1,by omega⟩
 have key:=roots hp (m+1) (List.replicate m 0++[-1]) 1 (by simp) (λz=>by have:=Int.le_of_dvd (by decide) z;omega) ((List.range (p-1).toNat).map λi:Nat=>(i:Int)+1) ?_ ?_
 ·rw [List.length_map,List.length_range] at key
  omega
 ·rw [List.pairwise_map]
  refine List.Pairwise.imp_of_mem (R:=(·<·)) (λ{a b} ha hb hab z=>?_) List.pairwise_lt_range
  have hb':=List.mem_range.mp hb
  have:=Int.le_of_dvd (by omega) (Al.symm z)
  omega
 ·intro r hr
  obtain⟨i,hi,rfl⟩:=List.mem_map.mp hr
  have hi':=List.mem_range.mp hi
  rw [uV,Int.one_mul]
  exact h _ λz=>by have:=Int.le_of_dvd (by omega) z;omega
theorem lJ {f:Nat->Nat} {n:Nat} (h:∀ i j,i<j->j<n->f i≠f j):((List.range n).map f).Nodup:=by
 show List.Pairwise _ _
 rw [List.pairwise_map]
 exact List.Pairwise.imp_of_mem (R:=(·<·)) (λ{a b} ha hb hab=>h a b hab (List.mem_range.mp hb)) List.pairwise_lt_range
theorem rest_eq {p x y:Int} (hp:0<p) (e:(x%p).toNat=(y%p).toNat):Al p x y:=by
 have h1:=Int.emod_nonneg x (show p≠0 by omega)
 have h2:=Int.emod_nonneg y (show p≠0 by omega)
 exact Al.iff.mpr (by omega)
theorem back {n a:Int} (hn:2<=n) (c:Co a n):∃ d:Nat,0<d/\(d:Int)<=n/\Al n (a^d) 1:=by
 by_cases z:∃ i j:Nat,i<j/\j<n.toNat+1/\Al n (a^i) (a^j)
 ·obtain⟨i,j,ij,jn,e⟩:=z
  refine⟨j-i,by omega,by omega,?_⟩
  have e1:a^j=a^i*a^(j-i):=by rw [<- Pw.pow_add];congr 1;omega
  rw [e1] at e
  have e2:Al n (a^i*1) (a^i*a^(j-i)):=by rw [Int.mul_one];exact e
  exact ((c.pow i).cancel e2).symm
 ·exfalso
  have nd:=lJ (f:=λi=>(a^i%n).toNat) (n:=n.toNat+1) λi j ij jn e=>z ⟨i,j,ij,jn,rest_eq (by omega) e⟩
  have:=mR n.toNat _ nd λx hx=>by
   obtain⟨i,_,rfl⟩:=List.mem_map.mp hx
   have h1:=Int.emod_nonneg (a^i) (show n≠0 by omega)
   have h2:=Int.emod_lt_of_pos (a^i) (show 0<n by omega)
   show (a^i%n).toNat<n.toNat
   omega
  rw [List.length_map,List.length_range] at this
  omega
def fact:Nat->Nat
 | 0=>1
 | n+1=>(n+1)*fact n
theorem nZ:∀ n,0<fact n
 | 0=>by decide
 | n+1=>Nat.mul_pos (Nat.succ_pos n) (nZ n)
theorem nV {d:Nat}:∀ n,0<d->d<=n->d∣fact n
 | 0,h,h'=>by omega
 | n+1,h,h'=>by
  by_cases c:d=n+1
  ·subst c;exact⟨fact n,rfl⟩
  ·exact Nat.dvd_trans (nV n h (by omega)) ⟨n+1,Nat.mul_comm _ _⟩
theorem Ord.mul {n a b:Int} {k m:Nat} (ha:Ord n a k) (hb:Ord n b m) (ca:Co a n) (cb:Co b n) (co:Nat.Coprime k m):Ord n (a*b) (k*m):=by
 refine⟨Nat.mul_pos ha.pos hb.pos,?_,λj hj=>?_⟩
 ·rw [Pw.mul_pow]
  have h1:=aT (k:=m) ha.one
  have h2:=aT (k:=k) hb.one
  rw [Nat.mul_comm m k] at h2
  exact h1.mul h2
 ·rw [Pw.mul_pow] at hj
  have d1:k∣j:=by
   have e:=hj.pow m
   rw [Pw.one_pow,Pw.mul_pow,<- Pw.pow_mul,<- Pw.pow_mul] at e
   have h2:=aT (k:=j) hb.one
   rw [Nat.mul_comm m j] at h2
   have e2:Al n (a^(j*m)) 1:=by
    have:=(Al.refl n (a^(j*m))).mul h2.symm
    rw [Int.mul_one] at this
    exact this.trans e
   exact Nat.Coprime.dvd_of_dvd_mul_right co (ha.dv _ e2)
  have d2:m∣j:=by
   have e:=hj.pow k
   rw [Pw.one_pow,Pw.mul_pow,<- Pw.pow_mul,<- Pw.pow_mul] at e
   have h2:=aT (k:=j) ha.one
   rw [Nat.mul_comm k j] at h2
   have e2:Al n (b^(j*k)) 1:=by
    have:=h2.symm.mul (Al.refl n (b^(j*k)))
    rw [Int.one_mul] at this
    exact this.trans e
   exact Nat.Coprime.dvd_of_dvd_mul_right co.symm (hb.dv _ e2)
  exact Nat.Coprime.mul_dvd_of_dvd_of_dvd co d1 d2
end Num
namespace Num
def Nm (q:Nat):Prop:=2<=q/\∀ d,2<=d->d<q->¬d∣q
theorem CM {m:Nat} (h:2<=m):∃ q,Nm q/\q∣m:=by
 obtain⟨q,⟨q2,qm⟩,no⟩:=fh (P:=λd=>2<=d/\d∣m) m ⟨h,Nat.dvd_refl m⟩
 exact⟨q,⟨q2,λd d2 dq hd=>no d dq ⟨d2,Nat.dvd_trans hd qm⟩⟩,qm⟩
theorem Nm.co {q m:Nat} (h:Nm q) (hm:¬q∣m):Nat.Coprime q m:=by
 have hg:=Nat.gcd_dvd_left q m
 have g0:0<Nat.gcd q m:=Nat.gcd_pos_of_pos_left m (by have:=h.1;omega)
 have gl:=Nat.le_of_dvd (by have:=h.1;omega) hg
 rcases (by omega:Nat.gcd q m=1∨(2<=Nat.gcd q m/\Nat.gcd q m<q)∨Nat.gcd q m=q) with z | ⟨z1,z2⟩ | z
 ·exact z
 ·exact absurd hg (h.2 _ z1 z2)
 ·exact absurd (z▸Nat.gcd_dvd_right q m) hm
theorem xG {q:Nat} (hq:2<=q):∀ m:Nat,0<m->∃ k m',m=q^k*m'/\¬q∣m':=by
 intro m
 induction m using Nat.strongRecOn with
 | ind m ih =>
  intro hm
  by_cases c:q∣m
  ·obtain⟨t,ht⟩:=c
   have t0:0<t:=by
    rcases Nat.eq_zero_or_pos t with z | z
    ·subst z;omega
    ·exact z
   have tm:t<m:=by
    rw [ht]
    have:=Nat.mul_le_mul_right t hq
    omega
   obtain⟨k,m',e,hn⟩:=ih t tm t0
   exact⟨k+1,m',by rw [ht,e,Nat.pow_succ,Nat.mul_comm (q^k) q,Nat.mul_assoc],hn⟩
  ·exact⟨0,m,by simp,c⟩
theorem sh {q:Nat} (h:Nm q):∀(k d:Nat),d∣q^(k+1)->¬d∣q^k->d=q^(k+1):=by
 intro k
 induction k with
 | zero =>
  intro d h1 h2
  rw [Nat.zero_add,Nat.pow_one] at h1 ⊢
  rw [Nat.pow_zero] at h2
  have q2:=h.1
  have d0:0<d:=Nat.pos_of_dvd_of_pos h1 (by omega)
  have dl:=Nat.le_of_dvd (by omega) h1
  rcases (by omega:d=1∨(2<=d/\d<q)∨d=q) with z | ⟨z1,z2⟩ | z
  ·exact absurd (z▸Nat.dvd_refl 1) h2
  ·exact absurd h1 (h.2 d z1 z2)
  ·exact z
 | succ k ih =>
  intro d h1 h2
  by_cases c:q∣d
  ·obtain⟨t,ht⟩:=c
   have q0:0<q:=by have:=h.1;omega
   rw [ht,Nat.pow_succ,Nat.mul_comm (q^(k+1)) q] at h1
   rw [ht,Nat.pow_succ,Nat.mul_comm (q^k) q] at h2
   have e1:=Nat.dvd_of_mul_dvd_mul_left q0 h1
   have e2:¬t∣q^k:=λz=>h2 (Nat.mul_dvd_mul_left q z)
   rw [ht,ih t e1 e2,Nat.pow_succ q (k+1),Nat.mul_comm]
  ·have co:Nat.Coprime (q^(k+1+1)) d:=Nat.Coprime.pow_left _ (h.co c)
   have:d∣1:=by
    have:=Nat.dvd_gcd h1 (Nat.dvd_refl d)
    rwa [co] at this
   exact absurd (Nat.dvd_trans this (Nat.one_dvd _)) h2
section
variable {p:Int} {L:Nat}
structure Ex (p:Int) (L:Nat):Prop where
 pos:0<L
 all:∀ a:Int,¬p∣a->Al p (a^L) 1
 no:∀ j,0<j->j<L->∃ a:Int,¬p∣a/\¬Al p (a^j) 1
theorem Pm.unit {p a:Int} (hp:Pm p) (c:Co a p):¬p∣a:=λh=>by
 obtain⟨u,v,e⟩:=c
 have h1:p∣u*a:=Int.dvd_mul_of_dvd_right h
 have h2:p∣v*p:=⟨v,Int.mul_comm _ _⟩
 have:=Int.dvd_add h1 h2
 rw [e] at this
 have:=Int.le_of_dvd (by decide) this
 have:=hp.two
 omega
theorem Ag (hp:Pm p):∃ L,Ex p L:=by
 have h2:=hp.two
 have uni:∀ a:Int,¬p∣a->Al p (a^fact p.toNat) 1:=λa ha=>by
  obtain⟨d,d0,d1,e⟩:=back h2 (hp.co ha)
  obtain⟨t,ht⟩:=nV p.toNat d0 (by omega)
  rw [ht]
  exact aT e
 obtain⟨L,⟨l0,l1⟩,no⟩:=fh (P:=λj=>0<j/\∀ a:Int,¬p∣a->Al p (a^j) 1) (fact p.toNat) ⟨nZ _,uni⟩
 refine⟨L,l0,l1,λj j0 jl=>?_⟩
 have:=no j jl
 by_cases z:∃ a:Int,¬p∣a/\¬Al p (a^j) 1
 ·exact z
 ·exact absurd ⟨j0,λa ha=>Classical.byContradiction λw=>z ⟨a,ha,w⟩⟩ this
theorem oO (hp:Pm p) (h:Ex p L):∀ m:Nat,0<m->m∣L->∃ x:Int,Co x p/\Ord p x m:=by
 intro m
 induction m using Nat.strongRecOn with
 | ind m ih =>
  intro hm hd
  by_cases c:m=1
  ·subst c
   exact⟨1,⟨1,0,by omega⟩,by decide,by rw [Int.pow_succ,Int.pow_zero];exact Al.refl _ _,λj _=>Nat.one_dvd j⟩
  ·obtain⟨q,hq,qm⟩:=CM (show 2<=m by omega)
   obtain⟨k,m',e,hn⟩:=xG hq.1 m hm
   have q0:0<q:=by have:=hq.1;omega
   obtain⟨k',rfl⟩:∃ k',k=k'+1:=by
    cases k with
    | zero=>rw [Nat.pow_zero,Nat.one_mul] at e;exact absurd (e▸qm) hn
    | succ k'=>exact⟨k',rfl⟩
   have m0:0<m':=by
    rcases Nat.eq_zero_or_pos m' with z | z
    ·rw [z,Nat.mul_zero] at e;omega
    ·exact z
   have qk:2<=q^(k'+1):=by
    rw [Nat.pow_succ]
    have:=Nat.mul_le_mul (Nat.pow_pos (n:=k') q0) hq.1
    omega
   have mm:m'<m:=by
    rw [e]
    have:=Nat.mul_le_mul_right m' qk
    omega
   obtain⟨y,cy,oy⟩:=ih m' mm m0 (Nat.dvd_trans ⟨q^(k'+1),by rw [e,Nat.mul_comm]⟩ hd)
   have dq:q^(k'+1)∣L:=Nat.dvd_trans ⟨m',e⟩ hd
   obtain⟨T,hT⟩:=dq
   have T0:0<T:=by
    rcases Nat.eq_zero_or_pos T with z | z
    ·rw [z,Nat.mul_zero] at hT;have:=h.pos;omega
    ·exact z
   have eL:L=q*(q^k'*T):=by rw [hT,Nat.pow_succ,Nat.mul_comm (q^k') q,Nat.mul_assoc]
   have jp:0<q^k'*T:=Nat.mul_pos (Nat.pow_pos q0) T0
   have jl:q^k'*T<L:=by
    rw [eL]
    have:=Nat.mul_le_mul_right (q^k'*T) hq.1
    omega
   obtain⟨a,ha,hna⟩:=h.no _ jp jl
   have ca:=hp.co ha
   have z1:Al p ((a^T)^(q^(k'+1))) 1:=by
    rw [<- Pw.pow_mul,Nat.mul_comm,<- hT]
    exact h.all a ha
   have z2:¬Al p ((a^T)^(q^k')) 1:=by
    rw [<- Pw.pow_mul,Nat.mul_comm]
    exact hna
   obtain⟨d,od,_⟩:=mN (Nat.pow_pos q0) z1
   have d1:=od.dv _ z1
   have d2:¬d∣q^k':=λw=>z2 (by obtain⟨t,ht⟩:=w;rw [ht];exact aT od.one)
   have ed:=sh hq k' d d1 d2
   subst ed
   refine⟨a^T*y,(ca.pow T).mul cy,?_⟩
   rw [e]
   exact od.mul oy (ca.pow T) cy (Nat.Coprime.pow_left _ (hq.co hn))
theorem Ah (hp:Pm p) (h:Ex p L):(L:Int)=p-1:=by
 have h2:=hp.two
 have h1:=ym hp h.pos h.all
 obtain⟨g,cg,og⟩:=oO hp h L h.pos (Nat.dvd_refl L)
 have nd:=lJ (f:=λi=>(g^i%p).toNat-1) (n:=L) λi j ij jn e=>by
  have r1:∀ k:Nat,1<=(g^k%p).toNat:=λk=>by
   have a1:=Int.emod_nonneg (g^k) (show p≠0 by omega)
   have:g^k%p≠0:=λz=>hp.unit (cg.pow k) (Int.dvd_of_emod_eq_zero z)
   omega
  have e':(g^i%p).toNat=(g^j%p).toNat:=by
   have:=r1 i
   have:=r1 j
   have e:(g^i%p).toNat-1=(g^j%p).toNat-1:=e
   omega
  have:=og.inj cg (by omega) jn (rest_eq (by omega) e')
  omega
 have:=mR (p-1).toNat _ nd λx hx=>by
  obtain⟨i,_,rfl⟩:=List.mem_map.mp hx
  have a1:=Int.emod_nonneg (g^i) (show p≠0 by omega)
  have a2:=Int.emod_lt_of_pos (g^i) (show 0<p by omega)
  have:g^i%p≠0:=λz=>hp.unit (cg.pow i) (Int.dvd_of_emod_eq_zero z)
  show (g^i%p).toNat-1<(p-1).toNat
  omega
 rw [List.length_map,List.length_range] at this
 omega
theorem mx (hp:Pm p) {a:Int} (ha:¬p∣a):Al p (a^(p-1).toNat) 1:=by
 obtain⟨L,h⟩:=Ag hp
 have:=Ah hp h
 rw [show (p-1).toNat=L by omega]
 exact h.all a ha
theorem qB (hp:Pm p) {m:Nat} (h0:0<m) (hd:m∣(p-1).toNat):∃ x:Int,1<=x/\x<p/\Ord p x m:=by
 obtain⟨L,h⟩:=Ag hp
 have:=Ah hp h
 have h2:=hp.two
 obtain⟨x,cx,ox⟩:=oO hp h m h0 (by rwa [show (p-1).toNat=L by omega] at hd)
 have a1:=Int.emod_nonneg x (show p≠0 by omega)
 have a2:=Int.emod_lt_of_pos x (show 0<p by omega)
 have a3:x%p≠0:=λz=>hp.unit cx (Int.dvd_of_emod_eq_zero z)
 refine⟨x%p,by omega,a2,ox.pos,((Al.rest p x).pow m).trans ox.one,λj hj=>ox.dv j (((Al.rest p x).pow j).symm.trans hj)⟩
theorem yH (hp:Pm p):∃ g:Int,1<=g/\g<p/\Ord p g (p-1).toNat:=qB hp (by have:=hp.two;omega) (Nat.dvd_refl _)
end
end Num
namespace Num
theorem Co.By {n a:Int} {m:Nat} (h:Al n (a^(m+1)) 1):Co a n:=by
 obtain⟨c,hc⟩:=h
 refine⟨a^m,-c,?_⟩
 rw [Int.pow_succ] at hc
 rw [Int.neg_mul,Int.mul_comm c n]
 omega
end Num
namespace Num
theorem wX {n r:Int} (h:Ld.uW n r):Pm r:=⟨h.two,λd d2 dr hd=>h.no d d2 dr (Int.dvd_trans hd h.dv)⟩
def cE:List (Int × Int)->Int
 | []=>1
 | p::r=>p.1^p.2.toNat*cE r
theorem kz:∀(ps:List (Int × Int)) (p:Int × Int),cE (ps++[p])=cE ps*p.1^p.2.toNat
 | [],p=>by show p.1^_*1=1*_;omega
 | q::r,p=>by
  show q.1^q.2.toNat*cE (r++[p])=q.1^q.2.toNat*cE r*_
  rw [kz r p,Int.mul_assoc]
structure Part (n:Int) (ps:List (Int × Int)):Prop where
 ok:∀ p∈ps,Pm p.1/\1<=p.2/\p.2<=30
 rise:ps.Pairwise λa b=>a.1<b.1
 prod:cE ps=n
theorem bz {q:Int} (h:0<q):∀ k:Nat,0<q^k
 | 0=>by rw [Int.pow_zero];decide
 | k+1=>by rw [Int.pow_succ];exact Int.mul_pos (bz h k) h
theorem two_pow_le {q:Int} (h:2<=q):∀ k:Nat,(2:Int)^k<=q^k
 | 0=>by rw [Int.pow_zero,Int.pow_zero];exact Int.le_refl _
 | k+1=>by
  rw [Int.pow_succ,Int.pow_succ]
  exact Int.mul_le_mul (two_pow_le h k) h (by decide) (Int.le_of_lt (bz (by omega) k))
theorem two_le:∀{k:Nat},(2:Int)^k<=10^9->k<=29:=by
 intro k h
 by_cases c:k<=29
 ·exact c
 ·exfalso
  have e:k=30+(k-30):=by omega
  rw [e,Pw.pow_add] at h
  have:=bz (show (0:Int)<2 by decide) (k-30)
  have h2:=Int.mul_le_mul_of_nonneg_left (show (1:Int)<=2^(k-30) by omega) (show (0:Int)<=2^30 by decide)
  have:(2:Int)^30=1073741824:=by decide
  omega
structure Way (n:Int) (ps:List (Int × Int)) (left prime:Int):Prop where
 ok:∀ p∈ps,Pm p.1/\1<=p.2/\p.2<=30
 rise:ps.Pairwise λa b=>a.1<b.1
 prod:cE ps*left=n
 pos:1<=left
 inv:Ld.Inv left prime
 le:∀ p∈ps,p.1<=prime
 gone:ps=[]∨¬prime∣left
 two:(2:Int)^ps.length*left<=n
theorem Way.start {n:Int} (h:1<=n):Way n [] n 2:=⟨λ_ z=>by simp at z,List.Pairwise.nil,by show 1*n=n;omega,h,⟨by decide,.inl rfl,λd d0 d1=>by omega⟩,λ_ z=>by simp at z,.inl rfl,by rw [List.length_nil,Int.pow_zero];omega⟩
theorem Way.step {n left prime r left':Int} {ps:List (Int × Int)} {k:Nat} (w:Way n ps left prime) (hn:n<=10^9) (hl:1<left) (h:Ld.uW left r) (e:left=r^k*left') (l0:1<=left') (hk:1<=k) (hg:¬r∣left'):Way n (ps++[(r,(k:Int))]) left' r:=by
 have r2:=h.two
 have pm:=wX h
 have rp:prime<=r:=by
  rcases (by omega:prime<=r∨r<prime) with z | z
  ·exact z
  ·exact absurd h.dv (w.inv.no r r2 z)
 have rk:=bz (show 0<r by omega) k
 have k2:=two_pow_le r2 k
 have kl:(2:Int)^k<=left:=by
  have:=Int.mul_le_mul k2 l0 (by decide) (Int.le_of_lt rk)
  rw [Int.mul_one] at this
  omega
 have ln:left<=n:=by
  have z:=w.two
  have p0:=bz (show (0:Int)<2 by decide) ps.length
  have:=Int.mul_le_mul_of_nonneg_right (show (1:Int)<=2^ps.length by omega) (show 0<=left by omega)
  omega
 have k29:=two_le (k:=k) (by omega)
 refine⟨λp hp=>?_,?_,?_,l0,?_,λp hp=>?_,.inr hg,?_⟩
 ·rcases List.mem_append.mp hp with z | z
  ·exact w.ok p z
  ·rw [List.mem_singleton.mp z]
   exact⟨pm,by show (1:Int)<=k;omega,by show (k:Int)<=30;omega⟩
 ·refine List.pairwise_append.mpr ⟨w.rise,List.pairwise_singleton _ _,λa ha b hb=>?_⟩
  rw [List.mem_singleton.mp hb]
  show a.1<r
  have:=w.le a ha
  rcases w.gone with z | z
  ·rw [z] at ha;simp at ha
  ·have:prime≠r:=λy=>z (y▸h.dv)
   omega
 ·rw [kz,<- w.prod,e]
  show cE ps*r^((k:Int).toNat)*left'=_
  rw [Int.toNat_natCast,Int.mul_assoc]
 ·refine⟨r2,?_,λd d0 d1 hd=>h.no d d0 d1 (by rw [e];exact Int.dvd_mul_of_dvd_right hd)⟩
  rcases (by omega:r=2∨2<r) with z | z
  ·exact .inl z
  ·refine .inr ?_
   rcases (by omega:r%2=1∨r%2=0) with y | y
   ·exact y
   ·exact absurd (Int.dvd_of_emod_eq_zero y) (pm.no 2 (by decide) z)
 ·rcases List.mem_append.mp hp with z | z
  ·have:=w.le p z;omega
  ·rw [List.mem_singleton.mp z];exact Int.le_refl _
 ·rw [List.length_append,List.length_singleton,Pw.pow_add,Int.pow_succ,Int.pow_zero,Int.one_mul,Int.mul_assoc]
  refine Int.le_trans (Int.mul_le_mul_of_nonneg_left ?_ (Int.le_of_lt (bz (by decide) _))) w.two
  rw [e]
  obtain⟨k',rfl⟩:∃ k',k=k'+1:=⟨k-1,by omega⟩
  have p0:=bz (show 0<r by omega) k'
  have h1:r<=r^(k'+1):=by
   rw [Int.pow_succ]
   have:=Int.mul_le_mul_of_nonneg_right (show 1<=r^k' by omega) (show 0<=r by omega)
   omega
  exact Int.mul_le_mul_of_nonneg_right (show 2<=r^(k'+1) by omega) (show 0<=left' by omega)
theorem Way.done {n prime:Int} {ps:List (Int × Int)} (w:Way n ps 1 prime):Part n ps:=⟨w.ok,w.rise,by have:=w.prod;omega⟩
theorem Way.len {n left prime:Int} {ps:List (Int × Int)} (w:Way n ps left prime) (hn:n<=10^9):ps.length<=29:=by
 refine two_le ?_
 have z:=w.two
 have p0:=bz (show (0:Int)<2 by decide) ps.length
 have:=Int.mul_le_mul_of_nonneg_left w.pos (Int.le_of_lt p0)
 omega
end Num
namespace Num
open PySem
theorem fc:∀{ps:List (Int × Int)} {p:Int × Int},p∈ps->1<=p.2->p.1∣cE ps
 | a::r,p,h,hk=>by
  rcases List.mem_cons.mp h with z | z
  ·subst z
   obtain⟨k,hk'⟩:∃ k,p.2.toNat=k+1:=⟨p.2.toNat-1,by omega⟩
   show p.1∣p.1^p.2.toNat*cE r
   rw [hk',Int.pow_succ]
   exact Int.dvd_mul_of_dvd_left ⟨p.1^k,Int.mul_comm _ _⟩
  ·exact Int.dvd_mul_of_dvd_right (fc z hk)
theorem As {p:Int} (h:Pm p):Nm p.toNat:=⟨by have:=h.two;omega,λd d2 dp hd=>h.no d (by omega) (by omega) (by
 have:=Int.natCast_dvd_natCast.mpr hd
 rwa [show (p.toNat:Int)=p by have:=h.two;omega] at this)⟩
theorem wY {p q:Int} (hp:Pm p) (hq:Pm q):∀ k:Nat,q∣p^k->q=p
 | 0,h=>by
  rw [Int.pow_zero] at h
  have:=Int.le_of_dvd (by decide) h
  have:=hq.two
  omega
 | k+1,h=>by
  rw [Int.pow_succ] at h
  by_cases c:q∣p^k
  ·exact wY hp hq k c
  ·have d:=hq.or h c
   have l:=Int.le_of_dvd (by have:=hp.two;omega) d
   rcases (by omega:q<p∨q=p) with z | z
   ·exact absurd d (hp.no q hq.two z)
   ·exact z
theorem gW {q:Int} (hq:Pm q):∀{ps:List (Int × Int)},(∀ p∈ps,Pm p.1)->q∣cE ps->∃ p∈ps,p.1=q
 | [],_,h=>by
  have:=Int.le_of_dvd (by decide) (show q∣1 from h)
  have:=hq.two
  omega
 | a::r,hp,h=>by
  by_cases c:q∣a.1^a.2.toNat
  ·exact⟨a,by simp,(wY (hp a (by simp)) hq _ c).symm⟩
  ·obtain⟨p,h1,h2⟩:=gW hq (λp z=>hp p (List.mem_cons_of_mem _ z)) (hq.or h c)
   exact⟨p,List.mem_cons_of_mem _ h1,h2⟩
structure LF (p g:Int):Prop where
 one:1<=g
 lt:g<p
 ord:Ord p g (p-1).toNat
 no:∀ a:Int,1<=a->a<g->¬Ord p a (p-1).toNat
def rowsOf (ps:List (Int × Int)) (ds:Nat->PyData):List PyData:=(List.range ps.length).map λi=>.tuple [ds i,.int (ps.getD i (0,0)).2]
theorem cU {ps:List (Int × Int)} {ds:Nat->PyData}:(rowsOf ps ds).length=ps.length:=by unfold rowsOf;rw [List.length_map,List.length_range]
theorem kB {ps:List (Int × Int)} {ds:Nat->PyData} {i:Nat} {p:Int × Int} (h:ps[i]?=some p):(rowsOf ps ds)[i]?=some (.tuple [ds i,.int p.2]):=by
 have hi:=(List.getElem?_eq_some_iff.mp h).1
 unfold rowsOf
 rw [List.getElem?_map,List.getElem?_range hi]
 show some (PyData.tuple [ds i,.int (ps.getD i (0,0)).2])=_
 rw [List.getD_eq_getElem?_getD,h]
 rfl
inductive i5:Int->PyData->Prop
 | mk (p g:Int) (ps:List (Int × Int)) (ds:Nat->PyData):Pm p->p<=10^9->LF p g->Part (p-1) ps->ps.length<=29->(∀ i q k,ps[i]?=some (q,k)->i5 q (ds i))->i5 p (.tuple [.int p,.int g,.tuple (rowsOf ps ds)])
theorem i5.head {p:Int} {d:PyData} (h:i5 p d):∃ g rows,d=.tuple [.int p,.int g,.tuple rows]:=by
 cases h
 exact⟨_,_,rfl⟩
def Ht:Nat->Int->Prop
 | 0,_=>False
 | L+1,n=>∀ q:Int,Pm q->q∣n-1->Ht L q
theorem Ai:∀(L:Nat) (n:Int),Pm n->n<2^(L+2)->Ht (L+2) n
 | 0,n,h,hn=>by
  have h2:=h.two
  have hn':n<4:=hn
  intro q hq hd
  intro q' hq' hd'
  have q2:=hq.two
  have l:=Int.le_of_dvd (by rcases (by omega:n=2∨n=3) with z | z;exfalso;rw [z] at hd;have:=Int.le_of_dvd (by decide) hd;omega;omega) hd
  have qq:q=2:=by omega
  rw [qq] at hd'
  have:=Int.le_of_dvd (by decide) hd'
  have:=hq'.two
  omega
 | L+1,n,h,hn=>by
  intro q hq hd
  have q2:=hq.two
  have h2:=h.two
  refine Ai L q hq ?_
  have e:(2:Int)^(L+1+2)=2^(L+2)*2:=by rw [<- Int.pow_succ]
  rw [e] at hn
  have four:(4:Int)<=2^(L+2):=by
   have:=bz (show (0:Int)<2 by decide) L
   have e4:(2:Int)^(L+2)=2^L*4:=by rw [Pw.pow_add];rfl
   omega
  obtain⟨c,hc⟩:=hd
  rcases (by omega:n<=3∨3<n) with z | z
  ·have:q<=n-1:=Int.le_of_dvd (by
    rcases (by omega:n=2∨n=3) with y | y
    ·exfalso
     rw [y] at hc
     have:=Int.le_of_dvd (by decide) (show q∣1 from ⟨c,hc⟩)
     omega
    ·omega) ⟨c,hc⟩
   omega
  ·rcases (by omega:n%2=0∨n%2=1) with y | y
   ·exact absurd (Int.dvd_of_emod_eq_zero y) (h.no 2 (by decide) (by omega))
   ·rcases (by omega:q=2∨2<q) with x | x
    ·omega
    ·have qo:q%2=1:=by
      rcases (by omega:q%2=1∨q%2=0) with w | w
      ·exact w
      ·exact absurd (Int.dvd_of_emod_eq_zero w) (hq.no 2 (by decide) x)
     have ce:c%2=0:=by
      rcases (by omega:c%2=0∨c%2=1) with w | w
      ·exact w
      ·exfalso
       have:(q*c)%2=1:=by rw [Int.mul_emod,qo,w];rfl
       omega
     have c2:2<=c:=by
      rcases (by omega:c<=0∨2<=c) with w | w
      ·have:=Int.mul_nonpos_of_nonneg_of_nonpos (show 0<=q by omega) w
       omega
      ·exact w
     have:=Int.mul_le_mul_of_nonneg_left c2 (show 0<=q by omega)
     omega
theorem Bg {n:Int} (h:Pm n) (hn:n<=10^9):Ht 30 n:=Ai 28 n h (by
 have:(2:Int)^(28+2)=1073741824:=by decide
 omega)
end Num
namespace L2
open PySem PySem.Spec PyProof.Rows
def E5:PyData->String
 | .none => "NoneType"
 | .bool _ => "bool"
 | .int _ => "int"
 | .str _ => "str"
 | .list _ => "list"
 | .tuple _ => "tuple"
 | .dict _ => "dict"
def EW:PyData->Bool
 | .tuple _=>true
 | _=>false
section
variable {X:Cx} {K:PySem.W.Frag}
def Aw (K:PySem.W.Frag):List V->Hp->VK->Prop:=λxs H Q=>∃ d x n b,xs=[x,.ty n]/\dv K H d x/\PySem.W.kitOne K (.type (E5 d)) (.type n)=some b/\Q (.bl b) H
theorem tD:cL X (.builtin "isinstance") (Aw X.K):=by
 intro pins s σ H xs us Q I r h
 obtain⟨d,x,n,b,rfl,hd,ek,q⟩:=h
 obtain⟨u,w',rfl,rx,rc⟩:=vals2 r
 have e:w'=.type n:=rc
 subst e
 have fin:∀ tk,∃ v' H',Inv X pins σ H' { s with toks:=tk }/\RelV v' (.bool b)/\Q v' H':=λtk=>⟨.bl b,H,I.tok _,rfl,q⟩
 cases d with
 | none=>cases hd;exact dW I rx eU.non ek fin
 | bool y=>cases hd;exact dW I rx (eU.bl _) ek fin
 | int y=>cases hd;exact dW I rx (eU.int _) ek fin
 | str y=>cases hd;exact dW I rx (eU.str _) ek fin
 | list ds =>
  obtain⟨p,ys,rfl,h,t⟩:=hd
  cases rx
  obtain⟨its,rr,pl,_⟩:=I.list h
  obtain⟨o,h1,h2,_⟩:=pl.isList
  exact PySem.W.kia_one PySem.W.kitx_list I.d6 ⟨o,h1,h2⟩ ek (λz=>nomatch z) fin
 | tuple ds =>
  obtain⟨p,ys,rfl,h,t⟩:=hd
  cases rx
  obtain⟨its,rr,pl,_⟩:=I.tuple h
  obtain⟨o,h1,h2,_⟩:=pl
  exact PySem.W.kia_one PySem.W.kitx_tuple I.d6 ⟨o,h1,h2⟩ ek (λz=>nomatch z) fin
 | dict _=>exact hd.elim
theorem yL {H:Hp} {d:PyData} {x:V} {Q:VK} (h:dv K H d x) (q:Q (.bl (EW d)) H):Aw K [x,.ty "tuple"] H Q:=by
 refine⟨d,x,"tuple",_,rfl,h,?_,q⟩
 cases d<;>first | exact h.elim | with_unfolding_all rfl
end
def Cw (i:Int) (n:Nat):List V:=(List.range n).map fun(k:Nat)=>V.int (i+(k:Int))
def E3 (ta:TA):TE:=λσ H Q=>ta σ H λvs H1=>∃ i j:Int,vs=[.int i,.int j]/\(-(2^62)<=i/\i<2^62 /\ -(2^62)<=j/\j<2^62)/\j-i<=10^6/\∀ l,H1 l=none->Q (.ref l) (upd H1 l (.lst (Cw i (j-i).toNat)))
variable {X:Cx}
theorem boot_any:bootBuiltins "any"=some (.builtin "any"):=by decide +kernel
section
variable {X:Cx} {K:PySem.W.Frag}
def D4 (K:PySem.W.Frag):List V->Hp->VK->Prop:=λxs H Q=>∃(a:Addr) (bs:List Bool),xs=[.ref a]/\aM K H a (bs.map V.bl)/\Q (.bl (bs.any id)) H
theorem vb (hc:X.calm=true):cL X (.builtin "any") (D4 X.K):=by
 intro pins s σ H xs us Q I r h
 obtain⟨a,bs,rfl,hq,q⟩:=h
 obtain⟨u,rfl,ru⟩:=vals1 r
 cases ru
 obtain⟨its,rv,p,hz⟩:=I.list hq
 have hl:=p.isList
 have hlt:a<s.heap.objs.size:=by obtain⟨_,e,_⟩:=hl;exact Heap.lt_size e
 have hln:its.length=bs.length:=by have:=rv.length;rw [List.length_map] at this;omega
 have hb:∀(i:Nat) v,its[i]?=some v->∃ b,bs[i]?=some b/\v=.bool b:=λi v e=>by
  have hi:i<its.length:=(List.getElem?_eq_some_iff.mp e).1
  have hi2:i<bs.length:=by omega
  obtain⟨u,e1,e2⟩:=rv.get (i:=i) (x:=V.bl bs[i]) (by rw [List.getElem?_map,List.getElem?_eq_getElem hi2];rfl)
  rw [e] at e1
  cases e1
  exact⟨bs[i],List.getElem?_eq_getElem hi2,e2⟩
 refine call_any_walk (wpAny_pyIter_list hl ?_)
 refine⟨s.heap.objs.size,[s.heap.objs.size,a],[s.heap.objs.size],its.toArray.size,_,_,λi=>(bs[i]?).getD false,rfl,Walks.list (A:=X.A.in1) (I.ok.hd hc) _ a (Nat.ne_of_lt hlt) its.toArray,
  ⟨⟨_,Heap.get?_push_size _ rfl,rfl,rfl⟩,hl.push _⟩,λi v s' Q' E' hP hQ=>?_,λh' tk hk=>?_⟩
 ·obtain⟨b,e,rfl⟩:=hb i v (by simpa using hP)
  simp only [e,Option.getD_some] at hQ
  exact wpAny_truthy_bool hQ
 ·have e:((List.range its.toArray.size).any λi=>(bs[i]?).getD false)=bs.any id:=by
   rw [List.size_toArray,hln,Bool.eq_iff_iff]
   simp only [List.any_eq_true,List.mem_range,id]
   constructor
   ·rintro⟨i,hi,z⟩
    rw [List.getElem?_eq_getElem hi,Option.getD_some] at z
    exact⟨_,List.getElem_mem hi,z⟩
   ·rintro⟨b,hb',z⟩
    obtain⟨i,hi,rfl⟩:=List.mem_iff_getElem.mp hb'
    exact⟨i,hi,by rw [List.getElem?_eq_getElem hi,Option.getD_some];exact z⟩
  rw [e]
  exact⟨.bl _,H,I.kept λb o eb=>hk b o (λhm=>by rw [List.mem_singleton.mp hm] at eb;exact Nat.lt_irrefl _ (Heap.lt_size eb)) (Heap.get?_push_of_some _ eb),rfl,q⟩
end
section
variable {κ:Type} [DecidableEq κ]
def bM (kvs:List (κ × V)) (k:κ):Option V:=(kvs.find? λkv=>decide (kv.1=k)).map (·.2)
def putK (kvs:List (κ × V)) (k:κ) (v:V):List (κ × V) :=
 if (kvs.any λkv=>decide (kv.1=k))=true then kvs.map (λkv=>if kv.1=k then (kv.1,v) else kv) else kvs++[(k,v)]
def bH (kvs:List (κ × V)) (k:κ):List (κ × V):=kvs.filter λkv=>decide (kv.1≠k)
theorem bP {p:κ × V} {r:List (κ × V)} {k:κ} (e:p.1=k):bM (p::r) k=some p.2:=by simp [bM,List.find?_cons,e]
theorem bK {p:κ × V} {r:List (κ × V)} {k:κ} (e:¬p.1=k):bM (p::r) k=bM r k:=by simp [bM,List.find?_cons,e]
theorem iz (k:κ):∀ kvs:List (κ × V),(kvs.any λkv=>decide (kv.1=k))=(bM kvs k).isSome
 | []=>rfl
 | p::r=>by
  rw [List.any_cons]
  by_cases e:p.1=k
  ·simp only [bP e,decide_eq_true e,Bool.true_or,Option.isSome_some]
  ·rw [bK e,decide_eq_false e,Bool.false_or];exact iz k r
theorem fY (k j:κ) (y:V):∀ kvs:List (κ × V),bM kvs k=none->bM (kvs++[(k,y)]) j=if j=k then some y else bM kvs j
 | [],_=>by
  by_cases e:k=j
  ·rw [if_pos e.symm];exact bP (p:=(k,y)) e
  ·rw [if_neg (λz=>e z.symm)];exact bK (p:=(k,y)) e
 | p::r,hn=>by
  rw [List.cons_append]
  have hk:¬p.1=k:=λz=>by rw [bP z] at hn;cases hn
  rw [bK hk] at hn
  have ih:=fY k j y r hn
  by_cases e:p.1=j
  ·rw [bP e,bP e,if_neg (λz=>hk (e.trans z))]
  ·rw [bK e,bK e,ih]
theorem fj (kvs:List (κ × V)) (k:κ) (v:V):(putK kvs k v).length<=kvs.length+1:=by
 unfold putK
 split
 ·rw [List.length_map];omega
 ·rw [List.length_append,List.length_cons,List.length_nil];omega
theorem oZ {kvs:List (κ × V)} {k:κ} (v:V) (h:bM kvs k=none):putK kvs k v=kvs++[(k,v)]:=by
 unfold putK
 rw [iz,h]
 exact if_neg (by decide)
theorem dS.dU {o:Option V} {u:Option Value} (r:dS o u):o.isSome=u.isSome:=by
 cases o with
 | none=>cases u with
  | none=>rfl
  | some _=>exact (show False from r).elim
 | some _=>cases u with
  | none=>exact (show False from r).elim
  | some _=>rfl
theorem dS.getD {o:Option V} {u:Option Value} {d:V} {d':Value} (r:dS o u) (rd:RelV d d'):RelV (o.getD d) (u.getD d'):=by
 cases o with
 | none=>cases u with
  | none=>exact rd
  | some _=>exact (show False from r).elim
 | some _=>cases u with
  | none=>exact (show False from r).elim
  | some _=>exact r
theorem KV.val {kvs:List (κ × V)} {vs:List (κ × Value)} (r:KV kvs vs) (k:κ):dS (bM kvs k) (valueAt vs k):=by
 unfold KV at r
 induction r with
 | nil=>exact True.intro
 | @cons p q ps qs h t ih =>
  obtain⟨h1,h2⟩:=h
  by_cases e:p.1=k
  ·have e':q.1=k:=h1.symm.trans e
   have b:valueAt (q::qs) k=some q.2:=by simp [valueAt,List.find?_cons,e']
   rw [bP e,b];exact h2
  ·have e':¬q.1=k:=λz=>e (h1.trans z)
   have b:valueAt (q::qs) k=valueAt qs k:=by simp [valueAt,List.find?_cons,e']
   rw [bK e,b];exact ih
theorem KV.any {kvs:List (κ × V)} {vs:List (κ × Value)} (r:KV kvs vs) (k:κ):(kvs.any λkv=>decide (kv.1=k))=vs.any λkv=>decide (kv.1=k):=by
 unfold KV at r
 induction r with
 | nil=>rfl
 | cons h t ih=>rw [List.any_cons,List.any_cons,ih,h.1]
theorem KV.BM {kvs:List (κ × V)} {vs:List (κ × Value)} (r:KV kvs vs) (k:κ) {y:V} {u:Value} (ry:RelV y u) :
  KV (kvs.map λkv=>if kv.1=k then (kv.1,y) else kv) (vs.map λkv=>if kv.1=k then (kv.1,u) else kv):=by
 unfold KV at r ⊢
 induction r with
 | nil=>exact .nil
 | @cons p q ps qs h t ih =>
  rw [List.map_cons,List.map_cons]
  refine .cons ?_ ih
  obtain⟨h1,h2⟩:=h
  by_cases e:p.1=k
  ·rw [if_pos e,if_pos (h1.symm.trans e)];exact⟨h1,ry⟩
  ·rw [if_neg e,if_neg (λz=>e (h1.trans z))];exact⟨h1,h2⟩
theorem KV.put {kvs:List (κ × V)} {vs:List (κ × Value)} (r:KV kvs vs) (k:κ) {y:V} {u:Value} (ry:RelV y u):KV (putK kvs k y) (stored vs k u):=by
 unfold putK stored
 rw [r.any k]
 by_cases e:(vs.any λkv=>decide (kv.1=k))=true
 ·rw [if_pos e,if_pos e];exact r.BM k ry
 ·rw [if_neg e,if_neg e];exact Paired.snoc r ⟨rfl,ry⟩
theorem KV.keys {kvs:List (κ × V)} {vs:List (κ × Value)} (r:KV kvs vs):kvs.map (·.1)=vs.map (·.1):=by
 unfold KV at r
 induction r with
 | nil=>rfl
 | cons h t ih=>rw [List.map_cons,List.map_cons,ih,h.1]
theorem KV.length {kvs:List (κ × V)} {vs:List (κ × Value)} (r:KV kvs vs):kvs.length=vs.length:=Paired.length r
theorem nU (kvs:List (κ × V)) (k:κ):(bH kvs k).length<=kvs.length:=List.length_filter_le _ _
end
theorem lD {P:Program} {w:World} {k:Key} {u:Value} (r:RelV (kV k) u):(bj P w).is k u=true:=by
 cases k with
 | inl i=>obtain⟨t,e⟩:=(show ∃ t,u=Value.int i t from r);subst e;exact oG P w i t
 | inr x=>obtain⟨t,e⟩:=(show ∃ t,u=Value.str x t from r);subst e;exact oH P w x t
theorem lC {P:Program} {w:World}:∀{ks:List Key} {us:List Value},Vals (ks.map kV) us->ItemsAre (bj P w) ks us
 | [],_,r=>by rw [List.map_nil] at r;cases r;exact .nil
 | k::ks,_,r=>by
  rw [List.map_cons] at r
  cases r with
  | cons h t=>exact .cons (lD h) (lC t)
abbrev KT (H:Hp):List (List Key × V)->List (List Key × Addr × Value)->Prop:=Paired λp q=>p.1=q.1/\H q.2.1=some (.tup (p.1.map kV))/\RelV p.2 q.2.2
theorem KT.val {H:Hp} {kvs:List (List Key × V)} {xs:List (List Key × Addr × Value)} (r:KT H kvs xs) (k:List Key):dS (bM kvs k) ((atKey xs k).map (·.2)):=by
 induction r with
 | nil=>exact True.intro
 | @cons p q ps qs h t ih =>
  obtain⟨h1,_,h2⟩:=h
  by_cases e:p.1=k
  ·have e':q.1=k:=h1.symm.trans e
   have b:atKey (q::qs) k=some q.2:=by simp [atKey,List.find?_cons,e']
   rw [bP e,b];exact h2
  ·have e':¬q.1=k:=λz=>e (h1.trans z)
   have b:atKey (q::qs) k=atKey qs k:=by simp [atKey,List.find?_cons,e']
   rw [bK e,b];exact ih
theorem KT.BM {H:Hp} {kvs:List (List Key × V)} {xs:List (List Key × Addr × Value)} (r:KT H kvs xs) (k:List Key) {y:V} {u:Value} (ry:RelV y u) :
  KT H (kvs.map λkv=>if kv.1=k then (kv.1,y) else kv) (xs.map (putAt k u)):=by
 induction r with
 | nil=>exact .nil
 | @cons p q ps qs h t ih =>
  rw [List.map_cons,List.map_cons]
  refine .cons ?_ ih
  obtain⟨h1,h2,h3⟩:=h
  unfold putAt
  by_cases e:p.1=k
  ·rw [if_pos e,if_pos (h1.symm.trans e)];exact⟨h1,h2,ry⟩
  ·rw [if_neg e,if_neg (λz=>e (h1.trans z))];exact⟨h1,h2,h3⟩
theorem KT.put {H:Hp} {kvs:List (List Key × V)} {xs:List (List Key × Addr × Value)} (r:KT H kvs xs) (k:List Key) {b:Addr} {y:V} {u:Value} (hb:H b=some (.tup (k.map kV))) (ry:RelV y u) :
  KT H (putK kvs k y) (storedH xs k b u):=by
 have e:(kvs.any λkv=>decide (kv.1=k))=(atKey xs k).isSome:=by
  rw [iz,(r.val k).dU,Option.isSome_map]
 unfold putK storedH
 rw [e]
 by_cases q:(atKey xs k).isSome=true
 ·rw [if_pos q,if_pos q];exact r.BM k ry
 ·rw [if_neg q,if_neg q];exact Paired.snoc r ⟨rfl,hb,ry⟩
theorem KT.keeps {H H':Hp} {kvs:List (List Key × V)} {xs:List (List Key × Addr × Value)} (r:KT H kvs xs) (ht:∀ b ys,H b=some (.tup ys)->H' b=some (.tup ys)):KT H' kvs xs :=
 Paired.Bu r λ_ _ z=>⟨z.1,ht _ _ z.2.1,z.2.2⟩
section
variable {P:Program} {w:World} {H:Hp} {h:Heap} {a:Addr}
theorem Ax {u:HO} (ok:eX P w H h) (e:Rd H a u):aZ P w H h a u:=e.ok ok
theorem jR {kvs:List (Key × V)} (ok:eX P w H h) (e:Rd H a (.dK kvs)):kvs.length<=sizeLine/\(a==sysModules)=false/\∃ vs,KV kvs vs/\h.DictOf (bj P w) a vs :=
 show aZ P w H h a (.dK kvs) from Ax ok e
theorem vt {kvs:List (Key × V)} (ok:eX P w H h) (e:H a=some (.dK kvs)):kvs.length<=sizeLine/\(a==sysModules)=false/\∃ vs,KV kvs vs/\h.DictOf (bj P w) a vs:=jR ok (.inl e)
theorem iO {ks:List Key} (ok:eX P w H h) (e:H a=some (.tup (ks.map kV))):(tupleKind (bj P w)).is h ks a:=by
 obtain⟨_,its,r,o,h1,h2,n,h3⟩:=(show aZ P w H h a (.tup (ks.map kV)) from ok a _ e)
 exact⟨o,its.toArray,n,h1,h2,h3,by simpa using lC r⟩
theorem lr {kvs:List (List Key × V)} (ok:eX P w H h) (e:Rd H a (.dT kvs)):kvs.length<=sizeLine/\(a==sysModules)=false /\
  ∃ xs,KT H kvs xs/\h.DictOfH (tupleKind (bj P w)) a xs:=by
 obtain⟨z,y,xs,r,o,es,ep,h1,h2,h3,h4,h5⟩:=(show aZ P w H h a (.dT kvs) from Ax ok e)
 refine⟨z,y,xs,r,o,es,ep,h1,h2,h3,h4,λx hx=>?_,h5⟩
 have all:∀{l:List (List Key × V)} {m:List (List Key × Addr × Value)},KT H l m->∀ x∈m,(tupleKind (bj P w)).is h x.1 x.2.1:=by
  intro l m q
  induction q with
  | nil=>intro x hx;exact nomatch hx
  | @cons p q ps qs hq t ih =>
   intro x hx
   rcases List.mem_cons.mp hx with e | hx
   ·subst e
    exact iO ok (by rw [<- hq.1];exact hq.2.1)
   ·exact ih x hx
 exact all r x hx
theorem Af {kvs:List (List Key × V)} (ok:eX P w H h) (e:H a=some (.dT kvs)):kvs.length<=sizeLine/\(a==sysModules)=false /\
  ∃ xs,KT H kvs xs/\h.DictOfH (tupleKind (bj P w)) a xs:=lr ok (.inl e)
end
def eS (H:Hp) (a:Addr) (y:V) (r:Option V):Prop :=
 (∃ kvs k,Rd H a (.dK kvs)/\y=kV k/\r=bM kvs k)∨∃ kvs k b,Rd H a (.dT kvs)/\y=.ref b/\H b=some (.tup (k.map kV))/\r=bM kvs k
def kK (H:Hp) (a:Addr) (y v:V) (H':Hp):Prop :=
 (∃ kvs k,H a=some (.dK kvs)/\y=kV k/\kvs.length<sizeLine/\H'=upd H a (.dK (putK kvs k v))) ∨
 ∃ kvs k b,H a=some (.dT kvs)/\y=.ref b/\H b=some (.tup (k.map kV))/\kvs.length<sizeLine/\H'=upd H a (.dT (putK kvs k v))
theorem eS.k {H:Hp} {a:Addr} {kvs:List (Key × V)} {k:Key} (e:H a=some (.dK kvs)):eS H a (kV k) (bM kvs k):=.inl ⟨kvs,k,.inl e,rfl,rfl⟩
theorem eS.t {H:Hp} {a b:Addr} {kvs:List (List Key × V)} {k:List Key} (e:H a=some (.dT kvs)) (eb:H b=some (.tup (k.map kV))):eS H a (.ref b) (bM kvs k):=.inr ⟨kvs,k,b,.inl e,rfl,eb,rfl⟩
theorem kK.k {H:Hp} {a:Addr} {kvs:List (Key × V)} {k:Key} {v:V} (e:H a=some (.dK kvs)) (hl:kvs.length<sizeLine):kK H a (kV k) v (upd H a (.dK (putK kvs k v))):=.inl ⟨kvs,k,e,rfl,hl,rfl⟩
theorem kK.t {H:Hp} {a b:Addr} {kvs:List (List Key × V)} {k:List Key} {v:V} (e:H a=some (.dT kvs)) (eb:H b=some (.tup (k.map kV))) (hl:kvs.length<sizeLine) :
  kK H a (.ref b) v (upd H a (.dT (putK kvs k v))):=.inr ⟨kvs,k,b,e,rfl,eb,hl,rfl⟩
section
variable {X:Cx} {pins:List (Addr × Obj)} {σ:St} {H:Hp} {s:Shared} {a:Addr} {y v:V} {u r:Value} {o:Option V} {A:Around} {E:Value->Shared->Prop}
theorem Inv.big (I:Inv X pins σ H s):sysModules<s.heap.objs.size:=by
 have h:mainGlobals<s.heap.objs.size:=(I.mod.glob.keeps I.bk).lt
 exact Nat.lt_trans (by decide) h
theorem tH {Q:Value->Shared->Prop} (hu:A.units+1<cLine) (I:Inv X pins σ H s) (g:eS H a y (some v)) (ry:RelV y u) (h:∀ w' s',Inv X pins σ H s'->RelV v w'->Q w' s') :
  wpAny (model X.prog X.w) A (getItem (.ref a) u) Q E s:=by
 rcases g with⟨kvs,k,e,ey,l⟩|⟨kvs,k,b,e,ey,eb,l⟩
 ·subst ey
  obtain⟨z,hd,vs,rel,dd⟩:=jR I.hok e
  obtain⟨w',hw,rw'⟩:=dS.some_of (v:=v) (o:=valueAt vs k) (by rw [l];exact rel.val k)
  exact wpAny_getItem_of (lD ry) dd.mapOf hw (h w' _ (I.tok _) rw')
 ·subst ey
  cases (show u=Value.ref b from ry)
  obtain⟨z,hd,xs,rel,dd⟩:=lr I.hok e
  obtain⟨w',hw,rw'⟩:=dS.some_of (v:=v) (o:=(atKey xs k).map (·.2)) (by rw [l];exact rel.val k)
  obtain⟨p,hp,hp2⟩:=Option.map_eq_some_iff.mp hw
  refine wpAny_getItem_heap (tupleKind_room_in1 hu) (iO I.hok eb) dd hp ?_
  rw [hp2]
  exact h w' _ (I.tok _) rw'
theorem DR {Q:Value->Shared->Prop} (hu:A.units+1<cLine) (I:Inv X pins σ H s) (g:eS H a y o) (ry:RelV y u) (h:∀ s',Inv X pins σ H s'->Q (.bool o.isSome) s') :
  wpAny (model X.prog X.w) A (compareOp .In u (.ref a)) Q E s:=by
 rcases g with⟨kvs,k,e,ey,l⟩|⟨kvs,k,b,e,ey,eb,l⟩
 ·subst ey
  obtain⟨z,hd,vs,rel,dd⟩:=jR I.hok e
  refine wpAny_in_of (lD ry) hd dd.mapOf ?_
  rw [<- (rel.val k).dU,<- l]
  exact h _ (I.tok _)
 ·subst ey
  cases (show u=Value.ref b from ry)
  obtain⟨z,hd,xs,rel,dd⟩:=lr I.hok e
  refine wpAny_in_heap (tupleKind_room_in1 hu) (iO I.hok eb) hd dd ?_
  have q:=(rel.val k).dU
  rw [Option.isSome_map] at q
  rw [<- q,<- l]
  exact h _ (I.tok _)
theorem yw {Q:Value->Shared->Prop} (hu:A.units+1<cLine) (I:Inv X pins σ H s) (g:eS H a y o) (ry:RelV y u) (h:∀ s',Inv X pins σ H s'->Q (.bool (!o.isSome)) s') :
  wpAny (model X.prog X.w) A (compareOp .NotIn u (.ref a)) Q E s:=by
 rcases g with⟨kvs,k,e,ey,l⟩|⟨kvs,k,b,e,ey,eb,l⟩
 ·subst ey
  obtain⟨z,hd,vs,rel,dd⟩:=jR I.hok e
  refine wpAny_notIn_of (lD ry) hd dd.mapOf ?_
  rw [<- (rel.val k).dU,<- l]
  exact h _ (I.tok _)
 ·subst ey
  cases (show u=Value.ref b from ry)
  obtain⟨z,hd,xs,rel,dd⟩:=lr I.hok e
  refine wpAny_notIn_heap (tupleKind_room_in1 hu) (iO I.hok eb) hd dd ?_
  have q:=(rel.val k).dU
  rw [Option.isSome_map] at q
  rw [<- q,<- l]
  exact h _ (I.tok _)
theorem jy {h':Heap} {t':Nat} {ob:HO} (I:Inv X pins σ H s) (mu:Cn (H a)) (hs:Heap.SameBut a s.heap h') (he:∃ q,h'.get? a=some q) (new:aZ X.prog X.w (upd H a ob) h' a ob) :
  Inv X pins σ (upd H a ob) { s with heap:=h',toks:=t' } :=
 I.write (x:=a) (e:=a) mu (.inl rfl) (λb q hb z=>(hs.2 b hb).trans z) he new
theorem vq {P:Program} {w:World} {H':Hp} {h':Heap} {kvs:List (Key × V)} {vs:List (Key × Value)} (z:kvs.length<=sizeLine) (hd:(a==sysModules)=false) (rel:KV kvs vs) (dd:h'.DictOf (bj P w) a vs) :
  aZ P w H' h' a (.dK kvs):=⟨z,hd,vs,rel,dd⟩
theorem tI {H':Hp} {Q:Unit->Shared->Prop} (hu:A.units+1<cLine) (I:Inv X pins σ H s) (g:kK H a y v H') (ry:RelV y u) (rv:RelV v r) (h:∀ s',Inv X pins σ H' s'->Q () s') :
  wpAny (model X.prog X.w) A (setItem (.ref a) u r) Q E s:=by
 rcases g with⟨kvs,k,e,ey,l,eH⟩|⟨kvs,k,b,e,ey,eb,l,eH⟩
 ·subst ey eH
  obtain⟨z,hd,vs,rel,dd⟩:=vt I.hok e
  have hz:vs.length<=sizeLine:=by rw [<- rel.length];exact z
  have hl:(putK kvs k v).length<=sizeLine:=by have:=fj kvs k v;omega
  refine wpAny_setItem_pairs (hsz:=hz) (lD ry) dd λh' dd' hs=>h _ ?_
  have he:∃ q,h'.get? a=some q:=let ⟨q,_,_,hq,_⟩:=dd';⟨q,hq⟩
  exact jy I (by rw [e];exact True.intro) hs he (vq hl hd (rel.put k rv) dd')
 ·subst ey eH
  cases (show u=Value.ref b from ry)
  obtain⟨z,hd,xs,rel,dd⟩:=Af I.hok e
  have hz:xs.length<=sizeLine:=by rw [<- Paired.length rel];exact z
  have hl:(putK kvs k v).length<=sizeLine:=by have:=fj kvs k v;omega
  refine wpAny_setItem_heap (hsz:=hz) (tupleKind_room_in1 hu) (iO I.hok eb) dd λh' dd' hs=>h _ ?_
  obtain⟨q,es,ep,hq,h2,h3,h4,_,h5⟩:=dd'
  refine jy I (by rw [e];exact True.intro) hs ⟨q,hq⟩ ⟨hl,hd,_,(rel.put k eb rv).keeps λc ys ec=>?_,q,es,ep,hq,h2,h3,h4,h5⟩
  rw [ao (jc ec e (λz=>nomatch z))]
  exact ec
end
section
variable {X:Cx} {pins:List (Addr × Obj)} {σ:St} {H:Hp} {s:Shared} {a:Addr} {kvs:List (Key × V)} {k:Key} {u:Value} {A:Around} {E:Value->Shared->Prop}
theorem Cu {Q:Value->Shared->Prop} (I:Inv X pins σ H s) (e:Rd H a (.dK kvs)) (h:∀ t s',Inv X pins σ H s'->Q (.int kvs.length t) s'):wpAny (model X.prog X.w) A (call (.builtin "len") [.ref a]) Q E s:=by
 obtain⟨z,hd,vs,rel,dd⟩:=jR I.hok e
 refine call_len_dict hd dd (by rw [<- rel.length];rw [sizeLine_eq] at z;omega) ?_
 rw [<- rel.length]
 exact h _ _ (I.tok _)
end
def Cp (i:Expr):Prop:=∀ ov iv,subscripted i false ov iv=operate [ov,iv] (getItem ov iv)
theorem zV {prog:Program} {w:World} {A:Around} {E:Value->Shared->Prop} {s:Shared} {env:Env} {value slice:Expr} {pos:Pos} {T id:String} {Q:Value->Shared->Prop}
  (hl:typeLookup (.type T) "__getitem__"=pure (some (.builtin id))) (hs:Cp slice)
  (h:wpAny (model prog w) A (eval value env) (λo s₁=>wpAny (model prog w) A (eval slice env) (λi s₂=>s₂.TypeIs o T/\wpAny (model prog w) A (getItem o i) Q E s₂) E s₁) E s) :
  wpAny (model prog w) A (eval (.Subscript value slice pos) env) Q E s:=by
 refine Subscript_ (wpAny_mono h (λo s₁ h₁=>wpAny_mono h₁ (λi s₂ h₂=>?_) λ_ _ x=>x) λ_ _ x=>x)
 obtain⟨hT,h₂⟩:=h₂
 unfold subscriptTail
 refine wpAny_bind ?_
 rw [getitemInPython_of_ne hT.not_modules]
 refine wpAny_bind (wpAny_specialOf hT hl ?_)
 have fin:wpAny (model prog w) A (subscripted slice false o i) (λr s₃=>wpAny (model prog w) A (letTemporaryGo value o r >>= λ_=>pure r) Q E s₃) E s₂:=by
  rw [hs o i]
  exact wpAny_operating (wpAny_mono h₂ (λr s₃ h₃=>wpAny_bind (wpAny_letTemporaryGo (wpAny_pure h₃))) λ_ _ x=>x)
 first
  | exact wpAny_pure (wpAny_bind fin)
  | exact wpAny_bind (wpAny_pure (wpAny_bind fin))
  | exact wpAny_bind fin
theorem nR {X:Cx} {pins:List (Addr × Obj)} {σ:St} {H:Hp} {s:Shared} {a:Addr} {y:V} {o:Option V} (I:Inv X pins σ H s) (g:eS H a y o):s.TypeIs (.ref a) "dict":=by
 rcases g with⟨kvs,k,e,_,_⟩|⟨kvs,k,b,e,_,_,_⟩
 ·obtain⟨_,_,vs,_,dd⟩:=jR I.hok e
  exact dd.typeIs
 ·obtain⟨_,_,xs,_,dd⟩:=lr I.hok e
  exact dd.typeIs
def AE (td ty:TE):TE:=λσ H Q=>td σ H λx H1=>ty σ H1 λy H2=>∃ a v,x=.ref a/\eS H2 a y (some v)/\Q v H2
def C8 (ty td:TE):TE:=λσ H Q=>ty σ H λy H1=>td σ H1 λx H2=>∃ a o,x=.ref a/\eS H2 a y o/\Q (.bl o.isSome) H2
def sP (ty td:TE):TE:=λσ H Q=>ty σ H λy H1=>td σ H1 λx H2=>∃ a o,x=.ref a/\eS H2 a y o/\Q (.bl (!o.isSome)) H2
def Az (td ty tv:TE):TS:=λD σ H=>tv σ H λv H1=>td σ H1 λx H2=>ty σ H2 λy H3=>∃ a H4,x=.ref a/\kK H3 a y v H4/\D.nx σ H4
section
variable {X:Cx} {o i e value:Expr} {pos pos' tpos:Pos} {td ty tv:TE}
theorem fR (hu:X.A.units+1<cLine) (ho:PE X o td) (hi:PE X i ty) (hs:Cp i):PE X (.Subscript o i pos) (AE td ty):=by
 intro pins s σ H Q I h
 refine zV PySem.F.slot_dict_getitem.lookup hs (aQ (ho pins s σ H _ I h) λu s1 ⟨x,H1,I1,rx,q1⟩=>aQ (hi pins s1 σ H1 _ I1 q1) λiv s2 ⟨y,H2,I2,ry,a,v,ex,g,q2⟩=>?_)
 subst ex
 obtain rfl:u=Value.ref a:=rx
 exact⟨nR I2 g,tH hu I2 g ry λw' s3 I3 rw'=>⟨v,H2,I3,rw',q2⟩⟩
theorem BD (hu:X.A.units+1<cLine) (hi:PE X i ty) (ho:PE X o td):PC X .In i o (C8 ty td):=by
 intro pins s σ H Q I h
 refine aQ (hi pins s σ H _ I h) λiv s1 ⟨y,H1,I1,ry,q1⟩=>aQ (ho pins s1 σ H1 _ I1 q1) λu s2 ⟨x,H2,I2,rx,a,ov,ex,g,q2⟩=>?_
 subst ex
 obtain rfl:u=Value.ref a:=rx
 exact DR hu I2 g ry λs3 I3=>⟨.bl ov.isSome,H2,I3,rfl,q2⟩
theorem uz (hu:X.A.units+1<cLine) (hi:PE X i ty) (ho:PE X o td):PC X .NotIn i o (sP ty td):=by
 intro pins s σ H Q I h
 refine aQ (hi pins s σ H _ I h) λiv s1 ⟨y,H1,I1,ry,q1⟩=>aQ (ho pins s1 σ H1 _ I1 q1) λu s2 ⟨x,H2,I2,rx,a,ov,ex,g,q2⟩=>?_
 subst ex
 obtain rfl:u=Value.ref a:=rx
 exact yw hu I2 g ry λs3 I3=>⟨.bl (!ov.isSome),H2,I3,rfl,q2⟩
theorem gZ (hu:X.A.units+1<cLine) (ho:PE X o td) (hi:PE X i ty) (hv:PE X value tv) (hs:swapsWith value (some (.Subscript o i pos')) pos.line X.env=pure false) :
  PS X (.Assign [.Subscript o i pos'] value pos) (Az td ty tv):=by
 intro pins s σ H D I h
 refine wpAny_Assign_Subscript (aQ (hv pins s σ H _ I h) λr s1 ⟨v,H1,I1,rv,q1⟩=>aQ (ho pins s1 σ H1 _ I1 q1) λu s2 ⟨x,H2,I2,rx,q2⟩=>aQ (hi pins s2 σ H2 _ I2 q2) λiv s3 ⟨y,H3,I3,ry,a,H4,ex,g,q3⟩=>?_) hs
 subst ex
 obtain rfl:u=Value.ref a:=rx
 exact tI hu I3 g ry rv λs4 I4=>⟨σ,H4,I4,q3⟩
end
theorem nS {P:Program} {w:World} {H:Hp} (h:Heap) (hb:sysModules<h.objs.size):aZ P w H (h.push { cls:=.type "dict",data:=.dict #[] }) h.objs.size (.dK []) :=
 ⟨Nat.zero_le _,beq_eq_false_iff_ne.mpr (Ne.symm (Nat.ne_of_lt hb)),[],.nil,Heap.DictOf.new h⟩
theorem vw {P:Program} {w:World} {H:Hp} (h:Heap) (hb:sysModules<h.objs.size):aZ P w H (h.push { cls:=.type "dict",data:=.dict #[] }) h.objs.size (.dT []) :=
 ⟨Nat.zero_le _,beq_eq_false_iff_ne.mpr (Ne.symm (Nat.ne_of_lt hb)),[],.nil,_,#[],0,Heap.get?_push_size _ rfl,⟨rfl,rfl,rfl⟩,rfl,rfl,List.nodup_nil⟩
def xM:TE:=λ_ H Q=>∀ p,H p=none->Q (.ref p) (upd H p (.dK []))
def xN:TE:=λ_ H Q=>∀ p,H p=none->Q (.ref p) (upd H p (.dT []))
section
variable {X:Cx} {pos:Pos}
theorem oV:PE X (.Dict [] [] pos) xM:=λpins s σ H Q I h =>
 wpAny_Dict_empty ⟨.ref s.heap.objs.size,_,I.laid (a:=s.heap.objs.size) (o:=.dK []) (t':=s.toks) (λ_ _ q=>Heap.get?_push_of_some _ q) (Nat.le_refl _) (nS s.heap I.big),rfl,h _ (I.hok.fresh (Nat.le_refl _))⟩
theorem wK:PE X (.Dict [] [] pos) xN:=λpins s σ H Q I h =>
 wpAny_Dict_empty ⟨.ref s.heap.objs.size,_,I.laid (a:=s.heap.objs.size) (o:=.dT []) (t':=s.toks) (λ_ _ q=>Heap.get?_push_of_some _ q) (Nat.le_refl _) (vw s.heap I.big),rfl,h _ (I.hok.fresh (Nat.le_refl _))⟩
end
def nr:List (TE × TE)->St->Hp->(List (V × V)->Hp->Prop)->Prop
 | [],_,H,Q=>Q [] H
 | (tk,tv)::r,σ,H,Q=>tk σ H λx H1=>tv σ H1 λy H2=>nr r σ H2 λps H3=>Q ((x,y)::ps) H3
abbrev VV:List (V × V)->List (Value × Value)->Prop:=Paired λp q=>RelV p.1 q.1/\RelV p.2 q.2
def Dz (X:Cx) (pos:Pos) (keys:List (Option Expr)) (values:List Expr) (trs:List (TE × TE)):Prop :=
 ∀(pins:List (Addr × Obj)) (s:Shared) (σ:St) (H:Hp) (Q:List (V × V)->Hp->Prop),Inv X pins σ H s->nr trs σ H Q ->
  wpAny (model X.prog X.w) X.A (evalPairs (pairTrees keys values X.env pos)) (λvs s'=>∃ ps H',Inv X pins σ H' s'/\VV ps vs/\Q ps H') X.xe s
theorem si {X:Cx} {pos:Pos}:Dz X pos [] [] []:=λpins s σ H Q I h=>pairTrees_nil_walk ⟨[],H,I,.nil,h⟩
theorem gY {X:Cx} {pos:Pos} {k v:Expr} {ks:List (Option Expr)} {vs:List Expr} {tk tv:TE} {trs:List (TE × TE)} (hk:PE X k tk) (hv:PE X v tv) (hr:Dz X pos ks vs trs) :
  Dz X pos (some k::ks) (v::vs) ((tk,tv)::trs):=λpins s σ H Q I h =>
 pairTrees_cons_walk (aQ (hk pins s σ H _ I h) λu s1 ⟨x,H1,I1,rx,q1⟩=>aQ (hv pins s1 σ H1 _ I1 q1) λw2 s2 ⟨y,H2,I2,ry,q2⟩ =>
  aQ (hr pins s2 σ H2 _ I2 q2) λws s3 ⟨ps,H3,I3,rel,q3⟩=>⟨(x,y)::ps,H3,I3,.cons ⟨rx,ry⟩ rel,q3⟩)
def j4 (kvs more:List (Key × V)):List (Key × V):=more.foldl (λacc kv=>putK acc kv.1 kv.2) kvs
theorem KV.merge:∀{more:List (Key × V)} {rs:List (Key × Value)} {kvs:List (Key × V)} {vs:List (Key × Value)},KV more rs->KV kvs vs->KV (j4 kvs more) (merged vs rs):=by
 intro more rs kvs vs r
 unfold KV at r
 induction r generalizing kvs vs with
 | nil=>intro q;exact q
 | @cons p q ps qs h t ih =>
  intro r0
  have e:KV (putK kvs p.1 p.2) (stored vs q.1 q.2):=by
   have:=r0.put p.1 h.2
   rw [<- h.1];exact this
  exact ih e
theorem f7:∀(more kvs:List (Key × V)),(j4 kvs more).length<=kvs.length+more.length
 | [],kvs=>by show kvs.length<=kvs.length+0;omega
 | p::r,kvs=>by
  have h1:=f7 r (putK kvs p.1 p.2)
  have h2:=fj kvs p.1 p.2
  show (j4 (putK kvs p.1 p.2) r).length<=_
  rw [List.length_cons];omega
theorem jQ {P:Program} {w:World}:∀{kvs:List (Key × V)} {ws:List (Value × Value)},VV (kvs.map λkv=>(kV kv.1,kv.2)) ws->∃ rs,Carries (bj P w) ws rs/\KV kvs rs
 | [],_,r=>by rw [List.map_nil] at r;cases r;exact⟨[],True.intro,.nil⟩
 | p::kvs,_,r=>by
  rw [List.map_cons] at r
  cases r with
  | @cons a b as bs h t =>
   obtain⟨rs,c,q⟩:=jQ (P:=P) (w:=w) t
   obtain⟨b1,b2⟩:=b
   exact⟨(p.1,b2)::rs,⟨lD h.1,rfl,c⟩,.cons ⟨rfl,h.2⟩ q⟩
def AF (trs:List (TE × TE)):TE:=λσ H Q=>∀ p,H p=none->nr trs σ (upd H p (.dK [])) λps H2=>H2 p=some (.dK [])/\∃ kvs:List (Key × V),ps=kvs.map (λkv=>(kV kv.1,kv.2))/\kvs.length<=15/\Q (.ref p) (upd H2 p (.dK (j4 [] kvs)))
theorem sg {X:Cx} {pos:Pos} {keys:List (Option Expr)} {values:List Expr} {trs:List (TE × TE)} (h:Dz X pos keys values trs) (hall:keys.all (·.isSome)=true) (hl:keys.length=values.length) (h0:keys≠[])
  (h15:keys.length<=15):PE X (.Dict keys values pos) (AF trs):=by
 intro pins s σ H Q I q
 have hn:=I.hok.fresh (Nat.le_refl s.heap.objs.size)
 have I1:=I.laid (a:=s.heap.objs.size) (o:=.dK []) (h':=s.heap.push { cls:=.type "dict",data:=.dict #[] }) (t':=s.toks) (λ_ _ q=>Heap.get?_push_of_some _ q) (Nat.le_refl _) (nS s.heap I.big)
 refine wpAny_Dict_walk (knd:=bj X.prog X.w) hall hl h0 h15 (aQ (h pins _ σ _ _ I1 (q _ hn)) λws s2 ⟨ps,H2,I2,rel,e,kvs,ep,lk,q2⟩=>?_)
 subst ep
 obtain⟨rs,c,rk⟩:=jQ (P:=X.prog) (w:=X.w) rel
 obtain⟨z,hd,vs0,r0,dd⟩:=vt I2.hok e
 cases r0
 refine⟨rs,c,dd,λh' dd' hs=>⟨.ref s.heap.objs.size,_,?_,rfl,q2⟩⟩
 have hz:(j4 [] kvs).length<=sizeLine:=by
  have h1:=f7 kvs []
  rw [List.length_nil] at h1
  rw [sizeLine_eq];omega
 have he:∃ q,h'.get? s.heap.objs.size=some q:=let ⟨q,_,_,hq,_⟩:=dd';⟨q,hq⟩
 exact jy I2 (by rw [e];exact True.intro) hs he (vq hz hd (rk.merge .nil) dd')
structure M1 (X:Cx) (o:Expr) (m:Str) (apos:Pos) (e:Expr) (cpos:Pos):Prop where
 base:attributeBase o m X.env (eval o X.env)=eval o X.env
 yb:((backTo cpos (starEach [e] X.env)).all (λx=>!x.1) && (backToKw cpos (keywordEach [] X.env)).all (λx=>x.1.isSome)
  && decide (([e]:List Expr).length+([]:List Keyword).length+(if ([]:List Keyword).isEmpty then 0 else 1)<30))=true
 line:(apos.endLine==cpos.line)=true
 trees:backTo cpos (starEach [e] X.env)=[(false,eval e X.env)]
structure M2 (X:Cx) (o:Expr) (m:Str) (apos:Pos) (e f:Expr) (cpos:Pos):Prop where
 base:attributeBase o m X.env (eval o X.env)=eval o X.env
 yb:((backTo cpos (starEach [e,f] X.env)).all (λx=>!x.1) && (backToKw cpos (keywordEach [] X.env)).all (λx=>x.1.isSome)
  && decide (([e,f]:List Expr).length+([]:List Keyword).length+(if ([]:List Keyword).isEmpty then 0 else 1)<30))=true
 line:(apos.endLine==cpos.line)=true
 trees:backTo cpos (starEach [e,f] X.env)=[(false,eval e X.env),(false,eval f X.env)]
def Eg (H:Hp) (a:Addr):Prop:=(∃ kvs,Rd H a (.dK kvs))∨∃ kvs,Rd H a (.dT kvs)
theorem Bl {X:Cx} {pins:List (Addr × Obj)} {σ:St} {H:Hp} {s:Shared} {a:Addr} (I:Inv X pins σ H s) (d:Eg H a) :
  s.TypeIs (.ref a) "dict"/\(∀ b,Value.ref a=.ref b->∃ ob,s.heap.get? b=some ob/\ob.dict=none)/\(a==sysModules)=false:=by
 rcases d with⟨kvs,e⟩|⟨kvs,e⟩
 ·obtain⟨_,hd,vs,_,dd⟩:=jR I.hok e
  refine⟨dd.typeIs,λb q=>?_,hd⟩
  cases q
  obtain⟨ob,_,_,h1,h2,_⟩:=dd
  exact⟨ob,h1,h2.2.1⟩
 ·obtain⟨_,hd,xs,_,dd⟩:=lr I.hok e
  refine⟨dd.typeIs,λb q=>?_,hd⟩
  cases q
  obtain⟨ob,_,_,h1,h2,_⟩:=dd
  exact⟨ob,h1,h2.2.1⟩
section
variable {X:Cx} {pins:List (Addr × Obj)} {σ:St} {H:Hp} {s:Shared} {a:Addr} {y d:V} {u r:Value} {o:Option V} {A:Around} {E:Value->Shared->Prop}
end
section
variable {X:Cx} {o e f:Expr} {apos cpos:Pos} {td ty tx:TE}
end
section
variable {X:Cx} {pins:List (Addr × Obj)} {σ:St} {H:Hp} {s:Shared} {a:Addr} {kvs:List (Key × V)} {A:Around} {E:Value->Shared->Prop}
end
section
variable {X:Cx} {pins:List (Addr × Obj)} {σ:St} {H:Hp} {s:Shared} {a:Addr} {y:V} {u:Value} {A:Around} {E:Value->Shared->Prop}
end
def qf (l:Int) (b:Bool):HO:=.dK [(Sum.inr "left",.int l),(Sum.inr "free",.bl b)]
def yc (l:Int) (b:Bool):Prop:=b=true∨(0<=l/\l<2147483647)
def Up (p:Addr) (b:Bool) (H H':Hp):Prop:=∃ l,yc l b/\H'=upd H p (qf l b)
theorem iY {H:Hp} {p:Addr} {o o':HO}:upd (upd H p o) p o'=upd H p o':=by
 funext c
 by_cases e:c=p
 ·subst e;rw [af,af]
 ·rw [ao e,ao e,ao e]
theorem Up.trans {p:Addr} {b:Bool} {H H1 H2:Hp} (h:Up p b H H1) (h':Up p b H1 H2):Up p b H H2:=by
 obtain⟨l,_,rfl⟩:=h
 obtain⟨l',k',rfl⟩:=h'
 exact⟨l',k',iY⟩
theorem Up.at {p:Addr} {b:Bool} {H H1:Hp} (h:Up p b H H1):∃ l,yc l b/\H1 p=some (qf l b):=by
 obtain⟨l,k,rfl⟩:=h
 exact⟨l,k,af⟩
theorem Up.ne {p q:Addr} {b:Bool} {H H1:Hp} (h:Up p b H H1) (n:q≠p):H1 q=H q:=by
 obtain⟨l,k,rfl⟩:=h
 exact ao n
theorem gT {H:Hp} {p:Addr} {l:Int} {b:Bool} (h:H p=some (qf l b)):eS H p (.str "left") (some (.int l)):=eS.k (k:=Sum.inr "left") h
theorem vH {H:Hp} {p:Addr} {l:Int} {b:Bool} (h:H p=some (qf l b)):eS H p (.str "free") (some (.bl b)):=eS.k (k:=Sum.inr "free") h
theorem pe {H:Hp} {p:Addr} {l l':Int} {b:Bool} (h:H p=some (qf l b)):kK H p (.str "left") (.int l') (upd H p (qf l' b)):=.inl ⟨_,Sum.inr "left",h,rfl,by show 2<sizeLine;decide,rfl⟩
def Us (p:Addr) (b:Bool) (H H':Hp):Prop:=(∃ l,yc l b/\H' p=some (qf l b))/\∀ q o,q≠p->H q=some o->H' q=some o
theorem Up.us {p:Addr} {b:Bool} {H H':Hp} (h:Up p b H H'):Us p b H H':=⟨h.at,λq o n e=>by rw [h.ne n];exact e⟩
theorem Us.trans {p:Addr} {b:Bool} {H H1 H2:Hp} (h:Us p b H H1) (h':Us p b H1 H2):Us p b H H2:=⟨h'.1,λq o n e=>h'.2 q o n (h.2 q o n e)⟩
theorem Us.lay {p q:Addr} {b:Bool} {H H1:Hp} {o:HO} (h:Us p b H H1) (f:H1 q=none):Us p b H (upd H1 q o):=by
 obtain⟨⟨l,k,e⟩,s⟩:=h
 exact⟨⟨l,k,by rw [ao (λz=>by rw [<- z,e] at f;cases f)];exact e⟩,λr u n er=>by
  have:=s r u n er
  rw [ao (λz=>by rw [z,f] at this;cases this)];exact this⟩
theorem Us.refl {p:Addr} {b:Bool} {H:Hp} {l:Int} (h:H p=some (qf l b)) (k:yc l b):Us p b H H:=⟨⟨l,k,h⟩,λ_ _ _ e=>e⟩
theorem Us.free {p q:Addr} {b:Bool} {H H1:Hp} (h:Us p b H H1) (f:H1 q=none):H q=none:=by
 cases e:H q with
 | none=>rfl
 | some o =>
  by_cases n:q=p
  ·subst n
   obtain⟨l,_,z⟩:=h.1
   rw [z] at f;cases f
  ·rw [h.2 q o n e] at f;cases f
theorem Us.set {p q:Addr} {b:Bool} {H H1:Hp} {o:HO} (h:Us p b H H1) (f:H q=none) (n:q≠p):Us p b H (upd H1 q o):=by
 obtain⟨⟨l,k,e⟩,s⟩:=h
 exact⟨⟨l,k,by rw [ao (Ne.symm n)];exact e⟩,λr u n er=>by rw [ao (λz=>by rw [z,f] at er;cases er)];exact s r u n er⟩
theorem Us.same {p:Addr} {b:Bool} {H H0 H1:Hp} (h:Us p b H H1) (s:ax H0 H) (f:H0 p=none):ax H0 H1:=λc o e=>h.2 c o (λz=>by rw [z,f] at e;cases e) (s c o e)
section
variable {K:PySem.W.Frag} {H H':Hp}
theorem bE.dk {a:Addr} {xs:List V} (k:∀ a xs,Rd H a (.tup xs)->Rd H' a (.tup xs)) (h:bE K H a xs):bE K H' a xs:=h.imp (λz=>k _ _ z) id
mutual
theorem dv.dk (k:∀ a xs,Rd H a (.tup xs)->Rd H' a (.tup xs)):∀(d:PyData) {v:V},v5 d=true->dv K H d v->dv K H' d v
 | .none,_,_,h=>h
 | .bool _,_,_,h=>h
 | .int _,_,_,h=>h
 | .str _,_,_,h=>h
 | .list ds,_,z,_=>by cases z
 | .tuple ds,_,z,⟨q,xs,e,h,t⟩=>⟨q,xs,e,h.dk k,aF.dk k ds z t⟩
 | .dict _,_,_,h=>h.elim
theorem aF.dk (k:∀ a xs,Rd H a (.tup xs)->Rd H' a (.tup xs)):∀(ds:List PyData) {xs:List V},eV ds=true->aF K H ds xs->aF K H' ds xs
 | [],_,_,h=>h
 | d::ds,_,z,⟨x,r,e,h,t⟩=>by
  have z':v5 d=true/\eV ds=true:=by simpa [eV] using z
  exact⟨x,r,e,dv.dk k d z'.1 h,aF.dk k ds z'.2 t⟩
end
theorem Us.dk {p:Addr} {b:Bool} {l:Int} (h:Us p b H H') (hp:H p=some (qf l b)):∀ a xs,Rd H a (.tup xs)->Rd H' a (.tup xs):=by
 intro a xs z
 rcases z with z | ⟨o,z⟩
 ·exact .inl (h.2 _ _ (λe=>by rw [e,hp] at z;cases z) z)
 ·exact .inr ⟨o,h.2 _ _ (λe=>by rw [e,hp] at z;cases z) z⟩
theorem tX {p:Addr} {us vs:List V} (hp:H p=some (.lst us)):∀ a xs,Rd H a (.tup xs)->Rd (upd H p (.lst vs)) a (.tup xs):=by
 intro a xs z
 rcases z with z | ⟨o,z⟩
 ·exact .inl (by rw [ao (λe=>by rw [e,hp] at z;cases z)];exact z)
 ·exact .inr ⟨o,by rw [ao (λe=>by rw [e,hp] at z;cases z)];exact z⟩
end
theorem Us.ref {p:Addr} {b:Bool} {H H1:Hp} (h:Us p b H H1):∃ l,yc l b/\H1 p=some (qf l b):=h.1
theorem xc {X:Cx} {ss:List Stmt}:iD X ss (λ_ _ _=>False):=by
 intro _ _ _ _ _ _ h
 exact False.elim h
theorem oY {X:Cx} {Ex:Addr->Shared->Hp->List Addr->Value->Shared->Prop} {elt target iter:Expr} {ifs:List Expr} {scope:Scope} {pos:Pos} {N':List Str} {js:List (Option Nat)} {cl:List (Str × Addr)} {wi:TI} {g:TG} {tt:TT} {te:TE} {i0:Nat} {x0:Str} {pos' pos2:Pos} (hN0:X.N.Nodup) (hi0:X.N[i0]?=some x0) (hx0:Loc X.env.scope x0) (hcalm:X.calm=true)
  (K:d7 X N' js scope cl) (hi:PI X target iter wi)
  (hg:∀ C s₂ H₂ fp,gH X C s₂ H₂ fp->PG (bh X (Ex C s₂ H₂ fp) N' scope cl C s₂ H₂ fp) target g) (ht:∀ C s₂ H₂ fp,gH X C s₂ H₂ fp->jO (bh X (Ex C s₂ H₂ fp) N' scope cl C s₂ H₂ fp) ifs tt) (he:∀ C s₂ H₂ fp,gH X C s₂ H₂ fp->PE (bh X (Ex C s₂ H₂ fp) N' scope cl C s₂ H₂ fp) elt te)
  (herr:∀ C s₂ H₂ fp use Q' acc e s',Ex C s₂ H₂ fp e s'->notedBy (model X.prog X.w) X.A (compEnvC scope (cellsFrom (C+1) scope.names cl) C X.env) (λe s''=>compPost (model X.prog X.w) X.A X.xe use Q' acc C (.error e) s'') e s')
  (hsw:swapsWith (.ListComp elt [⟨target,iter,ifs,0⟩] scope pos) (some (.Name x0 pos')) pos2.line X.env=pure true) (hf0:X.fn x0=true∨X.env.scope.names.lookup x0=some .local)
  (hs:∀ x,foldedSetIterable iter X.env x=pure x:=by intro _;rfl):PS X (.Assign [.Name x0 pos'] (.ListComp elt [⟨target,iter,ifs,0⟩] scope pos) pos2) (rB (Dd js wi g tt te) (b8 i0)):=by
 intro pins s σ H Dn I h
 rw [exec_Assign_Name_used _ _ _ _ hsw]
 refine wpAny_bind (wpAny_standAt (wpAny_bind ?_))
 unfold evalThenUse
 refine wpAny_bind ?_
 refine wpAny_comprehension_free (use:=some (assign (.Name x0 pos') X.env)) rfl hs K.clos K.kind K.names (aQ (hi pins s σ H _ I h) λv s1 h1=>aQ h1 λitv s2 h2=>?_)
 obtain⟨H2,I2⟩:∃ H2,Inv X pins σ H2 s2:=by obtain⟨_,_,_,_,H2,_,I2,_⟩:=h2;exact⟨H2,I2⟩
 refine rT (Ex:=Ex) (Q:=λx H1=>b8 i0 x σ H1 Dn.nx) hcalm K hg ht he herr h2 λC D vys H4 s5 hm hDe hDleC hDC nD nC hI qn=>?_
 obtain⟨m5,hn5⟩:=hm
 have le:=Nat.le_trans hDe hDleC
 have key:Inv X pins σ (upd H4 D (.lst vys)) s5:=hI s5.heap ⟨rfl,λ_ _=>rfl⟩
 have nC':upd H4 D (.lst vys) C=none:=by rw [ao (Ne.symm hDC)];exact nC
 have CL:C≠X.env.locals:=λz=>by
  have:=I2.lt
  rw [<- z] at this
  exact Nat.lt_irrefl _ (Nat.lt_of_lt_of_le this le)
 have Cfs:C∉X.fs:=λz=>I2.yT le z
 obtain⟨oC,es,ep,gC,dC,skC,fdC⟩:=hn5
 have J1:Inv X ((C,oC)::pins) σ (upd H4 D (.lst vys)) s5:=key.fS λp hp=>by
  rcases List.mem_cons.mp hp with z | z
  ·subst z
   exact⟨gC,nC',CL,Cfs,λv z=>by rw [dC] at z;cases z⟩
  ·exact key.pin p (List.mem_append_right _ z)
 show wpAny _ _ (assign (.Name x0 pos') X.env (.ref D)) _ _ _
 refine PyProof.Rows.assign_Name ?_
 refine cf J1 hN0 hi0 hx0 (show RelV (.ref D) (.ref D) from rfl) (λs6 I6=>?_) hf0
 have pC:=(I6.pin (C,oC) (List.mem_append_right _ (List.mem_cons_self ..))).1
 refine⟨m5,⟨oC,es,ep,pC,dC,skC,fdC⟩,λh' hsb'=>?_⟩
 have I7:Inv X pins (σ.set i0 (some (.ref D))) (upd H4 D (.lst vys)) s6:=I6.fS λp hp=>I6.pin p (List.mem_append_right _ (List.mem_cons_of_mem _ hp))
 have I8:=I7.turned (t':=s6.toks) (it:=C) (λb o hb e=>hsb'.extBut b o hb e) nC' CL (.inr (Nat.le_trans I2.sz le))
  (λx c e=>by
   obtain⟨v,q⟩:=I2.cell x c e
   exact Nat.ne_of_lt (Nat.lt_of_lt_of_le q.lt le))
  (λp hp=>Nat.ne_of_lt (Nat.lt_of_lt_of_le (Heap.lt_size (I2.pin p hp).1) le))
 exact wpAny_pure (wpAny_pure ⟨_,_,I8,qn⟩)
theorem hZ {X:Cx} {elt target iter:Expr} {ifs:List Expr} {scope:Scope} {pos:Pos} {N':List Str} {js:List (Option Nat)} {cl:List (Str × Addr)} {wi:TI} {g:TG} {tt:TT} {te:TE} {i0:Nat} {x0:Str} {pos' pos2:Pos} (hN0:X.N.Nodup) (hi0:X.N[i0]?=some x0) (hx0:Loc X.env.scope x0) (hcalm:X.calm=true)
  (K:d7 X N' js scope cl) (hi:PI X target iter wi)
  (hg:∀ C s₂ H₂ fp,PG (cG X N' scope cl C s₂ H₂ fp) target g) (ht:∀ C s₂ H₂ fp,jO (cG X N' scope cl C s₂ H₂ fp) ifs tt) (he:∀ C s₂ H₂ fp,PE (cG X N' scope cl C s₂ H₂ fp) elt te)
  (hsw:swapsWith (.ListComp elt [⟨target,iter,ifs,0⟩] scope pos) (some (.Name x0 pos')) pos2.line X.env=pure true) (hf0:X.fn x0=true∨X.env.scope.names.lookup x0=some .local)
  (hs:∀ x,foldedSetIterable iter X.env x=pure x:=by intro _;rfl):PS X (.Assign [.Name x0 pos'] (.ListComp elt [⟨target,iter,ifs,0⟩] scope pos) pos2) (rB (Dd js wi g tt te) (b8 i0)) :=
 oY (Ex:=λ_ _ _ _ _ _=>False) hN0 hi0 hx0 hcalm K hi (λC s H f _=>hg C s H f) (λC s H f _=>ht C s H f) (λC s H f _=>he C s H f) (λ_ _ _ _ _ _ _ _ _ z=>z.elim) hsw hf0 hs
theorem nt (it t:Addr) (i:Nat) (items:Array Value) (x:Value) (hx:items[i]?=some x):Meets (Builtin.«tuple_iterator.__next__» ⟨[.ref it],[]⟩)
  (λ_ R s=>s.heap.IsTupleIter it t i/\s.heap.IsTuple t items/\∀ h',h'.IsTupleIter it t (i+1)->Heap.SameBut it s.heap h'->R (.ok (.ret x)) { s with heap:=h' }) :=
 .of_wp λprog w A R s h=>by
  obtain⟨⟨o,e,c,d⟩,⟨o2,e2,c2,n2,d2⟩,q⟩:=h
  have hx':items[(i:Int).toNat]?=some x:=by simpa using hx
  wp_walk using wpAny_field (i:=0) (x:=Value.ref t) e d rfl,wpAny_field (i:=1) (x:=Value.int i 0) e d rfl,wpAny_seqItems e2 d2
  rw [hx']
  refine wpAny_bind (wpAny_setField e d (show 1<2 by decide) ?_)
  obtain⟨oc,od,odt,os⟩:=o
  cases c
  cases d
  wp_walk
  refine⟨x,rfl,q _ ⟨_,Heap.get?_update_self _ e rfl,rfl,?_⟩ (Heap.SameBut.update ..)⟩
  show Data.fields _=_
  simp [rawInt]
theorem pZ (it t:Addr) (i:Nat) (items:Array Value) (hx:items[i]?=none):Meets (Builtin.«tuple_iterator.__next__» ⟨[.ref it],[]⟩)
  (λA R s=>A.handled=none/\s.heap.IsTupleIter it t i/\s.heap.IsTuple t items/\∀ h' e,Heap.ExtBut it s.heap h'->(∃ o,h'.get? e=some o/\o.cls=.type "StopIteration")->R (.error (.ref e)) { s with heap:=h' }) :=
 .of_wp λprog w A R s h=>by
  obtain⟨hn,⟨o,e,c,d⟩,⟨o2,e2,c2,n2,d2⟩,q⟩:=h
  have hx':items[(i:Int).toNat]?=none:=by simpa using hx
  wp_walk using wpAny_field (i:=0) (x:=Value.ref t) e d rfl,wpAny_field (i:=1) (x:=Value.int i 0) e d rfl,wpAny_seqItems e2 d2
  rw [hx']
  wp_walk using wpAny_setField e d (show 0<2 by decide)
  refine wpAny_raiseNew_none hn (q _ _ (λb o hb e=>Heap.get?_push_of_some _ (Heap.get?_push_of_some _ ((Heap.get?_update_other _ _ (Ne.symm hb)).trans e))) ⟨_,Heap.get?_push_size _ rfl,rfl⟩)
section
variable {prog:Program} {w:World} {A:Around} {E:Value->Shared->Prop} {s:Shared} {it t:Addr} {i:Nat} {items:Array Value} {Q:Value->Shared->Prop}
theorem jv {x:Value} (h1:s.heap.IsTupleIter it t i) (h2:s.heap.IsTuple t items) (hx:items[i]?=some x) (q:∀ h',h'.IsTupleIter it t (i+1)->Heap.SameBut it s.heap h'->Q x { s with heap:=h' }) :
  wpAny (model prog w) A (Builtin.SmallTypes.nextOf (.ref it)) Q E s:=by
 have ty:s.TypeIs (.ref it) "tuple_iterator":=by obtain⟨o,e,c,_⟩:=h1;exact⟨o,e,c⟩
 unfold Builtin.SmallTypes.nextOf
 refine wpAny_bind (wpAny_callSpecial?_slot ty slot_tupleiter_next (call_meets slot_tupleiter_next ty entry_tupleiter_next (args_tupleiter_next _) (nt it t i items x hx) ⟨h1,h2,λh' a b=>?_⟩))
 exact wpAny_pure (q h' a b)
theorem j5 (hn:A.handled=none) (h1:s.heap.IsTupleIter it t i) (h2:s.heap.IsTuple t items) (hx:items[i]?=none) (q:∀ h' e,Heap.ExtBut it s.heap h'->(∃ o,h'.get? e=some o/\o.cls=.type "StopIteration")->E (.ref e) { s with heap:=h' }) :
  wpAny (model prog w) A (Builtin.SmallTypes.nextOf (.ref it)) Q E s:=by
 have ty:s.TypeIs (.ref it) "tuple_iterator":=by obtain⟨o,e,c,_⟩:=h1;exact⟨o,e,c⟩
 unfold Builtin.SmallTypes.nextOf
 exact wpAny_bind (wpAny_callSpecial?_slot ty slot_tupleiter_next (call_meets slot_tupleiter_next ty entry_tupleiter_next (args_tupleiter_next _) (pZ it t i items hx) ⟨hn,h1,h2,λh' e a b=>q h' e a b⟩))
end
inductive Sd
 | l
 | t
def Sd.It:Sd->Heap->Addr->Addr->Nat->Prop
 | .l=>Heap.IsListIter
 | .t=>Heap.IsTupleIter
def Sd.Sq:Sd->Heap->Addr->Array Value->Prop
 | .l=>Heap.IsList
 | .t=>Heap.IsTuple
def Sd.io (k:Sd) (a:Addr):Obj:=match k with
 | .l=>{ cls:=.type "list_iterator",data:=.fields #[.ref a,.int 0 0] }
 | .t=>{ cls:=.type "tuple_iterator",data:=.fields #[.ref a,.int 0 0] }
theorem Sd.It.at {k:Sd} {h h':Heap} {it a:Addr} {i:Nat} (x:k.It h it a i) (e:∀ o,h.get? it=some o->h'.get? it=some o):k.It h' it a i:=by
 cases k<;>(obtain⟨o,e1,r⟩:=x;exact⟨o,e o e1,r⟩)
theorem Sd.It.there {k:Sd} {h:Heap} {it a:Addr} {i:Nat} (x:k.It h it a i):∃ o,h.get? it=some o/\∀ v,o.data≠.cell v:=by
 cases k<;>(obtain⟨o,e1,_,d⟩:=x;exact⟨o,e1,λv z=>by rw [d] at z;cases z⟩)
theorem Sd.Sq.at {k:Sd} {h h':Heap} {a:Addr} {xs:Array Value} (x:k.Sq h a xs) (e:∀ o,h.get? a=some o->h'.get? a=some o):k.Sq h' a xs:=by
 cases k<;>(obtain⟨o,e1,r⟩:=x;exact⟨o,e o e1,r⟩)
theorem Sd.Sq.lt {k:Sd} {h:Heap} {a:Addr} {xs:Array Value} (x:k.Sq h a xs):a<h.objs.size:=by
 cases k<;>(obtain⟨o,e1,r⟩:=x;exact Heap.lt_size e1)
theorem Sd.start (k:Sd) {h:Heap} {it a:Addr} (e:h.get? it=some (k.io a)):k.It h it a 0:=by
 cases k<;>exact⟨_,e,rfl,rfl⟩
section
variable {prog:Program} {w:World} {A:Around} {E:Value->Shared->Prop} {s:Shared} {it a:Addr} {i:Nat} {xs:Array Value} {Q:Value->Shared->Prop} {k:Sd}
theorem Sd.item {x:Value} (h1:k.It s.heap it a i) (h2:k.Sq s.heap a xs) (hx:xs[i]?=some x) (q:∀ h',k.It h' it a (i+1)->Heap.SameBut it s.heap h'->Q x { s with heap:=h' }) :
  wpAny (model prog w) A (Builtin.SmallTypes.nextOf (.ref it)) Q E s:=by
 cases k
 ·exact wpAny_nextOf_list_item h1 h2 hx q
 ·exact jv h1 h2 hx q
theorem Sd.fin (hn:A.handled=none) (h1:k.It s.heap it a i) (h2:k.Sq s.heap a xs) (hx:xs[i]?=none) (q:∀ h' e,Heap.ExtBut it s.heap h'->(∃ o,h'.get? e=some o/\o.cls=.type "StopIteration")->E (.ref e) { s with heap:=h' }) :
  wpAny (model prog w) A (Builtin.SmallTypes.nextOf (.ref it)) Q E s:=by
 cases k
 ·exact wpAny_nextOf_list_end hn h1 h2 hx q
 ·exact j5 hn h1 h2 hx q
theorem Sd.iter (h2:k.Sq s.heap a xs) (q:Q (.ref s.heap.objs.size) { s with heap:=s.heap.push (k.io a) }):wpAny (model prog w) A (pyIter (.ref a)) Q E s:=by
 cases k
 ·exact wpAny_pyIter_list h2 q
 ·exact wpAny_pyIter_tuple h2 q
end
theorem z8 (k1 k2:Sd) (l1 l2:Addr) (xs ys:Array Value):Meets (Builtin.«zip.__new__» ⟨[.type "zip",.ref l1,.ref l2],[]⟩)
  (λ_ R s=>k1.Sq s.heap l1 xs/\k2.Sq s.heap l2 ys/\∀ h',IsZip h' (s.heap.objs.size+4) (s.heap.objs.size+2) (s.heap.objs.size+3) .none->IsPair h' (s.heap.objs.size+2) (.ref s.heap.objs.size) (.ref (s.heap.objs.size+1)) ->
   IsPair h' (s.heap.objs.size+3) .none .none->k1.It h' s.heap.objs.size l1 0->k2.It h' (s.heap.objs.size+1) l2 0->(∀ c o,s.heap.get? c=some o->h'.get? c=some o)->R (.ok (.ret (.ref (s.heap.objs.size+4)))) { s with heap:=h' }) :=
 .of_wp λprog w A R s h=>by
  obtain⟨h1,h2,q⟩:=h
  have f1:=sub_zip
  have h2':k2.Sq (s.heap.push (k1.io l1)) l2 ys:=h2.at λo e=>Heap.get?_push_of_some _ e
  wp_walk using Sd.iter h1,Sd.iter (s:={ s with heap:=s.heap.push (k1.io l1) }) h2'
  refine⟨_,rfl,?_⟩
  have e5:((((s.heap.push (k1.io l1)).push (k2.io l2)).push { cls:=.type "tuple",data:=.seq #[.ref s.heap.objs.size,.ref (s.heap.push (k1.io l1)).objs.size] }).push { cls:=.type "tuple",data:=.seq #[.none,.none] }).objs.size=s.heap.objs.size+4:=by simp only [Heap.size_push]
  have e4:(((s.heap.push (k1.io l1)).push (k2.io l2)).push { cls:=.type "tuple",data:=.seq #[.ref s.heap.objs.size,.ref (s.heap.push (k1.io l1)).objs.size] }).objs.size=s.heap.objs.size+3:=by simp only [Heap.size_push]
  have e3:((s.heap.push (k1.io l1)).push (k2.io l2)).objs.size=s.heap.objs.size+2:=by simp only [Heap.size_push]
  have e2:(s.heap.push (k1.io l1)).objs.size=s.heap.objs.size+1:=by simp only [Heap.size_push]
  show R (.ok (.ret (.ref ((((s.heap.push (k1.io l1)).push (k2.io l2)).push { cls:=.type "tuple",data:=.seq #[.ref s.heap.objs.size,.ref (s.heap.push (k1.io l1)).objs.size] }).push { cls:=.type "tuple",data:=.seq #[.none,.none] }).objs.size))) { s with heap:=((((s.heap.push (k1.io l1)).push (k2.io l2)).push { cls:=.type "tuple",data:=.seq #[.ref s.heap.objs.size,.ref (s.heap.push (k1.io l1)).objs.size] }).push { cls:=.type "tuple",data:=.seq #[.none,.none] }).push { cls:=.type "zip",data:=.fields #[.none,.bool false,.bool false,.ref ((s.heap.push (k1.io l1)).push (k2.io l2)).objs.size,.ref (((s.heap.push (k1.io l1)).push (k2.io l2)).push { cls:=.type "tuple",data:=.seq #[.ref s.heap.objs.size,.ref (s.heap.push (k1.io l1)).objs.size] }).objs.size] } }
  have g0:(s.heap.push (k1.io l1)).get? s.heap.objs.size=some (k1.io l1):=Heap.get?_push_size _ (by cases k1<;>rfl)
  have g1:((s.heap.push (k1.io l1)).push (k2.io l2)).get? (s.heap.objs.size+1)=some (k2.io l2):=by rw [<- e2];exact Heap.get?_push_size _ (by cases k2<;>rfl)
  rw [e5,e4,e3,e2]
  refine q _ ?_ ?_ ?_ (k1.start (Heap.get?_push_of_some _ (Heap.get?_push_of_some _ (Heap.get?_push_of_some _ (Heap.get?_push_of_some _ g0))))) (k2.start (Heap.get?_push_of_some _ (Heap.get?_push_of_some _ (Heap.get?_push_of_some _ g1)))) λc o e=>Heap.get?_push_of_some _ (Heap.get?_push_of_some _ (Heap.get?_push_of_some _ (Heap.get?_push_of_some _ (Heap.get?_push_of_some _ e))))
  ·exact (show _=_ from by
    have:=Heap.get?_push_size (((((s.heap.push (k1.io l1)).push (k2.io l2)).push { cls:=.type "tuple",data:=.seq #[.ref s.heap.objs.size,.ref (s.heap.objs.size+1)] }).push { cls:=.type "tuple",data:=.seq #[.none,.none] })) (o:={ cls:=.type "zip",data:=.fields #[.none,.bool false,.bool false,.ref (s.heap.objs.size+2),.ref (s.heap.objs.size+3)] }) rfl
    simp only [Heap.size_push] at this
    exact this)
  ·refine Heap.get?_push_of_some _ (Heap.get?_push_of_some _ ?_)
   have:=Heap.get?_push_size ((s.heap.push (k1.io l1)).push (k2.io l2)) (o:={ cls:=.type "tuple",data:=.seq #[.ref s.heap.objs.size,.ref (s.heap.objs.size+1)] }) rfl
   simp only [Heap.size_push] at this
   exact this
  ·refine Heap.get?_push_of_some _ ?_
   have:=Heap.get?_push_size (((s.heap.push (k1.io l1)).push (k2.io l2)).push { cls:=.type "tuple",data:=.seq #[.ref s.heap.objs.size,.ref (s.heap.objs.size+1)] }) (o:={ cls:=.type "tuple",data:=.seq #[.none,.none] }) rfl
   simp only [Heap.size_push] at this
   exact this
theorem x8 (k1 k2:Sd) (z TI TO i1 i2 l1 l2:Addr) (ap:ZipApart z TI TO i1 i2 l1 l2) (n1 n2:Nat) (xs ys:Array Value) (x y a b:Value) (hx:xs[n1]?=some x) (hy:ys[n2]?=some y):Meets (Builtin.«zip.__next__» ⟨[.ref z],[]⟩)
  (λ_ R s=>IsZip s.heap z TI TO .none/\IsPair s.heap TI (.ref i1) (.ref i2)/\IsPair s.heap TO a b/\k1.It s.heap i1 l1 n1/\k2.It s.heap i2 l2 n2/\k1.Sq s.heap l1 xs/\k2.Sq s.heap l2 ys /\
   ∀ h',IsZip h' z TI TO (rawInt s.heap.objs.size)->IsPair h' TO x y->k1.It h' i1 l1 (n1+1)->k2.It h' i2 l2 (n2+1)->IsPair h' s.heap.objs.size x y ->
    (∀ c o,c≠z->c≠TO->c≠i1->c≠i2->s.heap.get? c=some o->h'.get? c=some o)->R (.ok (.ret (.ref s.heap.objs.size))) { s with heap:=h' }) :=
 .of_wp λprog w A R s h=>by
  obtain⟨hz,hTI,hTO,j1,j2,q1,q2,q⟩:=h
  wp_walk using wpAny_field (i:=2) (x:=Value.bool false) hz rfl rfl,wpAny_field (i:=3) (x:=Value.ref TI) hz rfl rfl,wpAny_field (i:=0) (x:=Value.none) hz rfl rfl,wpAny_field (i:=4) (x:=Value.ref TO) hz rfl rfl,wpAny_seqItems hTI rfl,wpAny_setField_rec hz (show 0<5 by decide)
  intro ha za sa
  have ka:∀ c o,c≠z->s.heap.get? c=some o->ha.get? c=some o:=λc o hc e=>(sa.2 c hc).trans e
  have j1a:=j1.at (h':=ha) λo e=>ka i1 o ap.i1z e
  have q1a:=q1.at (h':=ha) λo e=>ka l1 o ap.l1z e
  wp_walk using wpAny_onRaise,Sd.item (s:={ s with heap:=ha }) j1a q1a hx
  intro hb jb sb
  have kb:∀ c o,c≠z->c≠i1->s.heap.get? c=some o->hb.get? c=some o:=λc o h1 h2 e=>(sb.2 c h2).trans (ka c o h1 e)
  have TOb:IsPair hb TO a b:=kb TO _ ap.TOz ap.TOi1 hTO
  wp_walk using wpAny_seqItems TOb rfl,wpAny_updateSeq_pair (s:={ s with heap:=hb }) TOb
  intro hc TOc' sc
  have TOc:IsPair hc TO x b:=TOc'
  have kc:∀ c o,c≠z->c≠i1->c≠TO->s.heap.get? c=some o->hc.get? c=some o:=λc o h1 h2 h3 e=>(sc.2 c h3).trans (kb c o h1 h2 e)
  have zc:hc.get? z=some { cls:=.type "zip",data:=.fields #[.ellipsis,.bool false,.bool false,.ref TI,.ref TO] }:=(sc.2 z (Ne.symm ap.TOz)).trans ((sb.2 z (Ne.symm ap.i1z)).trans za)
  have j1c:=jb.at (h':=hc) λo e=>(sc.2 i1 (Ne.symm ap.TOi1)).trans e
  have j2c:=j2.at (h':=hc) λo e=>kc i2 o ap.i2z (Ne.symm ap.i12) (Ne.symm ap.TOi2) e
  have q2c:=q2.at (h':=hc) λo e=>kc l2 o ap.l2z ap.l2i1 ap.l2TO e
  wp_walk using wpAny_letGo,wpAny_onRaise,Sd.item (s:={ s with heap:=hc }) j2c q2c hy
  intro hd jd sd
  have TOd:IsPair hd TO x b:=(sd.2 TO ap.TOi2).trans TOc
  have zd:=(sd.2 z (Ne.symm ap.i2z)).trans zc
  wp_walk using wpAny_seqItems TOd rfl,wpAny_updateSeq_pair (s:={ s with heap:=hd }) TOd
  intro he TOe' se
  have TOe:IsPair he TO x y:=TOe'
  have ze:=(se.2 z (Ne.symm ap.TOz)).trans zd
  wp_walk using wpAny_letGo,wpAny_seqItems TOe rfl
  have sz:he.objs.size=s.heap.objs.size:=se.1.trans (sd.1.trans (sc.1.trans (sb.1.trans sa.1)))
  have zn:z≠he.objs.size:=Nat.ne_of_lt (Heap.lt_size ze)
  have zf:(he.push { cls:=.type "tuple",data:=.seq #[x,y] }).get? z=some { cls:=.type "zip",data:=.fields #[.ellipsis,.bool false,.bool false,.ref TI,.ref TO] }:=Heap.get?_push_of_some _ ze
  have ke:∀ c o,c≠z->he.get? c=some o->(((he.push { cls:=.type "tuple",data:=.seq #[x,y] }).update z (Obj.mapFields λx=>x.setIfInBounds 0 (rawInt ↑he.objs.size))).update z (Obj.mapFields λx=>x.setIfInBounds 1 (Value.bool false))).get? c=some o:=λc o hc e=>(Heap.get?_update_other _ _ (Ne.symm hc)).trans ((Heap.get?_update_other _ _ (Ne.symm hc)).trans (Heap.get?_push_of_some _ e))
  have g1:=Heap.get?_update_self (Obj.mapFields λx=>x.setIfInBounds 0 (rawInt ↑he.objs.size)) zf rfl
  have g2:=Heap.get?_update_self (Obj.mapFields λx=>x.setIfInBounds 1 (Value.bool false)) g1 rfl
  have gn:(((he.push { cls:=.type "tuple",data:=.seq #[x,y] }).update z (Obj.mapFields λx=>x.setIfInBounds 0 (rawInt ↑he.objs.size))).update z (Obj.mapFields λx=>x.setIfInBounds 1 (Value.bool false))).get? he.objs.size=some { cls:=.type "tuple",data:=.seq #[x,y] }:=(Heap.get?_update_other _ _ zn).trans ((Heap.get?_update_other _ _ zn).trans (Heap.get?_push_size _ rfl))
  refine⟨_,rfl,?_⟩
  show R (.ok (.ret (.ref he.objs.size))) { s with heap:=(((he.push { cls:=.type "tuple",data:=.seq #[x,y] }).update z (Obj.mapFields λx=>x.setIfInBounds 0 (rawInt ↑he.objs.size))).update z (Obj.mapFields λx=>x.setIfInBounds 1 (Value.bool false))) }
  generalize (((he.push { cls:=.type "tuple",data:=.seq #[x,y] }).update z (Obj.mapFields λx=>x.setIfInBounds 0 (rawInt ↑he.objs.size))).update z (Obj.mapFields λx=>x.setIfInBounds 1 (Value.bool false)))=hf at *
  rw [sz]
  refine q hf (by rw [<- sz];exact g2) (ke TO _ ap.TOz TOe) (j1c.at λo e=>ke i1 o ap.i1z ((se.2 i1 (Ne.symm ap.TOi1)).trans ((sd.2 i1 ap.i12).trans e))) (jd.at λo e=>ke i2 o ap.i2z ((se.2 i2 (Ne.symm ap.TOi2)).trans e)) (by rw [<- sz];exact gn) λc o h1 h2 h3 h4 e=>ke c o h1 ((se.2 c h2).trans ((sd.2 c h4).trans (kc c o h1 h3 h2 e)))
theorem x6 (k1:Sd) (z TI TO i1 i2 l1:Addr) (i1z:i1≠z) (l1z:l1≠z) (n1:Nat) (xs:Array Value) (a b:Value) (hx:xs[n1]?=none):Meets (Builtin.«zip.__next__» ⟨[.ref z],[]⟩)
  (λA R s=>A.handled=none/\IsZip s.heap z TI TO .none/\IsPair s.heap TI (.ref i1) (.ref i2)/\IsPair s.heap TO a b/\k1.It s.heap i1 l1 n1/\k1.Sq s.heap l1 xs /\
   ∀ h' e,(∀ c o,c≠z->c≠i1->s.heap.get? c=some o->h'.get? c=some o)->(∃ o,h'.get? e=some o/\o.cls=.type "StopIteration")->R (.error (.ref e)) { s with heap:=h' }) :=
 .of_wp λprog w A R s h=>by
  obtain⟨hn,hz,hTI,hTO,j1,q1,q⟩:=h
  wp_walk using wpAny_field (i:=2) (x:=Value.bool false) hz rfl rfl,wpAny_field (i:=3) (x:=Value.ref TI) hz rfl rfl,wpAny_field (i:=0) (x:=Value.none) hz rfl rfl,wpAny_field (i:=4) (x:=Value.ref TO) hz rfl rfl,wpAny_seqItems hTI rfl,wpAny_setField_rec hz (show 0<5 by decide)
  intro ha za sa
  have ka:∀ c o,c≠z->s.heap.get? c=some o->ha.get? c=some o:=λc o hc e=>(sa.2 c hc).trans e
  have j1a:=j1.at (h':=ha) λo e=>ka i1 o i1z e
  have q1a:=q1.at (h':=ha) λo e=>ka l1 o l1z e
  wp_walk using wpAny_onRaise,Sd.fin (A:=A.in1) (s:={ s with heap:=ha }) hn j1a q1a hx
  intro hb e kb oe
  have zb:=kb z _ (Ne.symm i1z) za
  refine wpAny_setField_rec (s:={ s with heap:=hb }) zb (show 0<5 by decide) λhc zc sc=>?_
  obtain⟨o,eo,co⟩:=oe
  have ez:e≠z:=λx=>by
   subst x
   rw [zb] at eo
   cases eo
   injection co with x
   exact absurd x (by decide)
  exact q hc e (λc o h1 h2 x=>(sc.2 c h1).trans (kb c o h2 (ka c o h1 x))) ⟨o,(sc.2 e ez).trans eo,co⟩
section
variable {prog:Program} {w:World} {A:Around} {E:Value->Shared->Prop} {s:Shared}
theorem lP {it:Addr} {T id:String} {Q:Option Value->Shared->Prop} (ty:s.TypeIs (.ref it) T) (sl:Slot T "__next__" id)
  (h:wpAny (model prog w) A (call (.builtin id) [.ref it]) (λv s'=>Q (some v) s') (λe s'=>(∃ x o,e=.ref x/\s'.heap.get? x=some o/\o.cls=.type "StopIteration")/\Q none s') s):wpAny (model prog w) A (pyNext (.ref it)) Q E s:=by
 unfold pyNext
 refine wpAny_bind (wpAny_attempt (wpAny_callSpecial?_slot ty sl (wpAny_mono h (λv s' q=>wpAny_pure q) λe s' q=>?_)))
 obtain⟨⟨x,o,rfl,eo,co⟩,q⟩:=q
 refine wpAny_bind (wpAny_isInstance (T := "StopIteration") (b:=true) ⟨o,eo,co⟩ ?_ ?_)
 ·with_unfolding_all rfl
 ·rw [if_pos rfl]
  exact wpAny_pure q
theorem vc {k1 k2:Sd} {l1 l2:Addr} {xs ys:Array Value} {Q:Value->Shared->Prop} (h1:k1.Sq s.heap l1 xs) (h2:k2.Sq s.heap l2 ys)
  (q:∀ h',IsZip h' (s.heap.objs.size+4) (s.heap.objs.size+2) (s.heap.objs.size+3) .none->IsPair h' (s.heap.objs.size+2) (.ref s.heap.objs.size) (.ref (s.heap.objs.size+1)) ->
   IsPair h' (s.heap.objs.size+3) .none .none->k1.It h' s.heap.objs.size l1 0->k2.It h' (s.heap.objs.size+1) l2 0->(∀ c o,s.heap.get? c=some o->h'.get? c=some o)->Q (.ref (s.heap.objs.size+4)) { s with heap:=h' }) :
  wpAny (model prog w) A (call (.type "zip") [.ref l1,.ref l2]) Q E s :=
 callType_new F.called_zip (by decide) (F.typeCall_zip_2 _ _) (F.newCall_zip_2 _ _) (λobj=>F.args_object_init_3 _ _ _) F.entry_zip_new (z8 k1 k2 l1 l2 xs ys) ⟨h1,h2,λh' z a b c d e=>⟨⟨_,z,rfl⟩,q h' z a b c d e⟩⟩
theorem kO {k1 k2:Sd} {z TI TO i1 i2 l1 l2:Addr} {n1 n2:Nat} {xs ys:Array Value} {x y a b:Value} {Q:Option Value->Shared->Prop} (ap:ZipApart z TI TO i1 i2 l1 l2) (hz:IsZip s.heap z TI TO .none) (hTI:IsPair s.heap TI (.ref i1) (.ref i2)) (hTO:IsPair s.heap TO a b)
  (j1:k1.It s.heap i1 l1 n1) (j2:k2.It s.heap i2 l2 n2) (q1:k1.Sq s.heap l1 xs) (q2:k2.Sq s.heap l2 ys) (hx:xs[n1]?=some x) (hy:ys[n2]?=some y)
  (q:∀ h',IsZip h' z TI TO (rawInt s.heap.objs.size)->IsPair h' TO x y->k1.It h' i1 l1 (n1+1)->k2.It h' i2 l2 (n2+1)->IsPair h' s.heap.objs.size x y ->
    (∀ c o,c≠z->c≠TO->c≠i1->c≠i2->s.heap.get? c=some o->h'.get? c=some o)->Q (some (.ref s.heap.objs.size)) { s with heap:=h' }):wpAny (model prog w) A (pyNext (.ref z)) Q E s :=
 lP ⟨_,hz,rfl⟩ F.slot_zip_next (call_meets F.slot_zip_next ⟨_,hz,rfl⟩ F.entry_zip_next (F.args_zip_next_1 _) (x8 k1 k2 z TI TO i1 i2 l1 l2 ap n1 n2 xs ys x y a b hx hy) ⟨hz,hTI,hTO,j1,j2,q1,q2,λh' a b c d e f=>q h' a b c d e f⟩)
theorem mJ {k1:Sd} {z TI TO i1 i2 l1:Addr} {n1:Nat} {xs:Array Value} {a b:Value} {Q:Option Value->Shared->Prop} (hn:A.handled=none) (i1z:i1≠z) (l1z:l1≠z) (hz:IsZip s.heap z TI TO .none) (hTI:IsPair s.heap TI (.ref i1) (.ref i2)) (hTO:IsPair s.heap TO a b)
  (j1:k1.It s.heap i1 l1 n1) (q1:k1.Sq s.heap l1 xs) (hx:xs[n1]?=none)
  (q:∀ h',(∀ c o,c≠z->c≠i1->s.heap.get? c=some o->h'.get? c=some o)->Q none { s with heap:=h' }):wpAny (model prog w) A (pyNext (.ref z)) Q E s :=
 lP ⟨_,hz,rfl⟩ F.slot_zip_next (call_meets F.slot_zip_next ⟨_,hz,rfl⟩ F.entry_zip_next (F.args_zip_next_1 _) (x6 k1 z TI TO i1 i2 l1 i1z l1z n1 xs a b hx) ⟨hn,hz,hTI,hTO,j1,q1,λh' e k ⟨o,eo,co⟩=>⟨⟨e,o,rfl,eo,co⟩,q h' k⟩⟩)
end
def rG (k:Sd) (K:PySem.W.Frag) (H:Hp) (a:Addr) (xs:List V):Prop:=match k with
 | .l=>aM K H a xs
 | .t=>bE K H a xs
theorem Inv.C5 {X:Cx} {pins:List (Addr × Obj)} {σ:St} {H:Hp} {s:Shared} {k:Sd} {a:Addr} {xs:List V} (I:Inv X pins σ H s) (h:rG k X.K H a xs):∃ its:List Value,Vals xs its/\k.Sq s.heap a its.toArray:=by
 cases k
 ·obtain⟨its,r,p,_⟩:=I.list h
  exact⟨its,r,p.isList⟩
 ·obtain⟨its,r,p,_⟩:=I.tuple h
  exact⟨its,r,p⟩
theorem Inv.sN {X:Cx} {pins:List (Addr × Obj)} {σ:St} {H:Hp} {s:Shared} {k:Sd} {a:Addr} {xs ys:List V} (I:Inv X pins σ H s) (h:rG k X.K H a xs) (h':rG k X.K H a ys):xs=ys:=by
 cases k
 ·exact I.jZ h h'
 ·exact I.lZ h h'
def Dw (k1 k2:Sd) (K:PySem.W.Frag) (a b:Addr):It :=
 ⟨λi H=>∃ xs ys x y,rG k1 K H a xs/\rG k2 K H b ys/\xs[i]?=some x/\ys[i]?=some y,λi H x H'=>∃ p u v,H p=none/\x=.ref p/\(∀ xs,rG k1 K H a xs->xs[i]?=some u)/\(∀ ys,rG k2 K H b ys->ys[i]?=some v)/\H'=upd H p (.tup [u,v]),
  λi H=>∃ xs,rG k1 K H a xs/\xs.length<=i⟩
theorem xZ {P:Program} {w:World} {K:PySem.W.Frag} {elts:List Expr} {x1} {pos:Pos} {k1 k2:Sd} {a b z TI TO i1 i2:Addr} (ap:ZipApart z TI TO i1 i2 a b):Turn P w K (.Tuple elts x1 pos) (Dw k1 k2 K a b) [z,TI,TO,i1,i2] z (λi h=>IsZip h z TI TO .none/\IsPair h TI (.ref i1) (.ref i2)/\(∃ u v,IsPair h TO u v)/\k1.It h i1 a i/\k2.It h i2 b i) where
 mem:=by simp
 obj:=λi h st c hc=>by
  obtain⟨h1,h2,⟨u,v,h3⟩,h4,h5⟩:=st
  simp only [List.mem_cons,List.not_mem_nil,or_false] at hc
  rcases hc with rfl | rfl | rfl | rfl | rfl
  ·exact⟨_,h1,λv z=>by cases z⟩
  ·exact⟨_,h2,λv z=>by cases z⟩
  ·exact⟨_,h3,λv z=>by cases z⟩
  ·exact h4.there
  ·exact h5.there
 keep:=λi h h' st k=>by
  obtain⟨h1,h2,⟨u,v,h3⟩,h4,h5⟩:=st
  exact⟨k z (by simp) _ h1,k TI (by simp) _ h2,⟨u,v,k TO (by simp) _ h3⟩,h4.at λo x=>k i1 (by simp) o x,h5.at λo x=>k i2 (by simp) o x⟩
 item:=by
  intro X hP hw hK hc i pins s σ H E I hf st hg
  subst hP hw hK
  obtain⟨xs,ys,x,y,hq1,hq2,hx,hy⟩:=hg
  obtain⟨its1,rv1,p1⟩:=I.C5 hq1
  obtain⟨its2,rv2,p2⟩:=I.C5 hq2
  obtain⟨u,hu,ru⟩:=rv1.get hx
  obtain⟨v,hv,rv⟩:=rv2.get hy
  obtain⟨h1,h2,⟨u0,v0,h3⟩,h4,h5⟩:=st
  refine kO ap h1 h2 h3 h4 h5 p1 p2 (x:=u) (y:=v) (by simpa using hu) (by simpa using hv) λh' z' TO' j1 j2 hT hk=>?_
  refine⟨_,rfl,?_⟩
  have fT:H s.heap.objs.size=none:=I.hok.fresh (Nat.le_refl _)
  refine wpAny_letOwnedTupleGo_zip z' λh'' z2 s2=>?_
  have hke:∀ c o,c∉[z,TI,TO,i1,i2]->s.heap.get? c=some o->h''.get? c=some o:=λc o hc q=>by
   simp only [List.mem_cons,List.not_mem_nil,or_false,not_or] at hc
   exact (s2.2 c hc.1).trans (hk c o hc.1 hc.2.2.1 hc.2.2.2.1 hc.2.2.2.2 q)
  have I1:Inv X pins σ H { s with heap:=h'',toks:=s.toks }:=I.jL hke hf
  have nz:∀ c∈[z,TI,TO,i1,i2],c≠s.heap.objs.size:=λc hc e=>by
   have:∃ o,s.heap.get? c=some o:=by
    simp only [List.mem_cons,List.not_mem_nil,or_false] at hc
    rcases hc with rfl | rfl | rfl | rfl | rfl
    ·exact⟨_,h1⟩
    ·exact⟨_,h2⟩
    ·exact⟨_,h3⟩
    ·obtain⟨o,e,_⟩:=h4.there;exact⟨o,e⟩
    ·obtain⟨o,e,_⟩:=h5.there;exact⟨o,e⟩
   obtain⟨o,eo⟩:=this
   exact Nat.ne_of_lt (Heap.lt_size eo) e
  have hT2:h''.get? s.heap.objs.size=some { cls:=.type "tuple",data:=.seq #[u,v] }:=(s2.2 _ (Ne.symm (nz z (by simp)))).trans hT
  refine⟨.ref s.heap.objs.size,upd H s.heap.objs.size (.tup [x,y]),?_,rfl,⟨_,x,y,fT,rfl,λzs hz=>by rw [I.sN hz hq1];exact hx,λzs hz=>by rw [I.sN hz hq2];exact hy,rfl⟩,
   ⟨z2,(s2.2 TI ap.TIz).trans (hk TI _ ap.TIz ap.TITO ap.TIi1 ap.TIi2 h2),⟨_,_,(s2.2 TO ap.TOz).trans TO'⟩,j1.at λo q=>(s2.2 i1 ap.i1z).trans q,j2.at λo q=>(s2.2 i2 ap.i2z).trans q⟩,λc hc=>?_⟩
  ·exact I1.adopt (T:=s.heap.objs.size) (o:=.tup [x,y]) (I.my (Nat.le_refl _) fT) ⟨by show 2<=sizeLine;decide,[u,v],.cons ru (.cons rv .nil),⟨_,hT2,rfl,_,rfl⟩⟩
  ·rw [ao (nz c hc)]
   exact (hf c hc).1
 done:=by
  intro X hP hw hK hc i pins s σ H E I hf st hg
  subst hP hw hK
  obtain⟨xs,hq,hx⟩:=hg
  obtain⟨its,rv,p⟩:=I.C5 hq
  have hl:=rv.length
  obtain⟨h1,h2,⟨u0,v0,h3⟩,h4,h5⟩:=st
  exact mJ (I.ok.hd hc) ap.i1z ap.l1z h1 h2 h3 h4 p (by simp;omega) λh' eb=>⟨rfl,I.jL (t':=s.toks) (ch:=[z,i1]) (λc o hc q=>by
   simp only [List.mem_cons,List.not_mem_nil,or_false,not_or] at hc
   exact eb c o hc.1 hc.2 q) (λc hc=>hf c (by
    simp only [List.mem_cons,List.not_mem_nil,or_false] at hc
    rcases hc with rfl | rfl<;>simp))⟩
 self:=λ_ _ _ _ _ st h=>wpAny_pyIter_zip st.1 h
def CB (k1 k2:Sd) (K:PySem.W.Frag) (ta:TA):TI:=λσ H R=>ta σ H λvs H1=>∃ a b,vs=[.ref a,.ref b]/\(∃ xs,rG k1 K H1 a xs)/\(∃ ys,rG k2 K H1 b ys)/\R (Dw k1 k2 K a b) H1
theorem sZ:bootBuiltins "zip"=some (.type "zip"):=by decide +kernel
theorem wU {X:Cx} {elts:List Expr} {x1} {tpos:Pos} {a b:Expr} {ta:TA} {p pos:Pos} (k1 k2:Sd) (hg:Gl X "zip") (hm:X.mg "zip"=none) (ha:PA X [a,b] ta) (hs:starEach [a,b] X.env=[(false,eval a X.env),(false,eval b X.env)]:=by rfl) (hs2:starEach [b] X.env=[(false,eval b X.env)]:=by rfl) :
  PI X (.Tuple elts x1 tpos) (.Call (.Name "zip" p) [a,b] [] pos) (CB k1 k2 X.K ta):=by
 intro pins s σ H R I h
 refine Call_ (gw I hg hm sZ (PyProof.Rows.callWith_type1 (aQ (ha pos pins s σ H _ I h) λus s1 ⟨vs,H1,I1,r1,q1⟩=>?_) (by rw [hs,hs2]) (by rw [hs2];rfl)))
 obtain⟨a',b',e,⟨xs,hq1⟩,⟨ys,hq2⟩,q⟩:=q1
 subst e
 cases r1 with
 | cons r rr =>
  cases rr with
  | cons r' rr' =>
   cases rr'
   cases r
   cases r'
   obtain⟨its1,rv1,p1⟩:=I1.C5 hq1
   obtain⟨its2,rv2,p2⟩:=I1.C5 hq2
   refine vc p1 p2 λh' hz hTI hTO j1 j2 hk=>?_
   refine wpAny_pyIter_zip hz ?_
   have I2:Inv X pins σ H1 { s1 with heap:=h' }:=I1.kept (t':=s1.toks) hk
   refine⟨_,[s1.heap.objs.size+4,s1.heap.objs.size+2,s1.heap.objs.size+3,s1.heap.objs.size,s1.heap.objs.size+1],_,_,H1,rfl,I2,xZ (PyProof.Rows.zipApart_new p1.lt p2.lt),⟨hz,hTI,⟨_,_,hTO⟩,j1,j2⟩,λc hc=>?_,q⟩
   simp only [List.mem_cons,List.not_mem_nil,or_false] at hc
   rcases hc with rfl | rfl | rfl | rfl | rfl<;>exact I1.my (by omega) (I1.hok.fresh (by omega))
theorem lj {K:PySem.W.Frag} {k1 k2:Sd} {a b:Addr} {xs ys:List V} {js:List (Option Nat)} {g:TG} {tt:TT} {te:TE} {σ:St} {Q:VK} {H1:Hp} (Pv:Nat->List V->Hp->Prop) (h0:Pv 0 [] H1) (hxy:xs.length=ys.length) (hx:xs.length<=sizeLine) (hl:∀ i zs H,i<=xs.length->Pv i zs H->rG k1 K H a xs/\rG k2 K H b ys/\zs.length<=i)
  (hs:∀ i x y zs H p,xs[i]?=some x->ys[i]?=some y->Pv i zs H->H p=none->g (.ref p) (cS js σ) (upd H p (.tup [x,y])) λσ2 H2=>bf (cS js σ) σ2/\tt σ2 H2 λc H3=>if c=true then te σ2 H3 λv H4=>Pv (i+1) (zs++[v]) H4 else Pv (i+1) zs H3)
  (hd:∀ zs H p,Pv xs.length zs H->H p=none->Q (.ref p) (upd H p (.lst zs))):rF (Dw k1 k2 K a b) js g tt te σ Q H1:=by
 refine⟨λi m zs H=>m=xs.length-i/\i<=xs.length/\Pv i zs H,⟨xs.length,by simp,Nat.zero_le _,h0⟩,?_⟩
 rintro i m zs H ⟨rfl,hi,p⟩
 obtain⟨q,q',hy⟩:=hl i zs H hi p
 by_cases hlt:i<xs.length
 ·refine .inr ⟨⟨xs,ys,xs[i],ys[i],q,q',by simp [hlt],by simp⟩,by omega,Pv (i+1),λys' H' p'=>⟨xs.length-(i+1),by omega,rfl,hlt,p'⟩,λx H' y=>?_⟩
  obtain⟨pt,u,v,f,e1,e2,e3,e4⟩:=y
  subst e1 e4
  exact hs i u v zs _ pt (e2 xs q) (e3 ys q') p f
 ·have e:i=xs.length:=by omega
  subst e
  exact .inl ⟨⟨xs,q,Nat.le_refl _⟩,by omega,λp' hp'=>hd zs H p' p hp'⟩
end L2
namespace Num
theorem qZ {p x y:Int} {m:Nat} (h:Al p x y) (o:Ord p x m):Ord p y m:=⟨o.pos,(h.pow m).symm.trans o.one,λj z=>o.dv j ((h.pow j).trans z)⟩
def eN:List (Int × Int)->Nat
 | []=>1
 | p::r=>p.1.toNat^p.2.toNat*eN r
theorem cD:∀ a b:List (Int × Int),eN (a++b)=eN a*eN b
 | [],b=>by simp [eN]
 | p::r,b=>by
  show p.1.toNat^p.2.toNat*eN (r++b)=p.1.toNat^p.2.toNat*eN r*eN b
  rw [cD r b,Nat.mul_assoc]
theorem fP:∀ a:List (Int × Int),(∀ p∈a,Pm p.1)->(eN a:Int)=cE a
 | [],_=>rfl
 | p::r,h=>by
  have t:=(h p (List.mem_cons_self ..)).two
  show ((p.1.toNat^p.2.toNat*eN r:Nat):Int)=p.1^p.2.toNat*cE r
  rw [Int.natCast_mul,Int.natCast_pow,fP r λx z=>h x (List.mem_cons_of_mem _ z),show (p.1.toNat:Int)=p.1 by omega]
theorem qA:∀ a:List (Int × Int),(∀ p∈a,Pm p.1)->0<eN a
 | [],_=>Nat.one_pos
 | p::r,h=>by
  have t:=(h p (List.mem_cons_self ..)).two
  exact Nat.mul_pos (Nat.pow_pos (by omega)) (qA r λx z=>h x (List.mem_cons_of_mem _ z))
theorem Bb {q m:Nat} (h:Nm q) (hm:¬q∣m) (k:Nat):Nat.Coprime (q^k) m:=Nat.Coprime.pow_left k (h.co hm)
theorem Cv {q:Int} (hq:Pm q) {b:List (Int × Int)} (hb:∀ p∈b,Pm p.1) (ne:∀ p∈b,p.1≠q):¬q.toNat∣eN b:=λz=>by
 have t:=hq.two
 have:q∣cE b:=by
  rw [<- fP b hb]
  have:=Int.natCast_dvd_natCast.mpr z
  rwa [show (q.toNat:Int)=q by omega] at this
 obtain⟨p,hp,e⟩:=gW hq hb this
 exact ne p hp e
theorem vA {b:List (Int × Int)} (hb:∀ p∈b,Pm p.1):∀ a:List (Int × Int),(∀ p∈a,Pm p.1)->(∀ x∈a,∀ y∈b,y.1≠x.1)->Nat.Coprime (eN a) (eN b)
 | [],_,_=>Nat.coprime_one_left _
 | p::r,h,ne=>by
  have hp:=h p (List.mem_cons_self ..)
  exact Nat.Coprime.mul_left (Bb (As hp) (Cv hp hb (ne p (List.mem_cons_self ..))) _) (vA hb r (λx z=>h x (List.mem_cons_of_mem _ z)) λx z=>ne x (List.mem_cons_of_mem _ z))
theorem zq {n a:Int} {q t:Nat} (hq:Nm q) (h:Al n (a^q^t) 1) (no:∀ j,j<t->¬Al n (a^q^j) 1):Ord n a (q^t):=by
 have q2:=hq.1
 obtain⟨m,o,_⟩:=mN (N:=q^t) (Nat.pow_pos (by omega)) h
 have d:=o.dv _ h
 cases t with
 | zero =>
  have:m=1:=Nat.eq_one_of_dvd_one (by simpa using d)
  rw [this] at o
  simpa using o
 | succ k =>
  have:m=q^(k+1):=sh hq k m d λz=>no k (Nat.lt_succ_self _) (by
   obtain⟨c,hc⟩:=z
   rw [hc]
   exact aT o.one)
  rw [<- this]
  exact o
theorem bL {a:Int} {x y:Nat}:(a^x)^y=a^(x*y):=by rw [Int.pow_mul]
theorem q5 {n a:Int} {M1 M2 E1 E2:Nat} (co:Nat.Coprime M1 M2) (p1:0<M1) (p2:0<M2) (h:Al n (a^(M1*M2)) 1) (o1:Ord n (a^M2) E1) (o2:Ord n (a^M1) E2):Ord n a (E1*E2):=by
 have d1:E1∣M1:=o1.dv M1 (by rw [bL,Nat.mul_comm];exact h)
 have d2:E2∣M2:=o2.dv M2 (by rw [bL];exact h)
 obtain⟨c1,hc1⟩:=d1
 obtain⟨c2,hc2⟩:=d2
 obtain⟨e,o,_⟩:=mN (Nat.mul_pos p1 p2) h
 have x1:e∣M2*E1:=o.dv _ (by rw [<- bL];exact o1.one)
 have x2:e∣M1*E2:=o.dv _ (by rw [<- bL];exact o2.one)
 have cc:Nat.Coprime c2 c1:=by
  have:Nat.Coprime c1 c2:=Nat.Coprime.coprime_dvd_left ⟨E1,by rw [hc1,Nat.mul_comm]⟩ (Nat.Coprime.coprime_dvd_right ⟨E2,by rw [hc2,Nat.mul_comm]⟩ co)
  exact this.symm
 have x3:e∣E1*E2:=by
  have:=Nat.dvd_gcd x1 x2
  rw [show M2*E1=E1*E2*c2 by rw [hc2];rw [Nat.mul_comm (E2*c2) E1,Nat.mul_assoc],show M1*E2=E1*E2*c1 by rw [hc1];rw [Nat.mul_assoc,Nat.mul_comm c1 E2,Nat.mul_assoc],Nat.gcd_mul_left,cc.gcd_eq_one,Nat.mul_one] at this
  exact this
 have ce:Nat.Coprime E1 E2:=Nat.Coprime.coprime_dvd_left ⟨c1,hc1⟩ (Nat.Coprime.coprime_dvd_right ⟨c2,hc2⟩ co)
 refine⟨Nat.mul_pos o1.pos o2.pos,?_,λj hj=>?_⟩
 ·obtain⟨c,hc⟩:=x3
  rw [hc]
  exact aT o.one
 ·refine ce.mul_dvd_of_dvd_of_dvd (o1.dv j ?_) (o2.dv j ?_)
  ·rw [bL,Nat.mul_comm,<- bL]
   have:=hj.pow M2
   rwa [Int.one_pow] at this
  ·rw [bL,Nat.mul_comm,<- bL]
   have:=hj.pow M1
   rwa [Int.one_pow] at this
structure TO (n a:Int) (ps:List (Int × Int)) (ts:List Int):Prop where
 len:ts.length=ps.length
 nn:∀ t∈ts,0<=t
 ord:Ord n a (eN ((ps.map (·.1)).zip ts))
theorem TO.al {n a b:Int} {ps:List (Int × Int)} {ts:List Int} (h:TO n a ps ts) (e:Al n a b):TO n b ps ts:=⟨h.len,h.nn,qZ e h.ord⟩
theorem TO.none {n a:Int} (h:Al n a 1):TO n a [] []:=⟨rfl,λ_ z=>by simp at z,⟨Nat.one_pos,by show Al n (a^1) 1;rw [Int.pow_one];exact h,λj _=>Nat.one_dvd j⟩⟩
theorem TO.one {n a q k:Int} {t:Nat} (hq:Pm q) (h:Al n (a^q.toNat^t) 1) (no:∀ j,j<t->¬Al n (a^q.toNat^j) 1):TO n a [(q,k)] [(t:Int)]:=by
 refine⟨rfl,λx z=>?_,?_⟩
 ·rw [List.mem_singleton.mp z];omega
 ·show Ord n a (q.toNat^(t:Int).toNat*1)
  rw [Nat.mul_one,Int.toNat_natCast]
  exact zq (As hq) h no
theorem TO.two {n a:Int} {as bs:List (Int × Int)} {ts us:List Int} (ha:∀ p∈as,Pm p.1) (hb:∀ p∈bs,Pm p.1) (ne:∀ x∈as,∀ y∈bs,y.1≠x.1) (h:Al n (a^eN (as++bs)) 1) (h1:TO n (a^eN bs) as ts) (h2:TO n (a^eN as) bs us):TO n a (as++bs) (ts++us):=by
 refine⟨by rw [List.length_append,List.length_append,h1.len,h2.len],λt z=>(List.mem_append.mp z).elim (h1.nn t) (h2.nn t),?_⟩
 rw [List.map_append,List.zip_append (by rw [List.length_map,h1.len]),cD]
 rw [cD] at h
 exact q5 (vA hb as ha ne) (qA as ha) (qA bs hb) h h1.ord h2.ord
end Num
namespace L2
open PySem PySem.Spec PyProof.Rows
section
variable {prog:Program} {w:World} {A:Around} {E:Value->Shared->Prop} {s:Shared}
end
def DF (K:PySem.W.Frag) (a:Addr):It :=
 ⟨λi H=>∃ xs x,bE K H a xs/\xs[i]?=some x,λi H x H'=>∃ p v,H p=none/\x=.ref p/\(∀ xs,bE K H a xs->xs[i]?=some v)/\H'=upd H p (.tup [.int i,v]),λi H=>∃ xs,bE K H a xs/\xs.length<=i⟩
def Bh (K:PySem.W.Frag) (ta:TA):TI:=λσ H R=>ta σ H λvs H1=>∃ a,vs=[.ref a]/\(∃ xs,bE K H1 a xs)/\R (DF K a) H1
def CC (K:PySem.W.Frag) (ta:TA):TI:=λσ H R=>ta σ H λvs H1=>∃ a b k1 k2,vs=[.ref a,.ref b]/\(∃ xs,rG k1 K H1 a xs)/\(∃ ys,rG k2 K H1 b ys)/\R (Dw k1 k2 K a b) H1
end L2
namespace L2
open PySem PySem.Spec PyProof.Rows PySem.W
end L2
namespace L2
open PySem PySem.Spec PyProof.Rows
end L2
namespace L2
open PySem PySem.Spec PyProof.Rows PySem.W
section
variable {prog:Program} {w:World} {A:Around} {E:Value->Shared->Prop} {K:PySem.W.Frag} {h:Heap} {g:Array GenState} {d:Drawn} {t:Nat} {os:OsState} {x C B:Addr}
end
section
variable {X:Cx} {pins:List (Addr × Obj)} {σ:St} {H:Hp} {s:Shared} {x:Addr}
end
section
variable {X:Cx} {B:Addr} {n:Option Nat} {hd:ExceptHandler} {ts:TS}
variable {B2:Addr} {n2:Option Nat} {hd2:ExceptHandler} {ts2:TS}
def Dp (K:PySem.W.Frag) (B:Addr) (n:Option Nat) (B2:Addr) (n2:Option Nat) (sp:Sp) (ta:TA) (put:V->St->St) (ts ts2:TS):TS:=λD σ H=>ta σ H λvs H1=>sp vs H1 (λv H2=>D.nx (put v σ) H2)
 (λcv xo H2=>∃ C x dd,cv=.ref C/\xo=some x/\H2 x=some (XO x C dd)/\cF K C/\((mroIn K C (.ref B)=some true/\ts (lz n D) (tQ n x σ) H2)∨(mroIn K C (.ref B)=some false/\mroIn K C (.ref B2)=some true/\ts2 (lz n2 D) (tQ n2 x σ) H2)))
variable {k:Nat} {f:Str} {ps:List Str} {sp:Sp} {e:Expr} {es:List Expr} {t:TA} {p cpos epos pos:Pos}
end
namespace HT
section
variable {prog:Program} {w:World} {A:Around} {E:Value->Shared->Prop} {s:Shared}
theorem vd {t b:Addr} {ws:List Value} {Q:Value->Shared->Prop} (ht:IsTup s.heap t ([]:List Value).toArray) (hb:IsTup s.heap b ws.toArray)
  (h1:Q (.ref b) s):wpAny (model prog w) A (binaryOp .Add (.ref t) (.ref b)) Q E s:=by
 obtain⟨⟨cls,dd,data,sl⟩,ho,hc,n,hd⟩:=id ht
 obtain⟨⟨cls2,dd2,data2,sl2⟩,ho2,hc2,n2,hd2⟩:=id hb
 simp only at hc hd hc2 hd2
 subst hc hd hc2 hd2
 exact concat_meets ⟨_,ho,rfl⟩ ⟨_,ho2,rfl⟩ noFill_tuple_add seq_tuple_add PySem.F.slot_tuple_add PySem.F.entry_tuple_add (PySem.F.args_tuple_add_2 _ _)
   (tuple_addW0 t b ([]:List Value).toArray ws.toArray n n2 dd dd2 sl sl2 (by simp)) ⟨ho,ho2,h1⟩
end
end HT
def CV (K:PySem.W.Frag):R2:=λx y H Q=>∃ a b xs ys,x=.ref a/\y=.ref b/\bE K H a xs/\bE K H b ys/\xs.length+ys.length<=sizeLine/\∀ p H',ax H H'->bE K H' p (xs++ys)->Q (.ref p) H'
theorem zi {X:Cx}:gI X (binaryOp .Add) (CV X.K):=by
 intro pins s σ H x y v u Q I rx ry h
 obtain⟨a,b,xs,ys,rfl,rfl,ha,hb,hz,q⟩:=h
 by_cases e:xs=[]
 ·subst e
  cases rx
  cases ry
  obtain⟨its,r1,p1,_⟩:=I.tuple ha
  obtain⟨its2,r2,p2,_⟩:=I.tuple hb
  have e1:its=[]:=r1.jK.mpr rfl
  subst e1
  exact HT.vd p1 p2 ⟨.ref b,H,I,rfl,q b H (ax.refl _) hb⟩
 ·refine zj pins s σ H _ _ v u Q I rx ry ⟨a,b,xs,ys,rfl,rfl,ha,hb,e,hz,λz=>q a H (ax.refl _) (by rw [z,List.append_nil];exact ha),λ_ p hp=>q p _ (ai hp) (bE.of af)⟩
end L2
namespace L2
open PySem PySem.Spec PyProof.Rows PySem.W
namespace Tsl
open _root_.HT
section
variable {prog:Program} {w:World} {A:Around} {E:Value->Shared->Prop} {s:Shared}
theorem n8 {α β:Type} {f g:α->Option β}:∀{l:List α},(∀ x∈l,f x=g x)->l.filterMap f=l.filterMap g
 | [],_=>rfl
 | x::l,h=>by rw [List.filterMap_cons,List.filterMap_cons,h x (List.mem_cons_self ..),n8 λy hy=>h y (List.mem_cons_of_mem _ hy)]
theorem sW (xs:Array Value):((List.range xs.size).filterMap fun(m:Nat)=>xs[((xs.size:Int)-1+(m:Int) * -1).toNat]?).toArray=xs.toList.reverse.toArray:=by
 rw [<- krv_pick]
 unfold slicePick
 rw [krv_bounds]
 show _=((sliceRange ((xs.size:Int)-1) (-1) (-1)).filterMap (xs[·]?)).toArray
 rw [krv_sliceRange,List.filterMap_map]
 congr 1
 exact n8 λm hm=>by
  have:=List.mem_range.mp hm
  show xs[((xs.size:Int)-1+(m:Int) * -1).toNat]?=xs[xs.size-1-m]?
  congr 1
  omega
theorem nG (n:Nat):Builtin.Slice.sliceAdjust none none (-1) (n:Int)=((n:Int)-1,-1):=by
 unfold Builtin.Slice.sliceAdjust
 simp
theorem nH (n:Nat):Builtin.Slice.slicePlaces ((n:Int)-1) (-1) (-1)=n:=by
 unfold Builtin.Slice.slicePlaces
 simp
 omega
theorem ip {sl:Addr} {vk:Value} {n:Nat} {Q:Int × Int × Nat->Shared->Prop} (hs:s.heap.IsSliceOf sl .none .none vk) (pk:IsPart vk (some (-1)))
  (h:Q ((n:Int)-1,-1,n) s):wpAny (model prog w) A (Builtin.Slice.sliceApplied (.ref sl) (pure (n:Int))) Q E s:=by
 obtain⟨os,hos,hcs,hds⟩:=id hs
 unfold Builtin.Slice.sliceApplied Builtin.Slice.sliceFields
 refine wpAny_bind (wpAny_bind (wpAny_field hos hds (x:=.none) rfl (wpAny_bind (wpAny_field hos hds (x:=.none) rfl (wpAny_bind (wpAny_field hos hds (x:=vk) rfl (wpAny_pure ?_)))))))
 refine wpAny_bind (gF pk ?_)
 dsimp only
 rw [if_neg (by decide)]
 refine wpAny_bind (slicePart_none (wpAny_bind (slicePart_none (wpAny_bind (wpAny_pure ?_)))))
 show wpAny _ _ (pure ((Builtin.Slice.sliceAdjust none none (-1) (n:Int)).1,(-1:Int),Builtin.Slice.slicePlaces (Builtin.Slice.sliceAdjust none none (-1) (n:Int)).1 (Builtin.Slice.sliceAdjust none none (-1) (n:Int)).2 (-1))) _ _ s
 rw [nG]
 dsimp only
 rw [nH]
 exact wpAny_pure h
theorem rC {t sl:Addr} {items:Array Value} {vk:Value} {Q:Value->Shared->Prop} (ht:IsTup s.heap t items) (hs:s.heap.IsSliceOf sl .none .none vk) (pk:IsPart vk (some (-1))) (hz:items.size<=sizeLine)
  (q:Q (.ref s.heap.objs.size) { s with heap:=s.heap.push { cls:=.type "tuple",data:=.seq items.toList.reverse.toArray } }):wpAny (model prog w) A (getItem (.ref t) (.ref sl)) Q E s:=by
 obtain⟨os,hos,hcs,hds⟩:=id hs
 have hTs:s.TypeIs (.ref sl) "slice":=⟨os,hos,hcs⟩
 have hsz:sizeOk (.seq items.toList.reverse.toArray):=by
  show items.toList.reverse.toArray.size<=sizeLine
  rw [List.size_toArray,List.length_reverse,Array.length_toList]
  exact hz
 unfold getItem
 try with_reducible refine wpAny_holding ?_
 first | refine wpAny_bind (wpAny_pure ?_) | skip
 refine wpAny_bind (wpAny_sequenceKey ht.typeIs (by decide) ?_)
 refine wpAny_bind (wpAny_callSpecial?_slot (name:=Str.ofString "__getitem__") ht.typeIs slot_tuple_getitem (wpAny_call_entry slot_tuple_getitem ht.typeIs entry_tuple_getitem ?_ (args_tuple_getitem _ _)))
 show wpAny _ _ (Builtin.Tuple.tupleItemsOf _ >>= _) _ _ _
 refine wpAny_bind (tupleItemsOf_ ht ?_)
 refine wpAny_bind (wpAny_typeOf hTs ?_)
 rw [if_pos (by decide)]
 refine wpAny_bind (ip hs pk ?_)
 dsimp only
 rw [if_neg (by simp),sW]
 first
  | exact wpAny_bind (m:=Builtin.Tuple.tupleExact _) (wpAny_newObj_type (wpAny_pure ⟨_,rfl,wpAny_pure q⟩) hsz)
  | exact wpAny_bind (wpAny_bind (m:=Builtin.Tuple.tupleExact _) (wpAny_newObj_type (wpAny_pure (wpAny_pure ⟨_,rfl,wpAny_pure q⟩)) hsz))
  | exact wpAny_bind (m:=Builtin.Tuple.tupleExact _) (wpAny_newObj_type (wpAny_bind (wpAny_pure (wpAny_pure ⟨_,rfl,wpAny_pure q⟩))) hsz)
  | exact wpAny_bind (wpAny_bind (m:=Builtin.Tuple.tupleExact _) (wpAny_newObj_type (wpAny_pure ⟨_,rfl,wpAny_pure q⟩) hsz))
end
end Tsl
def AL (K:PySem.W.Frag) (te:TE) (tk:TO):TE:=λσ H Q=>te σ H λx H1=>tk σ H1 λo H2=>o=some (-1)/\∃ a xs,x=.ref a/\bE K H2 a xs/\∀ p,H2 p=none->Q (.ref p) (upd H2 p (.tup xs.reverse))
section
variable {X:Cx} {e k:Expr} {te:TE} {tk:TO} {p2 pos:Pos}
theorem zD (he:PE X e te) (hk:PO X (some k) tk)
  (hs:∀ a b:Addr,∃ ops,subscripted (.Slice none none (some k) p2) false (.ref a) (.ref b)=operate ops (getItem (.ref a) (.ref b)):=by intro a b;exact⟨_,by with_unfolding_all rfl⟩):PE X (.Subscript e (.Slice none none (some k) p2) pos) (AL X.K te tk):=by
 intro pins s σ H Q I h
 refine Subscript_ (aQ (he pins s σ H _ I h) λv s1 ⟨x,H1,I1,r1,q1⟩=>?_)
 refine wpAny_Slice ?_
 rw [evalPart_none]
 refine wpAny_pure (wpAny_pure ?_)
 refine aQ (hk pins s1 σ H1 _ I1 q1) λvk s3 ⟨o,H3,I3,pk,eo,a,xs,ex,hx,q3⟩=>?_
 subst eo
 subst ex
 cases r1
 have I4:Inv X pins σ H3 { s3 with heap:=s3.heap.push { cls:=.type "slice",data:=.fields #[.none,.none,vk] } }:=I3.kept (t':=s3.toks) λb ob q=>Heap.get?_push_of_some _ q
 obtain⟨its,r,ht,hz⟩:=I4.tuple hx
 have hlen:=r.length
 show wpAny (model X.prog X.w) X.A (subscriptTail e (.Slice none none (some k) p2) (.ref a) (.ref s3.heap.objs.size)) (EP X pins σ Q) X.xe { s3 with heap:=s3.heap.push { cls:=.type "slice",data:=.fields #[.none,.none,vk] } }
 obtain⟨ops,hops⟩:=hs a s3.heap.objs.size
 refine tail_any (ops:=ops) ht.typeIs slot_tuple_getitem.lookup ?_ hops
 refine Tsl.rC ht (Heap.IsSliceOf.new ..) pk (by rw [List.size_toArray]<;>omega) ?_
 refine⟨.ref _,_,I4.laid (t':=s3.toks) (o:=.tup xs.reverse) (λb ob q=>Heap.get?_push_of_some _ q) (Nat.le_refl _) ?_,rfl,q3 _ (I4.hok.fresh (Nat.le_refl _))⟩
 exact⟨by rw [List.length_reverse];exact hz,_,r.rev,IsTup.new _ _⟩
end
end L2
namespace L2
open PySem PySem.Spec PyProof.Rows
section
variable {prog:Program} {w:World} {K:Type} [DecidableEq K] {knd:HeapKind prog w K} {A:Around} {E:Value->Shared->Prop} {s:Shared}
def mL (xs:List (K × Addr × Value)) (k:K):List (K × Addr × Value):=xs.filter λx=>decide (x.1≠k)
theorem rX:∀{xs:List (K × Addr × Value)} {k:K} {p:Addr × Value} {j:Nat},(xs.map (·.1)).Nodup->xs[j]?=some (k,p)->xs.eraseIdx j=mL xs k
 | [],_,_,_,_,h=>by simp at h
 | x::r,k,p,0,hn,h=>by
  have e:x=(k,p):=by simpa using h
  subst e
  rw [List.map_cons,List.nodup_cons] at hn
  show r=mL ((k,p)::r) k
  unfold mL
  rw [List.filter_cons_of_neg (by simp)]
  refine (List.filter_eq_self.mpr λy hy=>?_).symm
  exact decide_eq_true λz=>hn.1 (List.mem_map.mpr ⟨y,hy,z⟩)
 | x::r,k,p,j+1,hn,h=>by
  have h':r[j]?=some (k,p):=by simpa using h
  rw [List.map_cons,List.nodup_cons] at hn
  have ne:x.1≠k:=λz=>hn.1 (List.mem_map.mpr ⟨(k,p),List.mem_of_getElem? h',z.symm⟩)
  show x::r.eraseIdx j=mL (x::r) k
  unfold mL
  rw [List.filter_cons_of_pos (by simpa using ne),rX hn.2 h']
  rfl
theorem uM {d a:Addr} {xs:List (K × Addr × Value)} {k:K} {p:Addr × Value} {Q:Option DictEntry->Shared->Prop} (hu:knd.room A) (hkey:knd.is s.heap k a) (hm:s.heap.DictOfH knd d xs) (hp:atKey xs k=some p) (hsz:xs.length<=sizeLine)
  (h:∀ e h',e.val=p.2->h'.DictOfH knd d (mL xs k)->Heap.SameBut d s.heap h'->Q (some e) { s with heap:=h',toks:=s.toks+knd.draws k }) :
  wpAny (model prog w) A (Builtin.Dict.takeOut d (.ref a)) Q E s:=by
 obtain⟨o,es,ep,ho,hc,hd,he,his,hn⟩:=hm
 unfold Builtin.Dict.takeOut
 try with_reducible refine wpAny_holding ?_
 refine wpAny_bind (knd.pyHash hu hkey (wpAny_bind (wpAny_dictFind_heap (s:={ s with toks:=s.toks+knd.draws k }) hu hkey ho hd he his hn (λno=>?_) λj q hj=>?_)))
 ·rw [atKey_none_of_get no] at hp;cases hp
 have eq:q=p:=by rw [atKey_of_get hn hj] at hp;exact Option.some.inj hp
 subst eq
 refine wpAny_bind (wpAny_dictEntries (s:={ s with toks:=s.toks+knd.draws k }) ho hd ?_)
 rw [entry_at he j,hj]
 have sz:=size_of_entries he
 refine wpAny_bind (wpAny_updateDictKeys (hz:=by omega) (s:={ s with toks:=s.toks+knd.draws k }) ho hd (wpAny_pure (h _ _ rfl ⟨_,_,ep+1,Heap.get?_update_self _ ho (Obj.isFreed_of_dict (Obj.data_mapDictKeys hd _)),hc.mapDictKeys _,Obj.data_mapDictKeys hd _,?_,?_,?_⟩ (Heap.SameBut.update ..))))
 ·rw [<- rX hn hj,show (xs.eraseIdx j).map (entryOfKey knd)=(xs.map (entryOfKey knd)).eraseIdx j from by simp [List.eraseIdx_eq_take_drop_succ],<- he]
  obtain⟨l⟩:=es
  simp
 ·intro x hx
  exact knd.keeps (his x (List.mem_filter.mp hx).1) ho hd (Heap.SameBut.update ..)
 ·exact List.Nodup.sublist (List.Sublist.map _ List.filter_sublist) hn
theorem wZ {d a:Addr} {xs:List (K × Addr × Value)} {k:K} {p:Addr × Value} {Q:Value->Shared->Prop} (hu:knd.room A.in1) (hkey:knd.is s.heap k a) (hm:s.heap.DictOfH knd d xs) (hp:atKey xs k=some p) (hsz:xs.length<=sizeLine)
  (h:∀ h',h'.DictOfH knd d (mL xs k)->Heap.SameBut d s.heap h'->Q p.2 { s with heap:=h',toks:=s.toks+knd.draws k }) :
  wpAny (model prog w) A (call (.builtin "dict.pop") [.ref d,.ref a]) Q E s:=by
 have hT:s.TypeIs (.ref d) "dict":=by obtain⟨o,es,ep,ho,hc,_⟩:=hm;exact⟨o,ho,hc.1⟩
 refine wpAny_call_entry PySem.F.slot_dict_pop hT PySem.F.entry_dict_pop ?_ (PySem.F.args_dict_pop_2 _ _)
 obtain⟨o,es,ep,ho,hc,hd,he,his,hn⟩:=id hm
 unfold Builtin.«dict.pop»
 refine wpAny_bind ?_
 unfold Builtin.Dict.keyAndDefault
 refine wpAny_bind (wpAny_notOrdered_dict hT ?_)
 show wpAny _ _ (pure (d,Value.ref a,none)) _ _ s
 refine wpAny_pure ?_
 dsimp only
 have kn:(keyPart (Value.ref a)).isSome=false:=rfl
 have ne:es.isEmpty=false:=by
  have sz:=size_of_entries he
  have:xs≠[]:=λz=>by rw [z] at hp;cases hp
  have:0<xs.length:=List.length_pos_iff.mpr this
  rw [Array.isEmpty_eq_false_iff]
  intro z
  rw [z] at sz
  simp at sz
  omega
 simp only [kn,Bool.false_eq_true,if_false]
 refine wpAny_bind (wpAny_dictEntries ho hd ?_)
 refine wpAny_bind (wpAny_pure ?_)
 rw [ne]
 simp only [Bool.false_eq_true,if_false]
 refine wpAny_bind (uM hu hkey hm hp hsz λe h' ev dd hs=>?_)
 simp only [Option.isNone_some,Bool.false_eq_true,if_false]
 exact wpAny_bind (wpAny_letGo (wpAny_pure ⟨e.val,rfl,by rw [ev];exact h h' dd hs⟩))
end
end L2
namespace L2
open PySem PySem.Spec PyProof.Rows PySem.W
def iF (h:Heap) (d:Addr) (es:Array DictEntry) (ep:Nat):Prop:=∃ o,h.get? d=some o/\o.ExactDict/\o.data=.dict es ep
theorem iF.fZ {h h':Heap} {d:Addr} {es:Array DictEntry} {ep:Nat} (x:iF h d es ep) (k:∀ o,h.get? d=some o->h'.get? d=some o):iF h' d es ep:=by
 obtain⟨o,a,b⟩:=x
 exact⟨o,k _ a,b⟩
section
variable {P:Program} {w:World} {A:Around} {E:Value->Shared->Prop} {s:Shared} {d:Addr} {es:Array DictEntry} {ep:Nat}
theorem iF.type (x:iF s.heap d es ep):s.TypeIs (.ref d) "dict":=by obtain⟨o,a,c,_⟩:=x;exact⟨o,a,c.1⟩
theorem vO {Q:Value->Shared->Prop} (nd:(d==sysModules)=false) (x:iF s.heap d es ep)
  (q:Q (.ref s.heap.objs.size) { s with heap:=s.heap.push { cls:=.type "dict_keyiterator",data:=.fields #[.ref d,.int 0 0,.int es.size 0,.int ep 0] } }):wpAny (model P w) A (pyIter (.ref d)) Q E s:=by
 have t:=x.type
 obtain⟨o,a,c,e⟩:=x
 refine wpAny_pyIter_slot t F.slot_dict_iter (wpAny_call_entry F.slot_dict_iter t F.entry_dict_iter ?g (F.args_dict_iter_1 _))
 unfold Builtin.«dict.__iter__» Builtin.Dict.dictSlotNone
 refine wpAny_bind (wpAny_bind (wpAny_notOrdered_dict t (wpAny_pure (α:=Value) (a:=.ref d) ?_)))
 unfold Builtin.Dict.showsAll
 show wpAny _ _ ((if (d==sysModules)=true then _ else _) >>= _) _ _ s
 rw [if_neg (by rw [nd];simp)]
 refine wpAny_bind (wpAny_pure (wpAny_bind (wpAny_dictEntries a e (wpAny_bind (wpAny_dictEpoch a e ?_)))))
 exact wpAny_bind (wpAny_newObj_type (wpAny_pure ⟨_,rfl,"dict_keyiterator",_,⟨_,Heap.get?_push_size _ rfl,rfl⟩,F.slot_dict_keyiterator_next.lookup,q⟩))
theorem v3 {it:Addr} {i:Nat} {x:DictEntry} {Q:Option Value->Shared->Prop} (ki:s.heap.IsKeyIter it d i es.size ep) (m:iF s.heap d es ep) (hx:es[i]?=some x)
  (q:∀ h',h'.IsKeyIter it d (i+1) es.size ep->Heap.SameBut it s.heap h'->Q (some x.key) { s with heap:=h' }):wpAny (model P w) A (pyNext (.ref it)) Q E s:=by
 have t:=ki.typeIs
 obtain⟨o,ho,hc,hd⟩:=id ki
 obtain⟨od,a,c,e⟩:=m
 unfold pyNext
 refine wpAny_bind (wpAny_attempt (wpAny_callSpecial?_slot (name:=Str.ofString "__next__") t F.slot_dict_keyiterator_next (wpAny_call_entry F.slot_dict_keyiterator_next t F.entry_dict_keyiterator_next ?g (F.args_dict_keyiterator_next_1 _))))
 refine wpAny_bind (wpAny_pure (wpAny_bind (wpAny_bind ?_)))
 refine wpAny_bind (wpAny_typeNameOfWhole_keyiter t (wpAny_pure (wpAny_bind (wpAny_fieldsOf ho hd ?_))))
 simp only [show Builtin.Dict_items.ownsTuple "dict_keyiterator"=false by decide,Bool.false_eq_true,if_false]
 show wpAny _ _ (if (Value.ref d==Value.none)=true then _ else _) _ _ s
 rw [if_neg (by exact Bool.false_ne_true)]
 refine wpAny_bind (wpAny_pure (wpAny_bind (wpAny_dictEntries a e ?_)))
 rw [if_neg (by simp)]
 refine wpAny_bind (wpAny_pure (wpAny_bind (wpAny_dictEpoch a e ?_)))
 rw [if_neg (by simp)]
 refine wpAny_pure ?_
 simp only [show ¬((i:Int)<0) from by omega,if_false,Int.toNat_natCast,hx]
 refine wpAny_bind (wpAny_bind (wpAny_typeNameOfWhole_keyiter t (wpAny_pure (wpAny_bind (wpAny_isOneOf_keyiter t ?_)))))
 show wpAny _ _ (setField (.ref it) 1 (rawInt ((i:Int)+1)) >>= _) _ _ s
 refine wpAny_bind (wpAny_setField ho hd (by simp) ?_)
 have ki':(s.heap.update it (Obj.mapFields (·.setIfInBounds 1 (rawInt ((i:Int)+1))))).IsKeyIter it d (i+1) es.size ep :=
  ⟨_,Heap.get?_update_self _ ho (Obj.isFreed_of_fields (Obj.data_mapFields hd _)),(Obj.cls_mapFields ..).trans hc,by rw [Obj.data_mapFields hd];simp [rawInt]⟩
 refine wpAny_bind (wpAny_holding (wpAny_bind (wpAny_isOneOf_keyiter (s:={ s with heap:=s.heap.update it (Obj.mapFields (·.setIfInBounds 1 (rawInt ((i:Int)+1)))) }) ki'.typeIs ?_)))
 show wpAny _ _ (pure x.key) _ _ _
 exact wpAny_pure (wpAny_pure ⟨_,rfl,wpAny_pure (q _ ki' (Heap.SameBut.update ..))⟩)
theorem yz {it:Addr} {i:Nat} {Q:Option Value->Shared->Prop} (hh:A.handled=none) (ki:s.heap.IsKeyIter it d i es.size ep) (m:iF s.heap d es ep) (hx:es[i]?=none)
  (q:∀ h',Heap.ExtBut it s.heap h'->Q none { s with heap:=h' }):wpAny (model P w) A (pyNext (.ref it)) Q E s:=by
 have t:=ki.typeIs
 obtain⟨o,ho,hc,hd⟩:=id ki
 obtain⟨od,a,c,e⟩:=m
 unfold pyNext
 refine wpAny_bind (wpAny_attempt (wpAny_callSpecial?_slot (name:=Str.ofString "__next__") t F.slot_dict_keyiterator_next (wpAny_call_entry F.slot_dict_keyiterator_next t F.entry_dict_keyiterator_next ?g (F.args_dict_keyiterator_next_1 _))))
 refine wpAny_bind (wpAny_pure (wpAny_bind (wpAny_bind ?_)))
 refine wpAny_bind (wpAny_typeNameOfWhole_keyiter t (wpAny_pure (wpAny_bind (wpAny_fieldsOf ho hd ?_))))
 simp only [show Builtin.Dict_items.ownsTuple "dict_keyiterator"=false by decide,Bool.false_eq_true,if_false]
 show wpAny _ _ (if (Value.ref d==Value.none)=true then _ else _) _ _ s
 rw [if_neg (by exact Bool.false_ne_true)]
 refine wpAny_bind (wpAny_pure (wpAny_bind (wpAny_dictEntries a e ?_)))
 rw [if_neg (by simp)]
 refine wpAny_bind (wpAny_pure (wpAny_bind (wpAny_dictEpoch a e ?_)))
 rw [if_neg (by simp)]
 refine wpAny_pure ?_
 simp only [show ¬((i:Int)<0) from by omega,if_false,Int.toNat_natCast,hx]
 refine wpAny_bind (wpAny_bind (wpAny_typeNameOfWhole_keyiter t (wpAny_pure ?_)))
 show wpAny _ _ (setField (.ref it) 0 .none >>= _) _ _ s
 refine wpAny_bind (wpAny_setField ho hd (by simp) ?_)
 show wpAny _ _ (PySem.newExc (.type "StopIteration") [] >>= _) _ _ _
 refine wpAny_bind ?_
 simp only [PySem.newExc,newTuple]
 refine wpAny_bind (wpAny_newObj_type (wpAny_bind (m:=firstArgMember _ _) (wpAny_of_eq (a:=Value.none) (by first | rfl | (simp only [firstArgMember];rfl)) (wpAny_newObj_type ?_ (by size_fits)))) (by size_fits))
 simp only [raiseNew]
 refine wpAny_bind (wpAny_handled ?_)
 rw [show A.in1.handled=none from hh]
 refine wpAny_bind (wpAny_pure (wpAny_throw ?th))
 refine wpAny_bind (wpAny_isInstance (b:=true) (T := "StopIteration") ⟨_,Heap.get?_push_size _ rfl,rfl⟩ isSubtype_stop ?_)
 exact wpAny_pure (q _ (((Heap.SameBut.update ..).extBut.push _).push _))
theorem tL (hh:A.handled=none) (I:Addr) (hne:d≠I):Walks P w A I [I,d] [I] es.size (λi v=>∃ x,es[i]?=some x/\v=x.key) (λi h=>h.IsKeyIter I d i es.size ep/\iF h d es ep) where
 sub:=λb hb=>by simp at hb;simp [hb]
 frame:=λ_ _ _ st k=>⟨st.1.at λo e=>k I (by simp) o e,st.2.fZ λo e=>k d (by simp) o e⟩
 item:=λi s Q E hi st q=>by
  refine v3 st.1 st.2 (Array.getElem?_eq_getElem hi) λh' ki hs=>?_
  exact q _ h' s.toks ⟨_,Array.getElem?_eq_getElem hi,rfl⟩ ⟨ki,st.2.fZ λo e=>hs.extBut d o hne e⟩ λb o hb e=>hs.extBut b o (λz=>hb (by simp [z])) e
 done:=λs Q E st q=>yz hh st.1 st.2 (by simp) λh' k=>q h' s.toks λb o hb e=>k b o (λz=>hb (by simp [z])) e
 self:=λ_ _ _ _ st q=>wpAny_pyIter_keyiter st.1 q
theorem qC {h:Heap} (x:iF h d es ep):d<h.objs.size:=by obtain⟨o,a,_⟩:=x;exact Heap.lt_size a
theorem yA (nd:(d==sysModules)=false):KdlSrc P w "dict" d d es.size (λi v=>∃ x,es[i]?=some x/\v=x.key) (λh=>iF h d es ep) where
 type:=λ_ x=>x.type
 there:=λ_ x=>⟨qC x,qC x⟩
 keep:=λ_ _ x k=>x.fZ λo e=>k d (.inl rfl) o e
 notList:=by decide
 notTuple:=by decide
 hint:=λ_ _ _ _ x q=>kdl_hint_dict x.type q
 iter:=λ_ _ hh x=>⟨_,_,(λ_ _ q=>vO nd x q),tL hh _ (Nat.ne_of_lt (qC x)),⟨⟨_,Heap.get?_push_size _ rfl,rfl,rfl⟩,x.fZ λo e=>Heap.get?_push_of_some _ e⟩⟩
end
section
variable {X:Cx} {pins:List (Addr × Obj)} {σ:St} {H:Hp} {s:Shared} {A:Around} {E:Value->Shared->Prop}
theorem vx {a:Addr} {kvs:List (List Key × V)} (I:Inv X pins σ H s) (e:H a=some (.dT kvs)):kvs.length<=sizeLine/\(a==sysModules)=false/\∃ es ep,iF s.heap a es ep/\es.size=kvs.length/\∀(i:Nat) x,es[i]?=some x->∃ k v b,kvs[i]?=some (k,v)/\x.key=.ref b/\H b=some (.tup (k.map kV)):=by
 obtain⟨z,y,xs,r,o,es,ep,h1,h2,h3,h4,h5⟩:=(show aZ X.prog X.w H s.heap a (.dT kvs) from I.hok a _ e)
 have l1:kvs.length=xs.length:=Paired.length r
 have l2:es.size=xs.length:=by rw [<- Array.length_toList,h4,List.length_map]
 refine⟨z,y,es,ep,⟨o,h1,h2,h3⟩,by omega,λi x hx=>?_⟩
 have hx':(xs.map (entryOfKey (tupleKind (bj X.prog X.w))))[i]?=some x:=by rw [<- h4,Array.getElem?_toList];exact hx
 rw [List.getElem?_map] at hx'
 obtain⟨y0,e1,e2⟩:=Option.map_eq_some_iff.mp hx'
 have hg:∀{l:List (List Key × V)} {m:List (List Key × Addr × Value)} (i:Nat),Paired (fun(p:List Key × V) (q:List Key × Addr × Value)=>p.1=q.1/\H q.2.1=some (.tup (p.1.map kV))/\RelV p.2 q.2.2) l m->∀ y,m[i]?=some y->∃ p,l[i]?=some p/\H y.2.1=some (.tup (p.1.map kV)):=by
  intro l m i q
  induction q generalizing i with
  | nil=>intro y z;simp at z
  | cons a t ih =>
   intro y z
   cases i with
   | zero=>simp at z;subst z;exact⟨_,rfl,a.2.1⟩
   | succ i=>exact ih i y (by simpa using z)
 obtain⟨p,e3,e4⟩:=hg i r y0 e1
 exact⟨p.1,p.2,y0.2.1,e3,by rw [<- e2];rfl,e4⟩
def BL:List V->Hp->VK->Prop:=λxs H Q=>∃(a:Addr) (kvs:List (List Key × V)),xs=[.ref a]/\H a=some (.dT kvs)/\∀(p:Addr) (bs:List Addr),bs.length=kvs.length->(∀(i:Nat) b,bs[i]?=some b->∃ k v,kvs[i]?=some (k,v)/\H b=some (.tup (k.map kV)))->H p=none->Q (.ref p) (upd H p (.lst (bs.map V.ref)))
theorem sk {Pr:Nat->Addr->Prop}:∀(vs:List Value),(∀(i:Nat) v,vs[i]?=some v->∃ b,v=.ref b/\Pr i b)->∃ bs:List Addr,bs.length=vs.length/\Vals (bs.map V.ref) vs/\∀(i:Nat) b,bs[i]?=some b->Pr i b
 | [],_=>⟨[],rfl,.nil,λi b z=>by simp at z⟩
 | v::vs,h=>by
  obtain⟨b,e,pb⟩:=h 0 v rfl
  obtain⟨bs,l,r,q⟩:=sk (Pr:=λi=>Pr (i+1)) vs λi u z=>h (i+1) u (by simpa using z)
  subst e
  refine⟨b::bs,by simp [l],.cons rfl r,λi c z=>?_⟩
  cases i with
  | zero=>simp at z;subst z;exact pb
  | succ i=>exact q i c (by simpa using z)
theorem qv (hc:X.calm=true):cL X (.type "list") BL:=by
 intro pins s σ H xs us Q I r h
 obtain⟨a,kvs,rfl,ha,q⟩:=h
 obtain⟨u,rfl,ru⟩:=vals1 r
 cases ru
 obtain⟨z,nd,es,ep,de,sz,ent⟩:=vx I ha
 refine kdl_call (yA (P:=X.prog) (w:=X.w) (es:=es) (ep:=ep) nd) (I.ok.hd hc) de (by omega) λh' tk acc c k hD hacc=>?_
 obtain⟨bs,l,rv,qb⟩:=sk (Pr:=λi b=>∃ k v,kvs[i]?=some (k,v)/\H b=some (.tup (k.map kV))) acc.toList λi v e=>by
  obtain⟨x,e1,e2⟩:=hacc.2 i v (by rw [<- Array.getElem?_toList];exact e)
  obtain⟨kk,vv,b,e3,e4,e5⟩:=ent i x e1
  exact⟨b,by rw [e2,e4],kk,vv,e3,e5⟩
 have al:acc.toList.length=kvs.length:=by rw [Array.length_toList,hacc.1,sz]
 have fT:H s.heap.objs.size=none:=I.hok.fresh (Nat.le_refl _)
 refine⟨.ref s.heap.objs.size,upd H s.heap.objs.size (.lst (bs.map V.ref)),?_,rfl,q _ bs (by omega) qb fT⟩
 exact I.laid k (Nat.le_refl _) ⟨by rw [List.length_map];omega,acc.toList,c,rv,by rw [hD]⟩
def xj:List V->Hp->VK->Prop:=λxs H Q=>∃(a:Addr) (n:Nat),xs=[.ref a]/\((∃ kvs,H a=some (.dT kvs)/\n=kvs.length)∨∃ kvs,H a=some (.dK kvs)/\n=kvs.length)/\Q (.int n) H
theorem yO {d:Addr} {es:Array DictEntry} {ep:Nat} {P:Program} {w:World} {Q:Value->Shared->Prop} (nd:(d==sysModules)=false) (x:iF s.heap d es ep) (fit:es.size<=sizeLine)
  (q:Q (.int es.size (s.toks+1)) { s with toks:=s.toks+1+1 }):wpAny (model P w) A (call (.builtin "len") [.ref d]) Q E s:=by
 have f63:(es.size:Int)<2^63:=by rw [sizeLine_eq] at fit;omega
 refine Calls.call_function_entry kind_len plain_len entry_len (args_len1 _) ?_
 have t:=x.type
 obtain⟨o,a,c,e⟩:=x
 unfold Builtin.«len»
 refine wpAny_bind (m:=oneArg "len" _) (wpAny_pure (wpAny_bind (m:=callSpecial? (.ref d) (Str.ofString "__len__")) (wpAny_callSpecial?_slot (name:=Str.ofString "__len__") t F.slot_dict_len (wpAny_call_entry F.slot_dict_len t F.entry_dict_len ?g (F.args_dict_len_1 _)))))
 show wpAny _ _ (dictSize d >>= _) _ _ s
 unfold dictSize
 refine wpAny_bind (wpAny_bind (wpAny_dictEntries a e (wpAny_pure ?_)))
 show wpAny _ _ (Builtin.Dict.pendingCount d >>= _) _ _ s
 refine wpAny_bind (wpAny_pendingCount_other nd (wpAny_ret_mkInt ?_))
 simp only [show ((es.size:Int)+((0:Nat):Int))=(es.size:Int) from Int.add_zero _]
 refine wpAny_bind (wpAny_holding (wpAny_pure (wpAny_bind (wpAny_letGo ?_))))
 show wpAny _ _ (if ((es.size:Nat):Int)<0 then _ else _) _ _ _
 rw [if_neg (by omega)]
 show wpAny _ _ (if ((es.size:Nat):Int)≥2^63 then _ else _) _ _ _
 rw [if_neg (by omega)]
 exact wpAny_bind (wpAny_mkInt (wpAny_pure ⟨_,rfl,q⟩))
theorem cM:cL X (.builtin "len") xj:=by
 intro pins s σ H xs us Q I r h
 obtain⟨a,n,rfl,ha,q⟩:=h
 obtain⟨u,rfl,ru⟩:=vals1 r
 cases ru
 rcases ha with⟨kvs,ha,rfl⟩|⟨kvs,ha,rfl⟩
 ·obtain⟨z,nd,es,ep,de,sz,_⟩:=vx I ha
  exact yO nd de (by omega) ⟨.int kvs.length,H,I.tok _,⟨_,by rw [sz]⟩,q⟩
 ·exact Cu I (.inl ha) λt s' I'=>⟨.int kvs.length,H,I',⟨t,rfl⟩,q⟩
def xO (td ty:TE):TE:=λσ H Q=>td σ H λx H1=>∃ a,x=.ref a/\Eg H1 a/\ty σ H1 λy H2=>∃ kvs k b v,H2 a=some (.dT kvs)/\y=.ref b/\H2 b=some (.tup (k.map kV))/\bM kvs k=some v/\Q v (upd H2 a (.dT (bH kvs k)))
theorem KT.off {kvs:List (List Key × V)} {xs:List (List Key × Addr × Value)} (r:KT H kvs xs) (k:List Key):KT H (bH kvs k) (mL xs k):=by
 induction r with
 | nil=>exact .nil
 | @cons p q ps qs hq t ih =>
  unfold bH mL
  by_cases c:p.1=k
  ·rw [List.filter_cons_of_neg (by simpa using c),List.filter_cons_of_neg (by simpa using hq.1▸c)]
   exact ih
  ·rw [List.filter_cons_of_pos (by simpa using c),List.filter_cons_of_pos (by simpa using hq.1▸c)]
   exact .cons hq ih
theorem oW {o e:Expr} {apos cpos:Pos} {td ty:TE} (hu:X.A.units+1<cLine) (ho:PE X o td) (he:PE X e ty) (m:M1 X o "pop" apos e cpos):PE X (.Call (.Attribute o "pop" apos) [e] [] cpos) (xO td ty):=by
 intro pins s σ H Q I h
 refine wpAny_Call_method m.base m.yb m.line PySem.F.plainAttrs_dict PySem.F.slot_dict_pop PySem.F.type_dict_pop (aQ (ho pins s σ H _ I h) λu s1 ⟨x,H1,I1,rx,a,ex,d,q1⟩=>?_)
 subst ex
 obtain rfl:u=Value.ref a:=rx
 obtain⟨t1,t2,_⟩:=Bl I1 d
 refine⟨t1,t2,?_⟩
 rw [m.trees]
 refine Calls.callWith_builtin rfl (Calls.evalArgs_plain (Calls.spliced_cons (aQ (he pins s1 σ H1 _ I1 q1) λiv s2 ⟨y,H2,I2,ry,kvs,k,b,v,ea,ey,eb,l,q2⟩=>Calls.spliced_nil ?_)))
 subst ey
 obtain rfl:iv=Value.ref b:=ry
 obtain⟨z,nd,xs,rel,dd⟩:=Af I2.hok ea
 obtain⟨w',hw,rw'⟩:=dS.some_of (v:=v) (by rw [<- l];exact rel.val k)
 obtain⟨p,hp,ep⟩:=Option.map_eq_some_iff.mp hw
 have lx:kvs.length=xs.length:=Paired.length rel
 refine wZ (tupleKind_room_in1 hu) (iO I2.hok eb) dd hp (by omega) λh' dd' hs=>?_
 rw [ep]
 obtain⟨o1,es,ep1,g1,g2,g3,g4,g5,g6⟩:=dd'
 have ht:∀ c ys,H2 c=some (.tup ys)->upd H2 a (.dT (bH kvs k)) c=some (.tup ys):=λc ys e=>by rw [ao (jc e ea (by intro z;cases z))];exact e
 exact⟨v,upd H2 a (.dT (bH kvs k)),jy (ob:=.dT (bH kvs k)) I2 (by rw [ea];exact True.intro) hs ⟨_,g1⟩ ⟨Nat.le_trans (nU kvs k) z,nd,_,(KT.off rel k).keeps ht,o1,es,ep1,g1,g2,g3,g4,g6⟩,rw',q2⟩
def CZ (K:PySem.W.Frag):List V->Hp->VK->Prop:=λxs H Q=>∃(a:Addr) (ns:List Int),xs=[.ref a]/\aM K H a (ns.map V.int)/\ns≠[]/\∀ m,m∈ns->(∀ n∈ns,n<=m)->Q (.int m) H
theorem lB:∀{ns:List Int} {us:List Value},Vals (ns.map V.int) us->IntsAre us ns
 | [],_,.nil=>.nil
 | n::ns,_,.cons ⟨t,e⟩ r=>by subst e;exact .cons _ t (lB r)
theorem lg (hc:X.calm=true):cL X (.builtin "max") (CZ X.K):=by
 intro pins s σ H xs us Q I r h
 obtain⟨a,ns,rfl,hq,ne,q⟩:=h
 obtain⟨u,rfl,ru⟩:=vals1 r
 cases ru
 obtain⟨its,rv,p,hz⟩:=I.list hq
 have hi:=lB rv
 have hl:=p.isList
 obtain⟨ys,e⟩:=hi.allInts.items
 have hns:ns=ys.toList.map (·.1):=by rw [<- hi.numsOf,<- nums_intItems,<- e]
 have hl0:0<ns.length:=List.length_pos_iff.mpr ne
 have hsz:0<ys.size:=by rw [hns,List.length_map,Array.length_toList] at hl0;exact hl0
 rw [e] at hl
 refine max_intList (I.ok.hd hc) hl hsz λv h' tk hv hk=>?_
 obtain⟨t,rfl⟩:=intItems_at hv
 obtain⟨b1,b2⟩:=argBest_gt (numAt ys) (ys.size-1)
 refine⟨.int _,H,I.kept hk,⟨t,rfl⟩,q _ ?_ λn hn=>?_⟩
 ·rw [hns,numAt_eq]
  exact getD_mem (by rw [List.length_map,Array.length_toList];omega)
 ·rw [hns] at hn
  obtain⟨j,hj,rfl⟩:=mem_getD hn
  rw [List.length_map,Array.length_toList] at hj
  rw [<- numAt_eq]
  exact b2 j (by omega)
end
section
variable {P:Program} {w:World} {K:PySem.W.Frag} {mg:Str->Option Value} {base:Heap} {CX:jq} {k:Nat} {C:Addr} {m qual x:Str} {ps:List Str} {sp:Sp} {st:Stmt}
def A1 (K:PySem.W.Frag) (C:Addr) (m qual:Str) (st:Stmt):Prop:=∃ f fd,Meth K C m f/\uS K m qual st f fd
structure bX (P:Program) (w:World) (K:PySem.W.Frag) (mg:Str->Option Value) (base:Heap) (CX:jq) (k:Nat) (C:Addr) (m:Str) (ps:List Str) (sp:Sp):Prop where
 ex:∃ f fd,Meth K C m f/\cq P w K mg base CX k f fd ps sp/\Binds K fd ps []
theorem Bt {f:Addr} {oc:Value} {od an:Option Addr} {osl:Array (Option Value)} {kV doc pm cdv ct:Value} (a:findIn K (.ref C) m=some (some (.ref f))) (fn:isFn K (.ref f)=true) (kk:keepIn K (.ref f)=true)
  (l:K.lookup f=some ⟨oc,od,.func (fnOf m qual (aR st) (aH st) (aj st) .none kV doc pm an cdv ct),osl⟩) (c:codeIn K cdv qual=true):A1 K C m qual st:=⟨f,_,⟨a,fn,kk⟩,qE l c kk⟩
theorem eC {N:List Str} (D:A1 K C m qual st)
  (hb:∀(kV doc pm:Value) (an:Option Addr) (cdv ct:Value) (us:List Value),us.length=ps.length->bindArgs (fnOf m qual (aR st) (aH st) (aj st) .none kV doc pm an cdv ct) ⟨us,[]⟩=pure (ps.zip us))
  (S:av N ps (aj st)) (len:∀ vs H Q E,sp vs H Q E->vs.length=ps.length)
  (hbody:∀(f:Addr) (cdv:Value) (A:Around) (outer:List Env) (s:Shared) (H:Hp) (vs:List V) (Q:VK) (E:XK),bF k (A.deeper (envOfC qual (aj st) s.heap.objs.size f cdv))->sp vs H Q E ->
   ∃ t,iD (cQ aO P w K mg base N qual (aj st) f cdv A outer s H E).lL (aH st) t/\t { nx:=λ_ H'=>Q .non H',rt:=Q } (start N vs) H):bX P w K mg base aO (k+1) C m ps sp:=by
 obtain⟨f,fd,M,F⟩:=D
 exact⟨f,fd,M,F.ok S len λcdv A outer s H vs Q E hr h=>hbody f cdv A outer s H vs Q E hr h,F.binds hb⟩
structure B8 (K:PySem.W.Frag) (mg:Str->Option Value) (x:Str) (C:Addr):Prop where
 cls:kU K C
 at_:mg x=some (.ref C)
 mkn:makesIn K C=true
 kp:keepIn K (.ref C)=true
theorem Bx (a:mg x=some (.ref C)) (p1:plainGet K C Str.empty=true) (p2:hasDictIn K C=true) (p3:plainOver K C=true) (p4:findIn K (.ref C) "__setattr__"=some (some (.builtin "object.__setattr__"))) (p5:makesIn K C=true) (p6:keepIn K (.ref C)=true):B8 K mg x C:=⟨⟨p1,p2,p3,p4⟩,a,p5,p6⟩
theorem j3 {f:Addr} {oc:Value} {od an:Option Addr} {osl:Array (Option Value)} {kV doc pm cdv ct:Value} (_:B8 K mg x C) (a:findIn K (.ref C) m=some (some (.ref f))) (fn:isFn K (.ref f)=true) (kk:keepIn K (.ref f)=true)
  (l:K.lookup f=some ⟨oc,od,.func (fnOf m qual (aR st) (aH st) (aj st) .none kV doc pm an cdv ct),osl⟩) (c:codeIn K cdv qual=true):A1 K C m qual st:=Bt a fn kk l c
theorem mK {f:Str} (_:B8 K mg x C) (a:findIn K (.ref C) f=some none):cu K C f:=a
variable {X:Cx} {E:XK} {o e:Expr} {es:List Expr} {ta:TE} {t:TA} {p apos pos:Pos}
theorem kh {pl:Sem Bool} (D:bX X.prog X.w X.K X.mg X.base CX k C m ps sp) (c:kU X.K C) (hr:bF k X.A) (hx:Passes CX X E) (he:PE X o ta) (ha:PA X (e::es) t)
  (hst:starEach (e::es) X.env=(false,eval e X.env)::starEach es X.env:=by rfl) (hpl:(backTo pos (starEach es X.env)).any (·.1)=false:=by rfl)
  (ht:eval (.Call (.Attribute o m apos) (e::es) [] pos) X.env=(do
   let ov <- eval o X.env
   standAt apos.atName
   let (f,first) <- holding [ov] (getMethod ov m pl)
   callWith pos f first (backTo pos (starEach (e::es) X.env)) (backToKw pos (keywordEach [] X.env))):=by rfl) :
  PE X (.Call (.Attribute o m apos) (e::es) [] pos) (pW C m sp [] E ta t):=by
 obtain⟨f,fd,M,F,b⟩:=D.ex
 exact zC he c M F hr b .nil hx ha hst hpl ht
theorem uA {pl:Sem Bool} (D:bX X.prog X.w X.K X.mg X.base CX k C m ps sp) (c:kU X.K C) (hr:bF k X.A) (hx:Passes CX X E) (he:PE X o ta)
  (ht:eval (.Call (.Attribute o m apos) [] [] pos) X.env=(do
   let ov <- eval o X.env
   standAt apos.atName
   let (f,first) <- holding [ov] (getMethod ov m pl)
   callWith pos f first (backTo pos (starEach [] X.env)) (backToKw pos (keywordEach [] X.env))):=by rfl) :
  PE X (.Call (.Attribute o m apos) [] [] pos) (pW C m sp [] E ta xQ):=by
 obtain⟨f,fd,M,F,b⟩:=D.ex
 exact wM he c M F hr b .nil hx ht
theorem wL (c:B8 X.K X.mg x C) (D:bX X.prog X.w X.K X.mg X.base CX k C "__init__" ps sp) (hr:bF (k+1) X.A) (hg:Gl X x) (hx:Passes CX X E) (ha:PA X (e::es) t) (hdb:(x==("__debug__":Str))=false:=by decide)
  (he:starEach (e::es) X.env=(false,eval e X.env)::starEach es X.env:=by rfl) (hpl:(backTo pos (starEach es X.env)).any (·.1)=false:=by rfl):PE X (.Call (.Name x p) (e::es) [] pos) (xP C sp [] E t):=by
 obtain⟨f,fd,M,F,b⟩:=D.ex
 exact zB ⟨c.mkn,M.at_,M.fn,c.kp⟩ F hr hg c.at_ b .nil hx ha hdb he hpl
structure AV (K:PySem.W.Frag) (x qual:Str) (st:Stmt) (f:Addr) (fd:FuncData) (ds:Array Value):Prop where
 ex:∃(oc:Value) (od:Option Addr) (T:Addr) (o:Obj) (n:Nat) (kV doc pm:Value) (an:Option Addr) (cdv ct:Value) (osl:Array (Option Value)),
  fd=fnOf x qual (aR st) (aH st) (aj st) (.ref T) kV doc pm an cdv ct/\K.lookup f=some ⟨oc,od,.func fd,osl⟩/\codeIn K cdv qual=true/\K.lookup T=some o/\o.data=.seq ds n
 kp:keepIn K (.ref f)=true
def l7 (K:PySem.W.Frag) (mg:Str->Option Value) (x:Str) (st:Stmt) (ds:Array Value):Prop:=∃ f fd,AV K x x st f fd ds/\mg x=some (.ref f)
theorem tJ {h:Heap} {f T:Addr} {ds:Array Value} {o:Obj} {n:Nat} {oc:Value} {od an:Option Addr} {osl:Array (Option Value)} {kV doc pm cdv ct:Value} (X:K.In h) (G:h.Ns mainGlobals mg)
  (a:nsIn K mainGlobals x=some (some (.ref f))) (l:K.lookup f=some ⟨oc,od,.func (fnOf x x (aR st) (aH st) (aj st) (.ref T) kV doc pm an cdv ct),osl⟩)
  (c:codeIn K cdv x=true) (kk:keepIn K (.ref f)=true) (lT:K.lookup T=some o) (e:o.data=.seq ds n):l7 K mg x st ds:=⟨f,_,⟨⟨oc,od,T,o,n,kV,doc,pm,an,cdv,ct,osl,rfl,l,c,lT,e⟩,kk⟩,mg_of X G a⟩
structure jw (P:Program) (w:World) (K:PySem.W.Frag) (mg:Str->Option Value) (base:Heap) (CX:jq) (k:Nat) (x:Str) (ps:List Str) (ds:List Value) (sp:Sp):Prop where
 ex:∃ f fd,cq P w K mg base CX k f fd ps sp/\mg x=some (.ref f)/\keepIn K (.ref f)=true/\Binds K fd ps []/\Binds K fd ps ds
theorem AV.binds {f:Addr} {fd:FuncData} {ds:Array Value} {dv:List Value} (F:AV K x qual st f fd ds)
  (h:∀(T:Addr) (kV doc pm:Value) (an:Option Addr) (cdv ct:Value) (us:List Value),(us++dv).length=ps.length->∃ j,bindArgs (fnOf x qual (aR st) (aH st) (aj st) (.ref T) kV doc pm an cdv ct) ⟨us,[]⟩=seqItems? (.ref T) >>= j/\j (some ds)=pure (ps.zip (us++dv))):Binds K fd ps dv:=by
 obtain⟨oc,od,T,o,n,kV,doc,pm,an,cdv,ct,osl,rfl,lk,hcd,lT,e⟩:=F.ex
 intro s us X hl
 obtain⟨j,h1,h2⟩:=h T kV doc pm an cdv ct us hl
 exact BindsTo.of_defaults rfl (X _ _ lT) e h1 h2
theorem nM {N:List Str} {ds:Array Value} (D:l7 K mg x st ds)
  (hb:∀(T:Addr) (kV doc pm:Value) (an:Option Addr) (cdv ct:Value) (us:List Value),(us++[]).length=ps.length->∃ j,bindArgs (fnOf x x (aR st) (aH st) (aj st) (.ref T) kV doc pm an cdv ct) ⟨us,[]⟩=seqItems? (.ref T) >>= j/\j (some ds)=pure (ps.zip (us++[])))
  (hb2:∀(T:Addr) (kV doc pm:Value) (an:Option Addr) (cdv ct:Value) (us:List Value),(us++ds.toList).length=ps.length->∃ j,bindArgs (fnOf x x (aR st) (aH st) (aj st) (.ref T) kV doc pm an cdv ct) ⟨us,[]⟩=seqItems? (.ref T) >>= j/\j (some ds)=pure (ps.zip (us++ds.toList)))
  (S:av N ps (aj st)) (len:∀ vs H Q E,sp vs H Q E->vs.length=ps.length)
  (hbody:∀(f:Addr) (cdv:Value) (A:Around) (outer:List Env) (s:Shared) (H:Hp) (vs:List V) (Q:VK) (E:XK),bF k (A.deeper (envOfC x (aj st) s.heap.objs.size f cdv))->sp vs H Q E ->
   ∃ t,iD (cQ (dO P w) P w K mg base N x (aj st) f cdv A outer s H E) (aH st) t/\t { nx:=λ_ H'=>Q .non H',rt:=Q } (start N vs) H):jw P w K mg base (dO P w) (k+1) x ps ds.toList sp:=by
 obtain⟨f,fd,F,hm⟩:=D
 have b1:=F.binds hb
 have b2:=F.binds hb2
 obtain⟨oc,od,T,o,n,kV,doc,pm,an,cdv,ct,osl,rfl,lk,hcd,lT,e⟩:=F.ex
 exact⟨f,_,vE lk hcd S len λA outer s H vs Q E hr h=>hbody f cdv A outer s H vs Q E hr h,hm,F.kp,b1,b2⟩
end
end L2
namespace L2
open PySem PySem.Spec PyProof.Rows
def Ce (q:Nat):Nat->Nat->Nat
 | 0,m=>m
 | f+1,m=>if q<=m*m then m else Ce q f (m+1)
def rt (q:Nat):Nat:=Ce q q 0
theorem xp {q:Nat}:∀(f m:Nat),(∀ j,j<m->j*j<q)->q<=(m+f)*(m+f)->q<=Ce q f m*Ce q f m/\∀ j,j<Ce q f m->j*j<q
 | 0,m,h,e=>⟨e,h⟩
 | f+1,m,h,e=>by
  unfold Ce
  by_cases c:q<=m*m
  ·rw [if_pos c];exact⟨c,h⟩
  ·rw [if_neg c]
   exact xp f (m+1) (λj hj=>by rcases (by omega:j<m∨j=m) with z | z;exact h j z;rw [z];omega) (by rw [show m+1+f=m+(f+1) by omega];exact e)
theorem sq (q:Nat):q<=rt q*rt q/\∀ j,j<rt q->j*j<q:=xp q 0 (λj z=>absurd z (Nat.not_lt_zero _)) (by
 rw [Nat.zero_add]
 rcases Nat.eq_zero_or_pos q with z | z
 ·rw [z];exact Nat.zero_le _
 ·exact Nat.le_mul_of_pos_left q z)
theorem C2 {q m:Nat} (h1:q<=m*m) (h2:∀ j,j<m->j*j<q):rt q=m:=by
 obtain⟨a,b⟩:=sq q
 rcases Nat.lt_trichotomy (rt q) m with z | z | z
 ·have:=h2 _ z;omega
 ·exact z
 ·have:=b _ z;omega
theorem xr {q:Nat} (h:0<q):0<rt q:=by
 rcases Nat.eq_zero_or_pos (rt q) with z | z
 ·have:=(sq q).1;rw [z] at this;omega
 ·exact z
theorem Ay {q:Nat} (h:0<q):rt q<=q:=by
 rcases Nat.lt_or_ge q (rt q) with z | z
 ·have:=(sq q).2 _ z
  have:=Nat.le_mul_of_pos_left q h
  omega
 ·exact z
theorem zL {q:Nat} (h:q<=10^6):rt q<=1000:=by
 rcases Nat.lt_or_ge 1000 (rt q) with z | z
 ·have:=(sq q).2 _ z;omega
 ·exact z
def c7 (p w:Int) (m:Nat):List (Key × V):=(List.range m).map λi:Nat=>(Sum.inl (w^i%p),V.int (i:Int))
theorem eJ {p w:Int} {m:Nat}:(c7 p w m).length=m:=by unfold c7;rw [List.length_map,List.length_range]
theorem iy {p w:Int} {m:Nat}:c7 p w (m+1)=c7 p w m++[(Sum.inl (w^m%p),V.int m)]:=by unfold c7;rw [List.range_succ,List.map_append];rfl
theorem iw {p w n:Int}:∀{m:Nat},(∀ j,j<m->w^j%p≠n)->bM (c7 p w m) (Sum.inl n)=none
 | 0,_=>rfl
 | m+1,h=>by
  have ih:=iw (p:=p) (w:=w) (n:=n) (m:=m) λj hj=>h j (by omega)
  by_cases z:bM (c7 p w m) (Sum.inl (w^m%p))=none
  ·rw [iy,fY _ _ _ _ z,if_neg (λe=>h m (by omega) (Sum.inl.inj e).symm)]
   exact ih
  ·unfold bM at ih z ⊢
   rw [iy,List.find?_append]
   cases e:List.find? (λkv=>decide (kv.1=Sum.inl n)) (c7 p w m) with
   | some y=>rw [e] at ih;cases ih
   | none =>
    have:¬(Sum.inl (w^m%p):Key)=Sum.inl n:=λe=>h m (by omega) (Sum.inl.inj e)
    simp [this]
theorem xT {p w:Int}:∀{m:Nat},(∀ i j,i<m->j<m->w^i%p=w^j%p->i=j)->∀ j,j<m->bM (c7 p w m) (Sum.inl (w^j%p))=some (.int j)
 | 0,_,j,hj=>absurd hj (Nat.not_lt_zero _)
 | m+1,h,j,hj=>by
  have z:bM (c7 p w m) (Sum.inl (w^m%p))=none:=iw λi hi e=>by
   have:=h i m (by omega) (by omega) e
   omega
  rw [iy,fY _ _ _ _ z]
  by_cases c:j=m
  ·rw [c,if_pos rfl]
  ·rw [if_neg (λe=>c (h j m hj (by omega) (Sum.inl.inj e)))]
   exact xT (λi j hi hj=>h i j (by omega) (by omega)) j (by omega)
end L2
namespace Num
theorem Ord.co {n a:Int} {m:Nat} (o:Ord n a m):Co a n:=by
 obtain⟨k,hk⟩:∃ k,m=k+1:=⟨m-1,by have:=o.pos;omega⟩
 exact Co.By (m:=k) (by rw [<- hk];exact o.one)
theorem Ord.h7 {n a:Int} {m i j:Nat} (o:Ord n a m) (hi:i<m) (hj:j<m) (e:a^i%n=a^j%n):i=j:=o.inj o.co hi hj (Al.iff.mpr e)
theorem rY {n b:Int} {e q:Nat} (o:Ord n b e) (hd:q∣e):Ord n (b^(e/q)) q:=by
 obtain⟨f,hf⟩:=hd
 have e0:=o.pos
 have q0:0<q:=by rcases Nat.eq_zero_or_pos q with z | z;rw [z,Nat.zero_mul] at hf;omega;exact z
 have f0:0<f:=by rcases Nat.eq_zero_or_pos f with z | z;rw [z,Nat.mul_zero] at hf;omega;exact z
 have ef:e/q=f:=by rw [hf];exact Nat.mul_div_cancel_left f q0
 rw [ef]
 refine⟨q0,?_,λj hj=>?_⟩
 ·rw [bL,Nat.mul_comm,<- hf];exact o.one
 ·rw [bL] at hj
  have:=o.dv _ hj
  rw [hf,Nat.mul_comm q f] at this
  exact Nat.dvd_of_mul_dvd_mul_left f0 this
theorem zE {n w:Int} {q y:Nat} (o:Ord n w q):Al n (w^y) (w^(y%q)):=by
 have h:y=q*(y/q)+y%q:=(Nat.div_add_mod y q).symm
 have h1:=(aT (k:=y/q) o.one).mul (Al.refl n (w^(y%q)))
 rw [Int.one_mul,<- Int.pow_add,<- h] at h1
 exact h1
theorem vn {n b a r w:Int} {e q x t:Nat} (o:Ord n b e) (hd:q^(t+1)∣e) (ha:Al n a (b^x)) (hr:Al n (r*b^(x%q^t)) 1) (hw:Al n w (b^(e/q))):Al n ((a*r)^(e/q^(t+1))) (w^(x/q^t%q)):=by
 obtain⟨f,hf⟩:=hd
 have e0:=o.pos
 have q0:0<q^(t+1):=by rcases Nat.eq_zero_or_pos (q^(t+1)) with z | z;rw [z,Nat.zero_mul] at hf;omega;exact z
 have qt:0<q^t:=by rcases Nat.eq_zero_or_pos (q^t) with z | z;rw [Nat.pow_succ,z,Nat.zero_mul] at q0;omega;exact z
 have q1:0<q:=by rcases Nat.eq_zero_or_pos q with z | z;rw [Nat.pow_succ,z,Nat.mul_zero] at q0;omega;exact z
 have ef:e/q^(t+1)=f:=by rw [hf];exact Nat.mul_div_cancel_left f q0
 have eq:e/q=q^t*f:=by rw [hf,Nat.pow_succ,Nat.mul_assoc,Nat.mul_comm q f,<- Nat.mul_assoc];exact Nat.mul_div_cancel _ q1
 have dq:q∣e:=⟨q^t*f,by rw [hf,Nat.pow_succ,Nat.mul_comm (q^t) q,Nat.mul_assoc]⟩
 have ow:Ord n w q:=qZ hw.symm (rY o dq)
 have h1:Al n (a*r) (b^(q^t*(x/q^t))):=by
  have z:=ha.mul (Al.refl n r)
  have hx:x=q^t*(x/q^t)+x%q^t:=(Nat.div_add_mod x (q^t)).symm
  have z2:=(Al.refl n (b^(q^t*(x/q^t)))).mul hr
  rw [Int.mul_one] at z2
  refine z.trans (Al.trans ?_ z2)
  have:b^x*r=b^(q^t*(x/q^t))*(r*b^(x%q^t)):=by
   have hb:b^x=b^(q^t*(x/q^t))*b^(x%q^t):=by rw [<- Int.pow_add,<- hx]
   rw [hb,Int.mul_assoc,Int.mul_comm (b^(x%q^t)) r]
  rw [this]
  exact Al.refl _ _
 rw [ef]
 have h2:=h1.pow f
 rw [bL] at h2
 have h3:=hw.pow (x/q^t)
 rw [bL,eq] at h3
 have h4:b^(q^t*(x/q^t)*f)=b^(q^t*f*(x/q^t)):=by congr 1;rw [Nat.mul_assoc,Nat.mul_assoc,Nat.mul_comm f]
 rw [h4] at h2
 exact (h2.trans h3.symm).trans (zE ow)
def cR (x q n:Nat):List Nat:=(List.range n).map λi=>x/q^i%q
theorem gN {x q n:Nat}:(cR x q n).length=n:=by unfold cR;rw [List.length_map,List.length_range]
theorem lp {x q n:Nat}:cR x q (n+1)=cR x q n++[x/q^n%q]:=by unfold cR;rw [List.range_succ,List.map_append];rfl
theorem rO {x q n i:Nat} (h:i<n):(cR x q n)[i]?=some (x/q^i%q):=by unfold cR;rw [List.getElem?_map,List.getElem?_range h];rfl
theorem oK {x q n i:Nat} (q0:0<q) (hi:i<n):(x%q^n)/q^(n-i)*q+x/q^(n-1-i)%q=(x%q^n)/q^(n-(i+1)):=by
 obtain⟨k,hk⟩:∃ k,n-i=k+1:=⟨n-i-1,by omega⟩
 have e1:n-1-i=k:=by omega
 have e2:n-(i+1)=k:=by omega
 rw [hk,e1,e2]
 have e3:x/q^k%q=(x%q^n)/q^k%q:=by
  have hn:q^n=q^k*(q*q^(n-k-1)):=by rw [<- Nat.mul_assoc,<- Nat.pow_succ,<- Nat.pow_add];congr 1;omega
  rw [hn,Nat.mod_mul_right_div_self,Nat.mod_mul_right_mod]
 rw [e3,Nat.pow_succ,<- Nat.div_div_eq_div_mul]
 exact Nat.div_add_mod' _ _
theorem oX {p a b:Int} {e:Nat} (hp:Pm p) (o:Ord p b e) (h:Al p (a^e) 1):∃ x,x<e/\Al p a (b^x):=by
 rcases Classical.em (∃ x,x<e/\Al p a (b^x)) with z | z
 ·exact z
 ·exfalso
  have no:∀ x,x<e->¬Al p a (b^x):=λx hx hh=>z ⟨x,hx,hh⟩
  obtain⟨m,hm⟩:∃ m,e=m+1:=⟨e-1,by have:=o.pos;omega⟩
  have hlen:(List.replicate m (0:Int)++[-1]).length=e:=by simp [hm]
  have key:=roots hp e (List.replicate m 0++[-1]) 1 hlen (λhd=>hp.yV (by
   obtain⟨c,hc⟩:=hd
   exact⟨-c,by rw [Int.mul_neg,<- hc];omega⟩)) (a::(List.range e).map λi=>b^i) ?_ ?_
  ·simp at key
   omega
  ·refine List.pairwise_cons.mpr ⟨λy hy=>?_,?_⟩
   ·obtain⟨i,hi,rfl⟩:=List.mem_map.mp hy
    exact no i (List.mem_range.mp hi)
   ·rw [List.pairwise_map]
    refine List.Pairwise.imp_of_mem ?_ List.pairwise_lt_range
    intro i j hi hj lt hh
    have:=o.inj o.co (List.mem_range.mp hi) (List.mem_range.mp hj) hh
    omega
  ·intro r hr
   rw [uV,Int.one_mul,<- hm]
   rcases List.mem_cons.mp hr with rfl | hr
   ·exact h
   ·obtain⟨i,_,rfl⟩:=List.mem_map.mp hr
    have:=aT (k:=i) o.one
    rw [bL,Nat.mul_comm]
    exact this
theorem uF {p a b:Int} {e x y:Nat} (o:Ord p b e) (hx:x<e) (hy:y<e) (h1:Al p a (b^x)) (h2:Al p a (b^y)):x=y:=o.inj o.co hx hy (h1.symm.trans h2)
end Num
namespace L2
open PySem PySem.Spec PyProof.Rows
def dN (a d:Addr) (H H':Hp):Prop:=∀ b o,b≠a->b≠d->H b=some o->H' b=some o
theorem dN.refl {a d:Addr} {H:Hp}:dN a d H H:=λ_ _ _ _ e=>e
theorem dN.trans {a d:Addr} {H H1 H2:Hp} (h:dN a d H H1) (h':dN a d H1 H2):dN a d H H2:=λb o x y e=>h' b o x y (h b o x y e)
theorem dN.of {a d:Addr} {H H':Hp} (h:ax H H'):dN a d H H':=λb o _ _ e=>h b o e
theorem dN.Dt {a d:Addr} {H:Hp} {o:HO}:dN a d H (upd H d o):=λb u _ x e=>by rw [ao x];exact e
structure KH where
 a:Addr
 dx:Addr
 d:Addr
 most:Int
 c:Int
 ks:List (Int × Int × Int)
def k3 (x:Int × Int × Int):List Key:=[.inl x.1,.inl x.2.1,.inl x.2.2]
theorem iM {x y:Int × Int × Int} (h:k3 x=k3 y):x=y:=by
 obtain⟨a,b,c⟩:=x
 obtain⟨a',b',c'⟩:=y
 simp only [k3,List.cons.injEq,Sum.inl.injEq,and_true] at h
 obtain⟨rfl,rfl,rfl⟩:=h
 rfl
def Bm (k:KH):List (Str × V):=[("most",.int k.most),("counted",.int k.c),("laid",.ref k.d)]
def KTab (H:Hp) (x:Int × Int × Int) (v:V):Prop:=∃ t,v=.ref t/\H t=some (.dK (c7 x.1 x.2.2 (rt x.2.1.toNat)))
structure qa (H:Hp) (k:KH) (kvs:List (List Key × V)):Prop where
 dict:H k.d=some (.dT kvs)
 keys:kvs.map (·.1)=k.ks.map k3
 nd:k.ks.Nodup
 tab:∀ x v,bM kvs (k3 x)=some v->KTab H x v
structure bW (C:Addr) (k:KH) (H:Hp):Prop where
 ins:H k.a=some (.ins C k.dx (Bm k))
 ex:∃ kvs,qa H k kvs
 m0:0<=k.most
 m1:k.most<=10^6
section
variable {C:Addr} {k:KH} {H H':Hp} {kvs:List (List Key × V)}
theorem KTab.same {x:Int × Int × Int} {v:V} (h:KTab H x v) (s:ax H H'):KTab H' x v:=by obtain⟨t,e,z⟩:=h;exact⟨t,e,s _ _ z⟩
theorem qa.same (h:qa H k kvs) (s:ax H H'):qa H' k kvs:=⟨s _ _ h.dict,h.keys,h.nd,λx v e=>(h.tab x v e).same s⟩
theorem bW.same (h:bW C k H) (s:ax H H'):bW C k H':=⟨s _ _ h.ins,let ⟨kvs,z⟩:=h.ex;⟨kvs,z.same s⟩,h.m0,h.m1⟩
theorem qa.len (h:qa H k kvs):kvs.length=k.ks.length:=by have:=congrArg List.length h.keys;simpa using this
theorem bW.ne (h:bW C k H):k.a≠k.d:=by
 obtain⟨kvs,z⟩:=h.ex
 exact jc h.ins z.dict (by intro z;cases z)
theorem bW.apart (h:bW C k H) {b:Addr} {o:HO} (e:H b=some o) (h1:∀ C dx fs,o≠.ins C dx fs) (h2:∀ kvs,o≠.dT kvs):b≠k.a/\b≠k.d:=by
 obtain⟨kvs,z⟩:=h.ex
 exact⟨jc e h.ins (h1 _ _ _),jc e z.dict (h2 _)⟩
theorem bW.keep (h:bW C k H) (bt:dN k.a k.d H H') {b:Addr} {o:HO} (e:H b=some o) (h1:∀ C dx fs,o≠.ins C dx fs:=by intro _ _ _ z;cases z) (h2:∀ kvs,o≠.dT kvs:=by intro _ z;cases z):H' b=some o :=
 let ⟨x,y⟩:=h.apart e h1 h2;bt b o x y e
theorem bW.dk (h:bW C k H) (bt:dN k.a k.d H H'):∀ a xs,Rd H a (.tup xs)->Rd H' a (.tup xs):=by
 intro a xs z
 rcases z with z | ⟨o,z⟩
 ·exact .inl (h.keep bt z)
 ·exact .inr ⟨o,h.keep bt z⟩
theorem jM:∀{kvs:List (List Key × V)} {q:List Key},(bM kvs q).isSome=true↔q∈kvs.map (·.1)
 | [],q=>by simp [bM]
 | p::r,q=>by
  by_cases c:p.1=q
  ·rw [bP c];simp [c]
  ·rw [bK c,jM (kvs:=r)]
   simp only [List.map_cons,List.mem_cons]
   exact⟨.inr,λz=>z.resolve_left λe=>c e.symm⟩
theorem qa.mem (h:qa H k kvs) {x:Int × Int × Int}:(bM kvs (k3 x)).isSome=true↔x∈k.ks:=by
 rw [jM,h.keys,List.mem_map]
 exact⟨fun⟨y,hy,e⟩=>iM e▸hy,λz=>⟨x,z,rfl⟩⟩
theorem iA {q j:List Key}:∀{kvs:List (List Key × V)},bM (bH kvs q) j=if j=q then none else bM kvs j
 | []=>by unfold bH;simp [bM]
 | p::r=>by
  have ih:=iA (q:=q) (j:=j) (kvs:=r)
  unfold bH at ih ⊢
  by_cases c:p.1=q
  ·rw [List.filter_cons_of_neg (by simpa using c),ih]
   by_cases d:j=q
   ·rw [if_pos d,if_pos d]
   ·rw [if_neg d,if_neg d,bK (λe=>d (e.symm.trans c))]
  ·rw [List.filter_cons_of_pos (by simpa using c)]
   by_cases d:p.1=j
   ·rw [bP d,bP d,if_neg (λe=>c (d.trans e))]
   ·rw [bK d,bK d,ih]
theorem lq {x:Int × Int × Int}:∀{kvs:List (List Key × V)} {ks:List (Int × Int × Int)},kvs.map (·.1)=ks.map k3->(bH kvs (k3 x)).map (·.1)=(ks.filter λy=>decide (y≠x)).map k3
 | [],[],_=>rfl
 | [],_::_,h=>by simp at h
 | _::_,[],h=>by simp at h
 | p::r,y::ys,h=>by
  rw [List.map_cons,List.map_cons,List.cons.injEq] at h
  have ih:=lq (x:=x) (kvs:=r) (ks:=ys) h.2
  unfold bH at ih ⊢
  by_cases c:y=x
  ·rw [List.filter_cons_of_neg (by rw [h.1,c];simp),List.filter_cons_of_neg (by simpa using c)]
   exact ih
  ·rw [List.filter_cons_of_pos (by rw [h.1];simpa using λe=>c (iM e)),List.filter_cons_of_pos (by simpa using c),List.map_cons,List.map_cons,h.1,ih]
def cj (ks:List (Int × Int × Int)) (x:Int × Int × Int):List (Int × Int × Int):=(ks.filter λy=>decide (y≠x))++[x]
def nQ (most:Int) (ks:List (Int × Int × Int)):List (Int × Int × Int):=if most<ks.length then ks.tail else ks
def iZ (k:KH) (x:Int × Int × Int):KH:={ k with ks:=nQ k.most (cj k.ks x),c:=if x∈k.ks then k.c else k.c+rt x.2.1.toNat }
def gJ (k:KH) (n:Int):KH:={ k with c:=k.c+n }
theorem B3 {ks:List (Int × Int × Int)} {x:Int × Int × Int} (h:ks.Nodup):(cj ks x).Nodup:=by
 unfold cj
 rw [List.nodup_append]
 refine⟨h.sublist List.filter_sublist,by simp,λa ha b hb e=>?_⟩
 rw [List.mem_singleton.mp hb] at e
 have:=(List.mem_filter.mp ha).2
 simp [e] at this
theorem z6 {ks:List (Int × Int × Int)} {x:Int × Int × Int}:(cj ks x).length<=ks.length+1:=by
 unfold cj
 rw [List.length_append]
 exact Nat.add_le_add_right (List.length_filter_le _ _) 1
theorem qa.use {x:Int × Int × Int} {t:Addr} (h:qa H k kvs) (kt:∀ y v,KTab H y v->KTab H' y v) (ht:KTab H' x (.ref t)) (hD:H' k.d=some (.dT (bH kvs (k3 x)++[(k3 x,.ref t)]))) :
  qa H' { k with ks:=cj k.ks x } (bH kvs (k3 x)++[(k3 x,.ref t)]) where
 dict:=hD
 keys:=by
  rw [List.map_append,lq h.keys]
  show _=(cj k.ks x).map k3
  unfold cj
  rw [List.map_append]
  rfl
 nd:=B3 h.nd
 tab:=λy v e=>by
  rw [fY _ _ _ _ (by rw [iA,if_pos rfl])] at e
  by_cases c:k3 y=k3 x
  ·rw [if_pos c] at e
   cases e
   cases iM c
   exact ht
  ·rw [if_neg c,iA,if_neg c] at e
   exact kt _ _ (h.tab y v e)
def sV (k:KH):Prop:=(k.ks.length:Int)<=k.most
theorem sV.use {x:Int × Int × Int} (h:sV k) (m0:0<=k.most):sV (iZ k x):=by
 have h':(k.ks.length:Int)<=k.most:=h
 show ((nQ k.most (cj k.ks x)).length:Int)<=k.most
 have:=z6 (ks:=k.ks) (x:=x)
 unfold nQ
 split
 ·rw [List.length_tail];omega
 ·omega
theorem sV.add {n:Int} (h:sV k):sV (gJ k n):=h
theorem drop_tail {q:List Key} {v:V} {r:List (List Key × V)} (nd:(((q,v)::r).map (·.1)).Nodup):bH ((q,v)::r) q=r:=by
 unfold bH
 rw [List.filter_cons_of_neg (by simp)]
 refine List.filter_eq_self.mpr λy hy=>?_
 rw [List.map_cons,List.nodup_cons] at nd
 exact decide_eq_true λz=>nd.1 (List.mem_map.mpr ⟨y,hy,z⟩)
theorem qa.cut {q:List Key} {v:V} {r:List (List Key × V)} (h:qa H k ((q,v)::r)) (hd:∀ b u,b≠k.d->H b=some u->H' b=some u) (hD:H' k.d=some (.dT r)):qa H' { k with ks:=k.ks.tail } r:=by
 obtain⟨y,ys,e⟩:∃ y ys,k.ks=y::ys:=by
  cases e:k.ks with
  | nil=>have:=h.len;rw [e] at this;simp at this
  | cons y ys=>exact⟨y,ys,rfl⟩
 have hk:=h.keys
 have hn:=h.nd
 rw [e,List.map_cons,List.map_cons,List.cons.injEq] at hk
 rw [e,List.nodup_cons] at hn
 refine⟨hD,by rw [hk.2];show _=k.ks.tail.map k3;rw [e];rfl,by show k.ks.tail.Nodup;rw [e];exact hn.2,λx u z=>?_⟩
 have ne:q≠k3 x:=λe2=>by
  have:k3 x∈r.map (·.1):=jM.mp (by rw [z];rfl)
  rw [hk.2,List.mem_map] at this
  obtain⟨x',h1,h2⟩:=this
  have:y=x:=iM (hk.1.symm.trans e2)
  rw [iM h2,<- this] at h1
  exact hn.1 h1
 obtain⟨t,e3,e4⟩:=h.tab x u (by rw [bK ne];exact z)
 exact⟨t,e3,hd _ _ (λe=>by rw [e,h.dict] at e4;cases e4) e4⟩
theorem tK {q:List Key} {kvs:List (List Key × V)} (h:bM kvs q=none):bH kvs q=kvs:=by
 unfold bH
 refine List.filter_eq_self.mpr λy hy=>decide_eq_true λz=>?_
 have:(bM kvs q).isSome=true:=jM.mpr (List.mem_map.mpr ⟨y,hy,z⟩)
 rw [h] at this
 cases this
theorem qa.nodup (h:qa H k kvs):(kvs.map (·.1)).Nodup:=by
 rw [h.keys]
 exact List.Pairwise.map k3 (λa b n e=>n (iM e)) h.nd
theorem bW.DW {n:Int} {fs:List (Str × V)} (h:bW C k H) (e:fs=Bm (gJ k n)):bW C (gJ k n) (upd H k.a (.ins C k.dx fs)):=by
 subst e
 obtain⟨kvs,z⟩:=h.ex
 refine⟨af,⟨kvs,?_,z.keys,z.nd,λx v e=>?_⟩,h.m0,h.m1⟩
 ·show upd H k.a _ k.d=_
  rw [ao (Ne.symm h.ne)]
  exact z.dict
 ·obtain⟨t,e1,e2⟩:=z.tab x v e
  exact⟨t,e1,by rw [ao (h.apart e2 (by intro _ _ _ z;cases z) (by intro _ z;cases z)).1];exact e2⟩
end
def BJ:V->List V->Hp->VK->Prop:=λx vs H Q=>∃ l xs y,∃ j:Nat,x=.ref l/\vs=[y]/\H l=some (.lst xs)/\cW y=true/\xs.all cW=true/\(∃ z,xs[j]?=some z/\mn z y=true)/\(∀ i z,i<j->xs[i]?=some z->mn z y=false)/\Q (.int j) H
theorem A5 {xs:List V} {i:Nat} {z:V} (f:xs.all cW=true) (h:xs[i]?=some z):cW z=true:=List.all_eq_true.mp f z (List.mem_of_getElem? h)
theorem vW {X:Cx}:Ei X "list.index" BJ:=by
 intro pins s σ H x vs v us Q I rx rv h
 obtain⟨l,xs,y,j,rfl,rfl,hH,fy,fx,⟨z1,hz1,hz2⟩,no,q⟩:=h
 cases rx
 obtain⟨u,rfl,ru⟩:=rv.one
 obtain⟨z,its,n,r,hl,e⟩:=I.yR hH
 have hj:j<its.length:=by rw [<- r.length];exact (List.getElem?_eq_some_iff.mp hz1).1
 have hs:its.length<=sizeLine:=by rw [<- r.length];exact z
 have at_:∀ i (hi:i<its.length) w,xs[i]?=some w->ml y its[i]=mn w y:=λi hi w hw=>by
  obtain⟨u',e1,e2⟩:=r.get hw
  rw [List.getElem?_eq_getElem hi] at e1
  cases e1
  exact qD e2 (A5 fx hw)
 refine call_meets F.slot_list_index ⟨_,e,rfl⟩ F.entry_list_index (F.args_list_index_2 _ _) (SeqAt.list_indexAt l its.toArray n none #[] u (ml y) j (by simpa using hj) (by rw [sizeLine_eq] at hs;omega) ?_ ?_) ⟨e,λw hw=>dX ru fy r fx w (by simpa using hw),⟨.int j,H,I.tok _,⟨_,rfl⟩,q⟩⟩
 ·show ml y its[j]=true
  rw [at_ j hj z1 hz1]
  exact hz2
 ·intro i hi hlt
  have hi':i<its.length:=by simpa using hi
  show ml y its[i]=false
  have hx:i<xs.length:=by rw [r.length];exact hi'
  rw [at_ i hi' _ (List.getElem?_eq_getElem hx)]
  exact no i _ hlt (List.getElem?_eq_getElem hx)
structure i6 (k:Nat) (A:Around):Prop where
 dp:A.depth+3*k+5<recursionLimit
 un:A.units+16*k+200<cLine
theorem i6.mono {j k:Nat} {A:Around} (r:i6 k A) (h:j<=k):i6 j A:=⟨by have:=r.dp;omega,by have:=r.un;omega⟩
theorem i6.deeper {k:Nat} {A:Around} (r:i6 (k+1) A) (env:Env):i6 k (A.deeper env) :=
 ⟨by have:=r.dp;show A.depth+1+3*k+5<_;omega,by have:=r.un;show A.units+3+16*k+200<_;omega⟩
theorem i6.units {k:Nat} {A:Around} (r:i6 k A):A.units+64<cLine:=by have:=r.un;omega
section
variable {CX:jq} {P:Program} {w:World} {K:PySem.W.Frag} {mg:Str->Option Value} {base:Heap} {k:Nat} {f:Addr} {fd:FuncData} {N ps:List Str} {sp:Sp}
end
end L2
namespace Num
theorem kj {p:Int} (hp:2<=p):∀{k l:Nat} {R T:Int},¬p∣R->¬p∣T->p^k*R=p^l*T->k=l/\R=T
 | 0,0,R,T,_,_,e=>by rw [Int.pow_zero,Int.one_mul,Int.one_mul] at e;exact⟨rfl,e⟩
 | 0,l+1,R,T,h,_,e=>by
  rw [Int.pow_zero,Int.one_mul,Int.pow_succ,Int.mul_comm (p^l),Int.mul_assoc] at e
  exact absurd ⟨_,e⟩ h
 | k+1,0,R,T,_,h,e=>by
  rw [Int.pow_zero,Int.one_mul,Int.pow_succ,Int.mul_comm (p^k),Int.mul_assoc] at e
  exact absurd ⟨_,e.symm⟩ h
 | k+1,l+1,R,T,h,h',e=>by
  rw [Int.pow_succ,Int.pow_succ,Int.mul_comm (p^k),Int.mul_comm (p^l),Int.mul_assoc,Int.mul_assoc] at e
  obtain⟨e1,e2⟩:=kj hp h h' (Int.eq_of_mul_eq_mul_left (by omega) e)
  exact⟨by rw [e1],e2⟩
theorem Part.tail {n:Int} {x:Int × Int} {r:List (Int × Int)} (h:Part n (x::r)):Part (cE r) r:=⟨λp hp=>h.ok p (List.mem_cons_of_mem _ hp),(List.pairwise_cons.mp h.rise).2,rfl⟩
theorem Part.nd {n:Int} {x:Int × Int} {r:List (Int × Int)} (h:Part n (x::r)):¬x.1∣cE r:=λz=>by
 obtain⟨y,hy,e⟩:=gW (h.ok x (List.mem_cons_self ..)).1 (λp hp=>(h.ok p (List.mem_cons_of_mem _ hp)).1) z
 have:=(List.pairwise_cons.mp h.rise).1 y hy
 omega
theorem Part.hd {n:Int} {x:Int × Int} {r:List (Int × Int)} (h:Part n (x::r)) {q:Int} (hq:Pm q) (hd:q∣n):x.1<=q:=by
 obtain⟨y,hy,e⟩:=gW hq (λp hp=>(h.ok p hp).1) (h.prod▸hd)
 rcases List.mem_cons.mp hy with rfl | hy
 ·omega
 ·have:=(List.pairwise_cons.mp h.rise).1 y hy
  omega
theorem Part.dv {n:Int} {ps:List (Int × Int)} (h:Part n ps) {x:Int × Int} (hx:x∈ps):x.1∣n:=h.prod▸fc hx (h.ok x hx).2.1
theorem Part.one:∀{ps qs:List (Int × Int)} {n:Int},Part n ps->Part n qs->ps=qs
 | [],[],_,_,_=>rfl
 | [],y::t,n,h,h'=>by
  exfalso
  have e:n=1:=h.prod.symm
  have:=(h'.ok y (List.mem_cons_self ..)).1.two
  have:=Int.le_of_dvd (by decide) (e▸h'.dv (List.mem_cons_self ..))
  omega
 | x::r,[],n,h,h'=>by
  exfalso
  have e:n=1:=h'.prod.symm
  have:=(h.ok x (List.mem_cons_self ..)).1.two
  have:=Int.le_of_dvd (by decide) (e▸h.dv (List.mem_cons_self ..))
  omega
 | (p,k)::r,(q,l)::t,n,h,h'=>by
  have hp:=h.ok _ (List.mem_cons_self ..)
  have hq:=h'.ok _ (List.mem_cons_self ..)
  have e1:p<=q:=h.hd hq.1 (h'.dv (List.mem_cons_self ..))
  have e2:q<=p:=h'.hd hp.1 (h.dv (List.mem_cons_self ..))
  obtain rfl:p=q:=by omega
  obtain⟨a,b⟩:=kj hp.1.two h.nd h'.nd (h.prod.trans h'.prod.symm)
  have:k=l:=by have:=hp.2.1;have:=hq.2.1;simp only at *;omega
  subst this
  rw [Part.one h.tail (b▸h'.tail)]
def CS:List (Int × Int)->Int
 | []=>1
 | x::r=>x.1^(x.2.toNat-1)*(x.1-1)*CS r
theorem lM:∀{ps:List (Int × Int)},(∀ p∈ps,Pm p.1)->0<cE ps
 | [],_=>by decide
 | x::r,h=>Int.mul_pos (bz (by have:=(h x (List.mem_cons_self ..)).two;omega) _) (lM λp hp=>h p (List.mem_cons_of_mem _ hp))
theorem Part.pos {n:Int} {ps:List (Int × Int)} (h:Part n ps):0<n:=h.prod▸lM λp hp=>(h.ok p hp).1
structure Dv (A:Int) (F:List (List (Int × Int))):Prop where
 part:∀ s∈F,Part (cE s) s
 nodup:(F.map cE).Nodup
 mem:∀ d,d∈F.map cE↔0<d/\d∣A
 sum:(F.map CS).sum=A
theorem Dv.start:Dv 1 [[]]:=⟨λs hs=>by rw [List.mem_singleton.mp hs];exact⟨λ_ z=>by simp at z,List.Pairwise.nil,rfl⟩,by simp,λd=>by
  show d∈[1]↔_
  rw [List.mem_singleton]
  exact⟨λe=>by rw [e];exact⟨by decide,Int.dvd_refl _⟩,fun⟨a,b⟩=>by have:=Int.le_of_dvd (by decide) b;omega⟩,rfl⟩
structure Ds (n:Int) (ds:List Int):Prop where
 rise:ds.Pairwise (·<·)
 mem:∀ d,d∈ds↔0<d/\d∣n
theorem jS (p:Int->Bool):∀ l:List Int,l.length=(l.filter p).length+(l.filter (λd=>!p d)).length
 | []=>rfl
 | x::l=>by
  have:=jS p l
  cases e:p x<;>simp [List.filter_cons,e]<;>omega
theorem yb {n:Int} (hn:n<=10^9) {l:List Int} (nd:l.Nodup) (h:∀ d∈l,0<d/\d∣n) (n0:0<n):l.length<=63246:=by
 have lo:(l.filter (λd=>decide (d<31623))).length<=31623:=by
  have:=mR 31623 ((l.filter (λd=>decide (d<31623))).map Int.toNat) ?_ ?_
  ·simpa using this
  ·refine List.pairwise_map.mpr ((nd.filter _).imp_of_mem λ{a b} ha hb ne e=>ne ?_)
   have h1:=h a (List.mem_filter.mp ha).1
   have h2:=h b (List.mem_filter.mp hb).1
   omega
  ·intro x hx
   obtain⟨d,hd,rfl⟩:=List.mem_map.mp hx
   have:=(List.mem_filter.mp hd).2
   simp at this
   omega
 have hi:(l.filter (λd=>!decide (d<31623))).length<=31623:=by
  have:=mR 31623 ((l.filter (λd=>!decide (d<31623))).map λd=>(n/d).toNat) ?_ ?_
  ·simpa using this
  ·refine List.pairwise_map.mpr ((nd.filter _).imp_of_mem λ{a b} ha hb ne e=>ne ?_)
   have h1:=h a (List.mem_filter.mp ha).1
   have h2:=h b (List.mem_filter.mp hb).1
   obtain⟨c,hc⟩:=h1.2
   obtain⟨c',hc'⟩:=h2.2
   have e1:n/a=c:=by rw [hc];exact Int.mul_ediv_cancel_left _ (by omega)
   have e2:n/b=c':=by rw [hc'];exact Int.mul_ediv_cancel_left _ (by omega)
   rw [e1,e2] at e
   have c0:0<c:=by
    rcases (by omega:c<=0∨0<c) with z | z
    ·have:=Int.mul_nonpos_of_nonneg_of_nonpos (show 0<=a by omega) z
     omega
    ·exact z
   have c0':0<c':=by
    rcases (by omega:c'<=0∨0<c') with z | z
    ·have:=Int.mul_nonpos_of_nonneg_of_nonpos (show 0<=b by omega) z
     omega
    ·exact z
   obtain rfl:c=c':=by omega
   exact Int.eq_of_mul_eq_mul_right (by omega) (hc.symm.trans hc')
  ·intro x hx
   obtain⟨d,hd,rfl⟩:=List.mem_map.mp hx
   have h1:=(List.mem_filter.mp hd).2
   simp at h1
   have h2:n/d<=n/31623:=by
    refine Int.le_ediv_of_mul_le (by decide) ?_
    have:=Int.ediv_mul_le n (show d≠0 by omega)
    have:=Int.mul_le_mul_of_nonneg_left h1 (Int.ediv_nonneg (show 0<=n by omega) (show 0<=d by omega))
    omega
   have:n/31623<31623:=Int.ediv_lt_of_lt_mul (by decide) (by omega)
   omega
 have:=jS (λd:Int=>decide (d<31623)) l
 omega
def ins (x:Int × Int):List (Int × Int)->List (Int × Int)
 | []=>[x]
 | y::r=>if x.1<y.1 then x::y::r else y::ins x r
end Num
namespace Tim
open PySem PyProof.Rows
abbrev kk (x:Keyed):Int:=numOf x.1
def uP (x:Keyed):Prop:=∃ n t,x.1=.int n t
def dJ (xs:Array Keyed):Prop:=∀ p∈xs.toList,uP p
theorem dJ.at {xs:Array Keyed} (h:dJ xs) {i:Nat} (hi:i<xs.size):uP xs[i]:=h _ (by simp)
section
variable {prog:Program} {w:World} {A:Around} {E:Value->Shared->Prop} {s:Shared} {a₀:Array Keyed}
theorem mI {st:SortSt} {x y:Keyed} {Q:Option Bool->SortSt->Prop} (hk:kindOf st=oneType') (hx:uP x) (hy:uP y) (h:Q (some (decide (kk x<kk y))) st) :
  wpS (model prog w) A E s (lt' x y) Q st:=by
 obtain⟨n,t,e⟩:=hx
 obtain⟨m,u,e'⟩:=hy
 unfold kk at h
 rw [e,e'] at h
 rw [lt'_eq]
 refine wpS_bind (wpS_get ?_)
 rw [hk,keyLt'_oneType,e,e']
 exact wpS_bind (wpS_lift (wpAny_attempt (oneLt_int ⟨rfl,wpS_pure h⟩)))
theorem el {st:SortSt} {xs:Array Keyed} {i:Nat} {Q:Keyed->SortSt->Prop} (hi:i<xs.size) (h:Q xs[i] st) :
  wpS (model prog w) A E s (elem' xs i) Q st:=by
 rw [elem'_eq,getElem?_pos xs i hi]
 exact wpS_pure h
def mB:Bool->Keyed->Array Keyed->Nat->Nat->Nat->StateT SortSt Sem (Option Nat):=sortPriv% PySem.Builtin.gallop
def iE (left:Bool) (v:Int) (xs:Array Keyed) (i:Nat):Prop:=if left=true then K xs i<v else K xs i<=v
instance (left:Bool) (v:Int) (xs:Array Keyed) (i:Nat):Decidable (iE left v xs i):=by unfold iE;infer_instance
theorem iE.mono {left:Bool} {v:Int} {xs:Array Keyed} {i j:Nat} (h:iE left v xs j) (le:K xs i<=K xs j):iE left v xs i:=by
 unfold iE at *
 split at h<;>rename_i c<;>simp only [c,if_true,if_false,Bool.false_eq_true]<;>omega
def Up (xs:Array Keyed) (lo hi:Nat):Prop:=∀ i j,lo<=i->i<=j->j<hi->K xs i<=K xs j
theorem beyond {st:SortSt} {left:Bool} {key:Keyed} {xs:Array Keyed} {i:Nat} {Q:Option Bool->SortSt->Prop} (hk:kindOf st=oneType') (hn:dJ xs) (hy:uP key)
  (hi:i<xs.size) (h:Q (some (decide (iE left (kk key) xs i))) st) :
  wpS (model prog w) A E s (do let x <- elem' xs i;if left=true then lt' x key else do let r <- lt' key x;pure (Option.map (λb=>!b) r)) Q st:=by
 have hx:=hn.at hi
 have e:K xs i=kk xs[i]:=K_eq hi
 refine wpS_bind (el hi ?_)
 cases left with
 | true =>
  rw [if_pos rfl]
  refine mI hk hx hy ?_
  unfold iE at h
  simpa [e] using h
 | false =>
  rw [if_neg (by simp)]
  refine wpS_bind (mI hk hy hx (wpS_pure ?_))
  unfold iE at h
  simp only [Bool.false_eq_true,if_false,e] at h
  have:(Option.map (λb=>!b) (some (decide (kk key<kk xs[i]))))=some (decide (kk xs[i]<=kk key)):=by
   simp only [Option.map_some,Option.some.injEq]
   by_cases c:kk key<kk xs[i]
   ·rw [decide_eq_true c,decide_eq_false (by omega)];rfl
   ·rw [decide_eq_false c,decide_eq_true (by omega)];rfl
  rw [this]
  exact h
theorem DV {st:SortSt} {left:Bool} {key:Keyed} {xs:Array Keyed} {base n hint:Nat} {Q:Option Nat->SortSt->Prop} (hk:kindOf st=oneType') (hn:dJ xs) (hy:uP key)
  (hb:base+n<=xs.size) (hh:hint<n) (up:Up xs base (base+n))
  (q:∀ k,k<=n->(∀ i,i<k->iE left (kk key) xs (base+i))->(∀ i,k<=i->i<n->¬iE left (kk key) xs (base+i))->Q (some k) st) :
  wpS (model prog w) A E s (mB left key xs base n hint) Q st:=by
 have mono:∀ i j,i<=j->j<n->iE left (kk key) xs (base+j)->iE left (kk key) xs (base+i):=λi j a b c=>c.mono (up _ _ (by omega) (by omega) (by omega))
 generalize hB:(λi=>iE left (kk key) xs (base+i))=B at mono q
 have hBd:∀ i,iE left (kk key) xs (base+i)=B i:=λi=>by rw [<- hB]
 simp only [hBd] at mono q
 have bey:∀{i:Nat} {Q:Option Bool->SortSt->Prop},i<n->(B i->Q (some true) st)->(¬B i->Q (some false) st)->wpS (model prog w) A E s (do let x <- elem' xs (base+i);if left=true then lt' x key else do let r <- lt' key x;pure (Option.map (λb=>!b) r)) Q st:=by
  intro i Q hi h1 h2
  refine beyond hk hn hy (by omega) ?_
  by_cases c:B i
  ·rw [decide_eq_true (by rw [hBd];exact c)];exact h1 c
  ·rw [decide_eq_false (by rw [hBd];exact c)];exact h2 c
 have last:∀(lo hi:Nat) (f:Nat->Option (Option Nat) × Nat × Nat->StateT SortSt Sem (ForInStep (Option (Option Nat) × Nat × Nat))) (g:Option (Option Nat) × Nat × Nat->StateT SortSt Sem (Option Nat)),lo<=hi->hi<=n->(∀ i,i<lo->B i)->(∀ i,hi<=i->i<n->¬B i) ->
   (∀ x l h Q',(l≥h->Q' (ForInStep.done (none,l,h)) st)->(l<h->h<=n->B (l+(h-l)/2)->Q' (ForInStep.yield (none,l+(h-l)/2+1,h)) st)->(l<h->h<=n->¬B (l+(h-l)/2)->Q' (ForInStep.yield (none,l,l+(h-l)/2)) st)->h<=n->wpS (model prog w) A E s (f x (none,l,h)) Q' st) ->
   (∀ k,Q (some k) st->wpS (model prog w) A E s (g (none,k,k)) Q st) ->
   wpS (model prog w) A E s (forIn [:n] ((none,lo,hi):Option (Option Nat) × Nat × Nat) f >>= g) Q st:=by
  intro lo hi f g h1 h2 h3 h4 hf hg
  refine wpS_bind (wpS_mono (wpS_forRange (I:=λx c st'=>st'=st/\∃ l h,c=(none,l,h)/\l<=h/\h<=n/\h-l<=n-x/\(∀ i,i<l->B i)/\(∀ i,h<=i->i<n->¬B i))
   (Q:=λc st'=>st'=st/\∃ l,c=(none,l,l)/\l<=n/\(∀ i,i<l->B i)/\(∀ i,l<=i->i<n->¬B i)) ?step ?fin ⟨rfl,lo,hi,rfl,h1,h2,by omega,h3,h4⟩) ?post)
  case post =>
   rintro c st' ⟨rfl,l,rfl,a,b,d⟩
   exact hg _ (q l a b d)
  case fin =>
   rintro c st' ⟨rfl,l,h,rfl,a,b,d,e,f⟩
   have:l=h:=by omega
   subst this
   exact⟨rfl,l,rfl,b,e,f⟩
  case step =>
   rintro x c st' _ _ ⟨rfl,l,h,rfl,a,b,d,e,f⟩
   refine hf x l h _ (λg=>?_) (λg g' c=>?_) (λg g' c=>?_) b
   ·have:l=h:=by omega
    subst this
    exact⟨rfl,l,rfl,b,e,f⟩
   ·exact⟨rfl,_,_,rfl,by omega,b,by omega,λi hi=>mono i _ (by omega) (by omega) c,f⟩
   ·exact⟨rfl,_,_,rfl,by omega,by omega,by omega,e,λi h1 h2 bi=>c (mono _ i h1 h2 bi)⟩
 unfold mB
 refine wpS_bind (bey hh (λc0=>?_) λc0=>?_)
 ·dsimp only
  rw [if_pos rfl]
  refine wpS_bind (wpS_mono (wpS_forRange (I:=λx c st'=>st'=st/\∃ l o,c=(none,l,o)/\x+1<=o/\l<o/\hint+l<n/\B (hint+l))
   (Q:=λc st'=>st'=st/\∃ l o,c=(none,l,o)/\l<o/\hint+l<n/\B (hint+l)/\(hint+o<n->¬B (hint+o))) ?step ?fin ⟨rfl,0,1,rfl,by omega,by omega,by omega,c0⟩) ?post)
  case post =>
   rintro c st' ⟨rfl,l,o,rfl,a,b,d,e⟩
   refine last (hint+l+1) (hint+min o (n-hint)) _ _ (by omega) (by omega) (λi hi=>mono i _ (by omega) b d) (λi h1 h2 bi=>?_) ?_ ?_
   ·exact e (by omega) (mono (hint+o) i (by omega) h2 bi)
   ·intro x l h Q' q1 q2 q3 hh'
    dsimp only
    by_cases g:l≥h
    ·rw [if_pos g]
     exact wpS_pure (q1 g)
    ·rw [if_neg g]
     refine wpS_bind (bey (by omega) (λc=>?_) λc=>?_)
     ·exact wpS_pure (q2 (by omega) hh' c)
     ·exact wpS_pure (q3 (by omega) hh' c)
   ·exact λk hk=>wpS_pure hk
  case fin =>
   rintro c st' ⟨rfl,l,o,rfl,a,b,d,e⟩
   exact⟨rfl,l,o,rfl,b,d,e,λ_=>by omega⟩
  case step =>
   rintro x c st' _ _ ⟨rfl,l,o,rfl,a,b,d,e⟩
   dsimp only
   by_cases g:o≥n-hint
   ·rw [if_pos g]
    exact wpS_pure ⟨rfl,l,o,rfl,b,d,e,λ_=>by omega⟩
   ·rw [if_neg g]
    refine wpS_bind (bey (by omega) (λc=>?_) λc=>?_)
    ·exact wpS_pure ⟨rfl,o,2*o+1,rfl,by omega,by omega,by omega,c⟩
    ·exact wpS_pure ⟨rfl,l,o,rfl,b,d,e,λ_=>c⟩
 ·dsimp only
  rw [if_neg (by simp)]
  refine wpS_bind (wpS_mono (wpS_forRange (I:=λx c st'=>st'=st/\∃ l o,c=(none,l,o)/\x+1<=o/\l<o/\l<=hint/\¬B (hint-l))
   (Q:=λc st'=>st'=st/\∃ l o,c=(none,l,o)/\l<o/\l<=hint/\¬B (hint-l)/\(o<=hint->B (hint-o))) ?step ?fin ⟨rfl,0,1,rfl,by omega,by omega,by omega,c0⟩) ?post)
  case post =>
   rintro c st' ⟨rfl,l,o,rfl,a,b,d,e⟩
   refine last (hint+1-min o (hint+1)) (hint-l) _ _ (by omega) (by omega) (λi hi=>mono i (hint-o) (by omega) (by omega) (e (by omega))) (λi h1 h2 bi=>?_) ?_ ?_
   ·exact d (mono _ i (by omega) h2 bi)
   ·intro x l h Q' q1 q2 q3 hh'
    dsimp only
    by_cases g:l≥h
    ·rw [if_pos g]
     exact wpS_pure (q1 g)
    ·rw [if_neg g]
     refine wpS_bind (bey (by omega) (λc=>?_) λc=>?_)
     ·exact wpS_pure (q2 (by omega) hh' c)
     ·exact wpS_pure (q3 (by omega) hh' c)
   ·exact λk hk=>wpS_pure hk
  case fin =>
   rintro c st' ⟨rfl,l,o,rfl,a,b,d,e⟩
   exact⟨rfl,l,o,rfl,b,d,e,λ_=>by omega⟩
  case step =>
   rintro x c st' _ _ ⟨rfl,l,o,rfl,a,b,d,e⟩
   dsimp only
   by_cases g:o≥hint+1
   ·rw [if_pos g]
    exact wpS_pure ⟨rfl,l,o,rfl,b,d,e,λ_=>by omega⟩
   ·rw [if_neg g]
    refine wpS_bind (bey (by omega) (λc=>?_) λc=>?_)
    ·exact wpS_pure ⟨rfl,l,o,rfl,b,d,e,λ_=>c⟩
    ·exact wpS_pure ⟨rfl,o,2*o+1,rfl,by omega,by omega,by omega,c⟩
end
end Tim
namespace Tim
open PySem PyProof.Rows
def R (x y:Keyed):Prop:=kk x<=kk y
abbrev eT (l:List Keyed):Prop:=l.Pairwise R
structure Mg (o X Y T:List Keyed):Prop where
 sx:eT (o++X)
 sy:eT (o++Y)
 pm:(o++(X++Y)).Perm T
theorem Mg.swap {o X Y T:List Keyed} (h:Mg o X Y T):Mg o Y X T:=⟨h.sy,h.sx,(List.perm_append_comm.append_left o).trans h.pm⟩
theorem Mg.left {o X1 X2 Y T:List Keyed} (h:Mg o (X1++X2) Y T) (c:∀ x∈X1,∀ y∈Y,R x y):Mg (o++X1) X2 Y T:=by
 refine⟨by rw [List.append_assoc];exact h.sx,?_,by have:=h.pm;simpa only [List.append_assoc] using this⟩
 have h1:=List.pairwise_append.mp h.sx
 have h2:=List.pairwise_append.mp h.sy
 have h3:=List.pairwise_append.mp h1.2.1
 rw [List.append_assoc]
 refine List.pairwise_append.mpr ⟨h1.1,List.pairwise_append.mpr ⟨h3.1,h2.2.1,c⟩,λa ha b hb=>?_⟩
 rcases List.mem_append.mp hb with hb | hb
 ·exact h1.2.2 a ha b (List.mem_append_left _ hb)
 ·exact h2.2.2 a ha b hb
theorem Mg.right {o X Y1 Y2 T:List Keyed} (h:Mg o X (Y1++Y2) T) (c:∀ y∈Y1,∀ x∈X,R y x):Mg (o++Y1) X Y2 T:=(h.swap.left c).swap
def Out (z T:List Keyed):Prop:=eT z/\z.Perm T
theorem Mg.vD {o X T:List Keyed} (h:Mg o X [] T):Out (o++X) T:=⟨h.sx,by have:=h.pm;rwa [List.append_nil] at this⟩
theorem Mg.yy {o Y T:List Keyed} (h:Mg o [] Y T):Out (o++Y) T:=⟨h.sy,by have:=h.pm;rwa [List.nil_append] at this⟩
theorem Mg.CG {o Y T:List Keyed} {x:Keyed} (h:Mg o [x] Y T) (c:∀ y∈Y,R y x):Out (o++Y++[x]) T :=
 (Mg.right (Y1:=Y) (Y2:=[]) (by rwa [List.append_nil]) λy hy z hz=>by rw [List.mem_singleton.mp hz];exact c y hy).vD
structure Mh (o X Y T:List Keyed):Prop where
 sx:eT (X++o)
 sy:eT (Y++o)
 pm:((X++Y)++o).Perm T
theorem Mh.swap {o X Y T:List Keyed} (h:Mh o X Y T):Mh o Y X T:=⟨h.sy,h.sx,(List.perm_append_comm.append_right o).trans h.pm⟩
theorem Mh.left {o X1 X2 Y T:List Keyed} (h:Mh o (X1++X2) Y T) (c:∀ y∈Y,∀ x∈X2,R y x):Mh (X2++o) X1 Y T:=by
 refine⟨by rw [<- List.append_assoc];exact h.sx,?_,?_⟩
 ·have h1:=List.pairwise_append.mp h.sx
  have h2:=List.pairwise_append.mp h.sy
  have h3:=List.pairwise_append.mp h1.1
  refine List.pairwise_append.mpr ⟨h2.1,List.pairwise_append.mpr ⟨h3.2.1,h1.2.1,λa ha b hb=>h1.2.2 a (List.mem_append_right _ ha) b hb⟩,λa ha b hb=>?_⟩
  rcases List.mem_append.mp hb with hb | hb
  ·exact c a ha b hb
  ·exact h2.2.2 a ha b hb
 ·refine List.Perm.trans ?_ h.pm
  rw [<- List.append_assoc]
  refine List.Perm.append_right o ?_
  rw [List.append_assoc,List.append_assoc]
  exact List.perm_append_comm.append_left X1
theorem Mh.right {o X Y1 Y2 T:List Keyed} (h:Mh o X (Y1++Y2) T) (c:∀ x∈X,∀ y∈Y2,R x y):Mh (Y2++o) X Y1 T:=(h.swap.left c).swap
theorem Mh.vD {o X T:List Keyed} (h:Mh o X [] T):Out (X++o) T:=⟨h.sx,by have:=h.pm;rwa [List.append_nil] at this⟩
theorem Mh.yy {o Y T:List Keyed} (h:Mh o [] Y T):Out (Y++o) T:=h.swap.vD
theorem Mh.CH {o X T:List Keyed} {y:Keyed} (h:Mh o X [y] T) (c:∀ x∈X,R y x):Out ([y]++X++o) T:=by
 have:=(Mh.left (X1:=[]) (X2:=X) h λz hz x hx=>by rw [List.mem_singleton.mp hz];exact c x hx).yy
 rwa [<- List.append_assoc] at this
theorem ext_toList (xs:Array Keyed) (a b:Nat):(xs.extract a b).toList=(xs.toList.drop a).take (b-a):=by simp [Array.toList_extract,List.extract_eq_take_drop]
theorem drop_cons {xs:Array Keyed} {i:Nat} (h:i<xs.size):xs.toList.drop i=xs[i]::xs.toList.drop (i+1):=by
 have h':i<xs.toList.length:=by simpa using h
 rw [List.drop_eq_getElem_cons h']
 simp
theorem eK {xs:Array Keyed} {i:Nat} (h:i<xs.size):xs.toList.take (i+1)=xs.toList.take i++[xs[i]]:=by
 have h':i<xs.toList.length:=by simpa using h
 rw [List.take_succ_eq_append_getElem h']
 simp
theorem cV {xs:Array Keyed} {a k:Nat} {x:Keyed} (h:x∈(xs.toList.drop a).take k):∃ i,∃(hi:a+i<xs.size),i<k/\x=xs[a+i]:=by
 obtain⟨i,hi,e⟩:=List.getElem_of_mem h
 have h1:i<k:=by have:=hi;rw [List.length_take] at this;omega
 have h2:a+i<xs.size:=by rw [List.length_take,List.length_drop] at hi;simp at hi;omega
 refine⟨i,h2,h1,?_⟩
 rw [<- e,List.getElem_take,List.getElem_drop]
 simp
theorem lI {xs:Array Keyed} {a:Nat} {x:Keyed} (h:x∈xs.toList.take a):∃ i,∃(hi:i<xs.size),i<a/\x=xs[i]:=by
 obtain⟨i,hi,h1,e⟩:=cV (xs:=xs) (a:=0) (k:=a) (by simpa using h)
 exact⟨i,by omega,h1,by simpa using e⟩
theorem fX {xs:Array Keyed} {a n:Nat} (hn:a+n<=xs.size) (h:eT ((xs.toList.drop a).take n)):Up xs a (a+n):=by
 intro i j h1 h2 h3
 rw [K_eq (by omega),K_eq (by omega)]
 by_cases e:i=j
 ·subst e;exact Int.le_refl _
 ·have hl:((xs.toList.drop a).take n).length=n:=by simp;omega
  have:=List.pairwise_iff_getElem.mp h (i-a) (j-a) (by omega) (by omega) (by omega)
  unfold R kk at this
  simp only [List.getElem_take,List.getElem_drop,Array.getElem_toList] at this
  simpa only [show a+(i-a)=i by omega,show a+(j-a)=j by omega] using this
theorem uK {xs:Array Keyed} {a n:Nat} (h:Up xs a (a+n)):eT ((xs.toList.drop a).take n):=by
 refine List.pairwise_iff_getElem.mpr λi j hi hj hij=>?_
 have h1:j<n:=by rw [List.length_take] at hj;omega
 have h2:a+j<xs.size:=by rw [List.length_take,List.length_drop] at hj;simp at hj;omega
 have:=h (a+i) (a+j) (by omega) (by omega) (by omega)
 rw [K_eq (by omega),K_eq h2] at this
 unfold R kk
 simpa only [List.getElem_take,List.getElem_drop,Array.getElem_toList] using this
theorem pU {xs:Array Keyed} {a:Nat} (ha:a<=xs.size) (h:eT (xs.toList.drop a)):Up xs a (a+(xs.size-a)):=by
 refine fX (by omega) ?_
 rw [List.take_of_length_le (by simp)]
 exact h
theorem pV {xs:Array Keyed} {a:Nat} (ha:a<=xs.size) (h:eT (xs.toList.take a)):Up xs 0 (0+a):=fX (by omega) (by simpa using h)
theorem jN {xs:Array Keyed} {i:Nat} (h:i<xs.size):K xs i=kk xs[i]:=K_eq h
end Tim
namespace Tim
open PySem PyProof.Rows
def oF:Array Keyed->Array Keyed->StateT SortSt Sem (Array Keyed):=sortPriv% PySem.Builtin.mergeLo
def oB:Array Keyed->Array Keyed->StateT SortSt Sem (Array Keyed):=sortPriv% PySem.Builtin.mergeHi
structure Sm (st st':SortSt):Prop where
 kind:kindOf st'=kindOf st
 arr:arrOf st'=arrOf st
 pend:pendingOf st'=pendingOf st
 failed:failedOf st'=failedOf st
theorem Sm.refl (st:SortSt):Sm st st:=⟨rfl,rfl,rfl,rfl⟩
theorem Sm.trans {a b c:SortSt} (h:Sm a b) (g:Sm b c):Sm a c:=⟨g.kind.trans h.kind,g.arr.trans h.arr,g.pend.trans h.pend,g.failed.trans h.failed⟩
def m7:Nat->StateT SortSt Sem Unit:=sortPriv% PySem.Builtin.setMinGallop
section
variable {prog:Program} {w:World} {A:Around} {E:Value->Shared->Prop} {s:Shared} {xs ys:Array Keyed}
theorem BP {st:SortSt} {g:Nat} {Q:Unit->SortSt->Prop} (q:∀ st',Sm st st'->Q () st'):wpS (model prog w) A E s (m7 g) Q st:=by
 unfold m7
 exact wpS_modify (q _ ⟨rfl,rfl,rfl,rfl⟩)
def J (xs ys out:Array Keyed) (ia ib:Nat):Prop:=Mg out.toList (xs.toList.drop ia) (ys.toList.drop ib) (xs.toList++ys.toList)
theorem jG {zs:Array Keyed} {i:Nat} (hi:i<zs.size) (h:eT (zs.toList.drop i)) {x:Keyed} (hx:x∈zs.toList.drop i):R zs[i] x:=by
 rw [drop_cons hi] at h hx
 rcases List.mem_cons.mp hx with rfl | hx
 ·exact Int.le_refl _
 ·exact (List.pairwise_cons.mp h).1 x hx
theorem J.sX {out:Array Keyed} {ia ib:Nat} (h:J xs ys out ia ib):eT (xs.toList.drop ia):=(List.pairwise_append.mp h.sx).2.1
theorem J.sY {out:Array Keyed} {ia ib:Nat} (h:J xs ys out ia ib):eT (ys.toList.drop ib):=(List.pairwise_append.mp h.sy).2.1
theorem J.lO {out:Array Keyed} {ia ib:Nat} (h:J xs ys out ia ib) (hb:ib<ys.size) (ha:ia<xs.size) (c:R ys[ib] xs[ia]):J xs ys (out.push ys[ib]) ia (ib+1):=by
 have sX:=h.sX
 unfold J at *
 rw [Array.toList_push]
 refine Mg.right (Y1:=[ys[ib]]) (by rw [List.singleton_append,<- drop_cons hb];exact h) λy hy x hx=>?_
 rw [List.mem_singleton.mp hy]
 exact Int.le_trans c (jG ha sX hx)
theorem J.lN {out:Array Keyed} {ia ib:Nat} (h:J xs ys out ia ib) (hb:ib<ys.size) (ha:ia<xs.size) (c:R xs[ia] ys[ib]):J xs ys (out.push xs[ia]) (ia+1) ib:=by
 have sY:=h.sY
 unfold J at *
 rw [Array.toList_push]
 refine Mg.left (X1:=[xs[ia]]) (by rw [List.singleton_append,<- drop_cons ha];exact h) λy hy x hx=>?_
 rw [List.mem_singleton.mp hy]
 exact Int.le_trans c (jG hb sY hx)
theorem J.xU {out:Array Keyed} {ia ib k:Nat} (h:J xs ys out ia ib) (hb:ib<ys.size) (c:∀ i,i<k->K xs (ia+i)<=kk ys[ib]):J xs ys (out++xs.extract ia (ia+k)) (ia+k) ib:=by
 have sY:=h.sY
 unfold J at *
 rw [Array.toList_append,ext_toList,show ia+k-ia=k by omega]
 refine Mg.left (by rw [<- List.drop_drop,List.take_append_drop];exact h) λx hx y hy=>?_
 obtain⟨i,hi,h1,rfl⟩:=cV hx
 have:=c i h1
 rw [jN hi] at this
 exact Int.le_trans this (jG hb sY hy)
theorem J.xV {out:Array Keyed} {ia ib k:Nat} (h:J xs ys out ia ib) (ha:ia<xs.size) (c:∀ i,i<k->K ys (ib+i)<kk xs[ia]):J xs ys (out++ys.extract ib (ib+k)) ia (ib+k):=by
 have sX:=h.sX
 unfold J at *
 rw [Array.toList_append,ext_toList,show ib+k-ib=k by omega]
 refine Mg.right (by rw [<- List.drop_drop,List.take_append_drop];exact h) λx hx y hy=>?_
 obtain⟨i,hi,h1,rfl⟩:=cV hx
 have:=c i h1
 rw [jN hi] at this
 exact Int.le_trans (Int.le_of_lt this) (jG ha sX hy)
def jr (xs ys z:Array Keyed):Prop:=Out z.toList (xs.toList++ys.toList)
theorem jF (zs:Array Keyed) (a:Nat):(zs.extract a zs.size).toList=zs.toList.drop a:=by
 rw [ext_toList,List.take_of_length_le (by simp)]
theorem J.done {out:Array Keyed} {ia ib:Nat} (h:J xs ys out ia ib) (c:ib=ys.size∨ia=xs.size):jr xs ys (out++xs.extract ia xs.size++ys.extract ib ys.size):=by
 unfold J at h
 unfold jr
 rw [Array.toList_append,Array.toList_append,jF,jF]
 rcases c with rfl | rfl
 ·rw [List.drop_of_length_le (l:=ys.toList) (by simp)] at h ⊢
  rw [List.append_nil]
  exact h.vD
 ·rw [List.drop_of_length_le (l:=xs.toList) (by simp)] at h ⊢
  rw [List.append_nil]
  exact h.yy
theorem J.last {out:Array Keyed} {ia ib:Nat} (h:J xs ys out ia ib) (e:ia+1=xs.size) (l:∀ y∈ys.toList,∀ x,xs.toList.getLast?=some x->R y x):jr xs ys (out++ys.extract ib ys.size++xs.extract ia xs.size):=by
 unfold J at h
 unfold jr
 rw [Array.toList_append,Array.toList_append,jF,jF]
 have h1:xs.toList.drop ia=[xs[ia]]:=by
  rw [drop_cons (by omega),List.drop_of_length_le (by simp;omega)]
 rw [h1] at h ⊢
 refine h.CG λy hy=>l y (List.mem_of_mem_drop hy) _ ?_
 rw [List.getLast?_eq_getElem?]
 simp only [Array.length_toList,show xs.size-1=ia by omega]
 simp
section
variable {β:Type} {st:SortSt} {Q:β->SortSt->Prop}
theorem nA {zs:Array Keyed} {i:Nat} {f:Keyed->StateT SortSt Sem β} (hi:i<zs.size) (h:wpS (model prog w) A E s (f zs[i]) Q st):wpS (model prog w) A E s (elem' zs i >>= f) Q st:=wpS_bind (el hi h)
theorem yr {g:Nat} {f:Unit->StateT SortSt Sem β} (h:∀ st',Sm st st'->wpS (model prog w) A E s (f ()) Q st'):wpS (model prog w) A E s (m7 g >>= f) Q st:=wpS_bind (BP h)
theorem yq {left:Bool} {key:Keyed} {zs:Array Keyed} {base n hint:Nat} {f:Option Nat->StateT SortSt Sem β} (hk:kindOf st=oneType') (hn:dJ zs) (hy:uP key) (hb:base+n<=zs.size) (hh:hint<n) (up:Up zs base (base+n))
  (h:∀ k,k<=n->(∀ i,i<k->iE left (kk key) zs (base+i))->(∀ i,k<=i->i<n->¬iE left (kk key) zs (base+i))->wpS (model prog w) A E s (f (some k)) Q st):wpS (model prog w) A E s (mB left key zs base n hint >>= f) Q st:=wpS_bind (DV hk hn hy hb hh up h)
theorem El {x y:Keyed} {f:Option Bool->StateT SortSt Sem β} (hk:kindOf st=oneType') (hx:uP x) (hy:uP y) (h:wpS (model prog w) A E s (f (some (decide (kk x<kk y)))) Q st):wpS (model prog w) A E s (lt' x y >>= f) Q st:=wpS_bind (mI hk hx hy h)
theorem cZ {c:Prop} [Decidable c] {t e:StateT SortSt Sem β} (hc:c) (h:wpS (model prog w) A E s t Q st):wpS (model prog w) A E s (if c then t else e) Q st:=by rw [if_pos hc];exact h
theorem cY {c:Prop} [Decidable c] {t e:StateT SortSt Sem β} (hc:¬c) (h:wpS (model prog w) A E s e Q st):wpS (model prog w) A E s (if c then t else e) Q st:=by rw [if_neg hc];exact h
end
inductive Iv (xs ys:Array Keyed) (n:Nat) {ρ:Type}:Option (Array Keyed) × Array Keyed × Nat × Nat × ρ->Prop
 | mk {out ia ib r} (j:J xs ys out ia ib) (h1:ia+1<xs.size) (h2:ib<ys.size) (h3:n<=ia+ib):Iv xs ys n (none,out,ia,ib,r)
inductive AR (xs ys:Array Keyed) {ρ:Type}:Option (Array Keyed) × ρ->Prop
 | mk {z r} (o:jr xs ys z):AR xs ys (some z,r)
structure Hid (T:Prop):Prop where
 un:T
theorem tG {T G:Prop} (m:Hid T->G) (t:T):G:=m ⟨t⟩
theorem EZ {st:SortSt} {Q:Array Keyed->SortSt->Prop} (hk:kindOf st=oneType') (nX:dJ xs) (nY:dJ ys) (px:0<xs.size) (py:0<ys.size) (sx:eT xs.toList) (sy:eT ys.toList)
  (f:R ys[0] xs[0]) (l:∀ y∈ys.toList,∀ x,xs.toList.getLast?=some x->R y x)
  (q:∀ z st',Sm st st'->jr xs ys z->Q z st'):wpS (model prog w) A E s (oF xs ys) Q st:=by
 have J0:J xs ys #[] 0 0:=⟨by simpa using sx,by simpa using sy,by simp⟩
 have J1:J xs ys #[ys[0]] 0 1:=by simpa using J0.lO py px f
 unfold oF
 refine wpS_bind (wpS_lift (wpAny_rule ⟨rfl,?_⟩))
 dsimp only
 refine nA py ?_
 by_cases e1:1=ys.size
 ·refine cZ (by simpa using e1) ?_
  exact wpS_pure (q _ _ (Sm.refl _) (J1.done (.inl e1)))
 refine cY (by simpa using e1) ?_
 by_cases e2:0+1=xs.size
 ·refine cZ (by simpa using e2) ?_
  exact wpS_pure (q _ _ (Sm.refl _) (J1.last e2 l))
 refine cY (by simpa using e2) ?_
 refine wpS_bind (wpS_get ?_)
 refine wpS_bind (wpS_mono (wpS_forRange (I:=λx c st'=>Sm st st'/\Iv xs ys (x+1) c)
  (Q:=λc st'=>Sm st st'/\AR xs ys c) ?step ?fin ⟨Sm.refl _,.mk J1 (by omega) (by omega) (by omega)⟩) ?post)
 case post =>
  rintro c st' ⟨sm,⟨o⟩⟩
  exact wpS_pure (q _ st' sm o)
 case fin =>
  rintro c st' ⟨sm,⟨j,h1,h2,h3⟩⟩
  omega
 case step =>
  rintro x c st' _ hx ⟨sm,@⟨out,ia,ib,mg,j,h1,h2,h3⟩⟩
  dsimp only
  have hk':kindOf st'=oneType':=sm.kind.trans hk
  refine wpS_bind (wpS_mono (wpS_forRange (I:=λy c st2=>st2=st'/\Iv xs ys (x+1+y) c)
   (Q:=λc st2=>st2=st'/\(Iv xs ys (x+2) c∨AR xs ys c))
   ?istep ?ifin ⟨rfl,.mk j h1 h2 (by omega)⟩) ?ipost)
  case ifin =>
   rintro c st2 ⟨rfl,⟨j,h1,h2,h3⟩⟩
   omega
  case istep =>
   rintro y c st2 _ hy ⟨rfl,@⟨out,ia,ib,⟨ac,bc⟩,j,h1,h2,h3⟩⟩
   dsimp only
   refine nA h2 ?_
   refine nA (by omega) ?_
   refine El hk' (nY.at h2) (nX.at (by omega)) ?_
   by_cases c:kk ys[ib]<kk xs[ia]
   ·rw [decide_eq_true c]
    dsimp only
    refine cZ rfl ?_
    refine nA h2 ?_
    have j':=j.lO h2 (by omega) (Int.le_of_lt c)
    by_cases e:ib+1=ys.size
    ·refine cZ (by simpa using e) ?_
     exact wpS_pure ⟨rfl,.inr ⟨j'.done (.inl e)⟩⟩
    ·refine cY (by simpa using e) ?_
     split
     ·exact wpS_pure ⟨rfl,.inl ⟨j',h1,by omega,by omega⟩⟩
     ·exact wpS_pure ⟨rfl,⟨j',h1,by omega,by omega⟩⟩
   ·rw [decide_eq_false c]
    dsimp only
    refine cY (by simp) ?_
    refine nA (by omega) ?_
    have j':=j.lN h2 (by omega) (show R _ _ from Int.not_lt.mp c)
    by_cases e:ia+1+1=xs.size
    ·refine cZ (by simpa using e) ?_
     exact wpS_pure ⟨rfl,.inr ⟨j'.last e l⟩⟩
    ·refine cY (by simpa using e) ?_
     split
     ·exact wpS_pure ⟨rfl,.inl ⟨j',by omega,h2,by omega⟩⟩
     ·exact wpS_pure ⟨rfl,⟨j',by omega,h2,by omega⟩⟩
  case ipost =>
   rintro c st2 ⟨rfl,@⟨out,ia,ib,⟨ac,bc⟩,j,h1,h2,h3⟩ | @⟨z,r,o⟩⟩
   ·dsimp only
    refine wpS_bind (wpS_lift (wpAny_rule ⟨rfl,?_⟩))
    refine wpS_bind (wpS_mono (wpS_forRange (I:=λy c st3=>Sm st2 st3/\Iv xs ys (x+2+y) c)
     (Q:=λc st3=>Sm st2 st3/\(Iv xs ys (x+2) c∨AR xs ys c))
     ?gstep ?gfin ⟨Sm.refl _,.mk j h1 h2 (by omega)⟩) ?gpost)
    case gfin =>
     rintro c st3 ⟨sm3,⟨j,h1,h2,h3⟩⟩
     omega
    case gpost =>
     rintro c st3 ⟨sm3,@⟨out,ia,ib,⟨mg,ac,bc⟩,j,h1,h2,h3⟩ | @⟨z,r,o⟩⟩
     ·dsimp only
      refine yr λst4 sm4=>?_
      exact wpS_pure ⟨(sm.trans sm3).trans sm4,⟨j,h1,h2,by omega⟩⟩
     ·obtain⟨r1,r2,r3,r4,r5,r6⟩:=r
      exact wpS_pure ⟨sm.trans sm3,⟨o⟩⟩
    case gstep =>
     rintro y c st3 _ hy ⟨sm3,@⟨out,ia,ib,⟨mg,ac,bc⟩,j,h1,h2,h3⟩⟩
     dsimp only
     refine' tG (λkey=>?main1) ?key1
     case main1 =>
      by_cases cg:mg > 1
      ·refine cZ cg ?_
       generalize mg-1=g
       revert g
       exact key.un
      ·refine cY cg ?_
       exact key.un mg
     intro g
     refine yr λst4 sm4=>?_
     have hk4:kindOf st4=oneType':=(sm3.trans sm4).kind.trans hk'
     have sm5:=sm3.trans sm4
     clear sm3 sm4 hk' sm
     refine nA h2 ?_
     refine yq hk4 nX (nY.at h2) (by omega) (by omega) (pU (by omega) j.sX) λk hk1 hk2 hk3=>?_
     dsimp only
     have j1:J xs ys (out++xs.extract ia (ia+k)) (ia+k) ib:=j.xU h2 λi hi=>by
      have:=hk2 i hi
      unfold iE at this
      simpa using this
     have big:∀ i,ia+k<=i->i<xs.size->kk ys[ib]<K xs i:=λi g1 g2=>by
      have:=hk3 (i-ia) (by omega) (by omega)
      rw [show ia+(i-ia)=i by omega] at this
      unfold iE at this
      simpa using this
     clear hk2 hk3
     refine' tG (λkey=>?main2) ?key2
     case main2 =>
      by_cases ck:k > 0
      ·refine cZ ck ?_
       by_cases e5:ia+k+1=xs.size
       ·refine cZ (by simpa using e5) ?_
        exact wpS_pure ⟨sm5,.inr ⟨j1.last e5 l⟩⟩
       refine cY (by simpa using e5) ?_
       by_cases e6:ia+k=xs.size
       ·refine cZ (by simpa using e6) ?_
        exact wpS_pure ⟨sm5,.inr ⟨j1.done (.inr e6)⟩⟩
       refine cY (by simpa using e6) ?_
       have hA:ia+k+1<xs.size:=by omega
       have hB:=big (ia+k) (Nat.le_refl _) (by omega)
       have hC:x+2+y<=ia+k+ib:=by omega
       have j2:=j1
       revert j2 hA hB hC
       generalize out++xs.extract ia (ia+k)=o
       generalize ia+k=i
       revert o i
       exact key.un
      ·refine cY ck ?_
       exact key.un _ _ h1 (big ia (by omega) (by omega)) h3 j
     clear j1 big j h1 h3 hk1
     intro out ia hA hB h3 jA
     have hI:ia<xs.size:=by omega
     rw [jN (by omega)] at hB
     refine nA h2 ?_
     have jB:=jA.lO h2 (by omega) (Int.le_of_lt hB)
     by_cases e:ib+1=ys.size
     ·refine cZ (by simpa using e) ?_
      exact wpS_pure ⟨sm5,.inr ⟨jB.done (.inl e)⟩⟩
     refine cY (by simpa using e) ?_
     refine nA (by omega) ?_
     refine yq hk4 nY (nX.at (by omega)) (by omega) (by omega) (pU (by omega) jB.sY) λk2 g1 g2 g3=>?_
     dsimp only
     have jC:=jB.xV (k:=k2) (by omega) (λi hi=>by have:=g2 i hi;unfold iE at this;simpa using this)
     clear g2
     have g4:∀ i,k2<=i->i<ys.size-(ib+1)->kk xs[ia]<=K ys (ib+1+i):=λi z z'=>by
      have:=g3 i z z'
      unfold iE at this
      simpa using this
     clear g3
     refine' tG (λkey=>?main3) ?key3
     case main3 =>
      by_cases c2:k2 > 0
      ·refine cZ c2 ?_
       by_cases e3:ib+1+k2=ys.size
       ·refine cZ (by simpa using e3) ?_
        exact wpS_pure ⟨sm5,.inr ⟨jC.done (.inl e3)⟩⟩
       refine cY (by simpa using e3) ?_
       have gA:ib+1+k2<ys.size:=by omega
       have gB:=g4 k2 (Nat.le_refl _) (by omega)
       have gC:x+2+y+1<=ia+(ib+1+k2):=by omega
       have jE:=jC
       revert jE gA gB gC
       generalize out.push ys[ib]++ys.extract (ib+1) (ib+1+k2)=o
       generalize ib+1+k2=i
       revert o i
       exact key.un
      ·refine cY c2 ?_
       exact key.un _ _ (by omega) (g4 0 (by omega) (by omega)) (by omega) jB
     clear jC jB g4 g1
     intro o i gA gB gC jC
     refine nA (by omega) ?_
     have jD:=jC.lN gA (by omega) (by rw [jN gA] at gB;exact gB)
     clear jC jA gB hB e h2 h3 nX nY
     split
     ·rename_i e4
      exact wpS_pure ⟨sm5,.inr ⟨jD.last (by simpa using e4) l⟩⟩
     ·rename_i e4
      have e4':¬ia+1+1=xs.size:=λz=>e4 (by simpa using z)
      split
      ·exact wpS_pure ⟨sm5,.inl ⟨jD,by omega,by omega,by omega⟩⟩
      ·exact wpS_pure ⟨sm5,⟨jD,by omega,by omega,by omega⟩⟩
   ·obtain⟨r1,r2,r3,r4,r5⟩:=r
    exact wpS_pure ⟨sm,⟨o⟩⟩
end
end Tim
namespace Tim
open PySem PyProof.Rows
section
variable {prog:Program} {w:World} {A:Around} {E:Value->Shared->Prop} {s:Shared} {xs ys:Array Keyed}
def Jh (xs ys out:Array Keyed) (na nb:Nat):Prop:=Mh out.reverse.toList (xs.toList.take na) (ys.toList.take nb) (xs.toList++ys.toList)
theorem le_last {zs:Array Keyed} {i:Nat} (hi:i<zs.size) (h:eT (zs.toList.take (i+1))) {x:Keyed} (hx:x∈zs.toList.take (i+1)):R x zs[i]:=by
 rw [eK hi] at h hx
 rcases List.mem_append.mp hx with hx | hx
 ·exact (List.pairwise_append.mp h).2.2 x hx _ (List.mem_singleton.mpr rfl)
 ·rw [List.mem_singleton.mp hx];exact Int.le_refl _
theorem Jh.sX {out:Array Keyed} {na nb:Nat} (h:Jh xs ys out na nb):eT (xs.toList.take na):=(List.pairwise_append.mp h.sx).1
theorem Jh.sY {out:Array Keyed} {na nb:Nat} (h:Jh xs ys out na nb):eT (ys.toList.take nb):=(List.pairwise_append.mp h.sy).1
theorem Jh.lN {out:Array Keyed} {na nb:Nat} (h:Jh xs ys out (na+1) nb) (ha:na<xs.size) (c:∀ y∈ys.toList.take nb,R y xs[na]):Jh xs ys (out.push xs[na]) na nb:=by
 unfold Jh at *
 rw [eK ha] at h
 have:=h.left (X2:=[xs[na]]) (λy hy x hx=>by rw [List.mem_singleton.mp hx];exact c y hy)
 simpa using this
theorem Jh.lO {out:Array Keyed} {na nb:Nat} (h:Jh xs ys out na (nb+1)) (hb:nb<ys.size) (c:∀ x∈xs.toList.take na,R x ys[nb]):Jh xs ys (out.push ys[nb]) na nb:=by
 unfold Jh at *
 rw [eK hb] at h
 have:=h.right (Y2:=[ys[nb]]) (λy hy x hx=>by rw [List.mem_singleton.mp hx];exact c y hy)
 simpa using this
theorem pY (zs:Array Keyed) {a b:Nat} (h:a<=b):zs.toList.take b=zs.toList.take a++(zs.extract a b).toList:=by
 rw [ext_toList,<- List.drop_take]
 have:zs.toList.take a=(zs.toList.take b).take a:=by rw [List.take_take,Nat.min_eq_left h]
 rw [this,List.take_append_drop]
theorem Jh.xU {out:Array Keyed} {na nb a:Nat} (h:Jh xs ys out na nb) (ha:a<=na) (c:∀ y∈ys.toList.take nb,∀ x∈(xs.extract a na).toList,R y x):Jh xs ys (out++(xs.extract a na).reverse) a nb:=by
 unfold Jh at *
 rw [pY xs ha] at h
 have:=h.left c
 rw [Array.reverse_append,Array.reverse_reverse,Array.toList_append]
 exact this
theorem Jh.xV {out:Array Keyed} {na nb b:Nat} (h:Jh xs ys out na nb) (hb:b<=nb) (c:∀ x∈xs.toList.take na,∀ y∈(ys.extract b nb).toList,R x y):Jh xs ys (out++(ys.extract b nb).reverse) na b:=by
 unfold Jh at *
 rw [pY ys hb] at h
 have:=h.right c
 rw [Array.reverse_append,Array.reverse_reverse,Array.toList_append]
 exact this
theorem gP (zs:Array Keyed) (a:Nat):(zs.extract 0 a).toList=zs.toList.take a:=by rw [ext_toList];simp
theorem Jh.done {out:Array Keyed} {na nb:Nat} (h:Jh xs ys out na nb) (c:na=0∨nb=0):jr xs ys (xs.extract 0 na++ys.extract 0 nb++out.reverse):=by
 unfold Jh at h
 unfold jr
 rw [Array.toList_append,Array.toList_append,gP,gP]
 rcases c with rfl | rfl
 ·rw [List.take_zero] at h ⊢
  exact h.yy
 ·rw [List.take_zero] at h ⊢
  rw [List.append_nil]
  exact h.vD
theorem Jh.first {out:Array Keyed} {na nb:Nat} (h:Jh xs ys out na nb) (py:0<ys.size) (e:nb=1) (l:∀ x∈xs.toList,R ys[0] x):jr xs ys (ys.extract 0 nb++xs.extract 0 na++out.reverse):=by
 unfold Jh at h
 unfold jr
 rw [Array.toList_append,Array.toList_append,gP,gP]
 subst e
 have h1:ys.toList.take 1=[ys[0]]:=by rw [show 1=0+1 from rfl,eK py];simp
 rw [h1] at h ⊢
 exact h.CH λx hx=>l x (List.mem_of_mem_take hx)
theorem rW {zs:Array Keyed} {a b:Nat} {x:Keyed} (h:x∈(zs.extract a b).toList):∃ i,∃(hi:i<zs.size),a<=i/\i<b/\x=zs[i]:=by
 rw [ext_toList] at h
 obtain⟨i,hi,h1,rfl⟩:=cV h
 exact⟨a+i,hi,by omega,by omega,rfl⟩
inductive Iw (xs ys:Array Keyed) (n:Nat) {ρ:Type}:Option (Array Keyed) × Nat × Nat × Array Keyed × ρ->Prop
 | mk {na nb out r} (j:Jh xs ys out na nb) (h1:0<na) (h2:na<=xs.size) (h3:1<nb) (h4:nb<=ys.size) (h5:na+nb+n<=xs.size+ys.size):Iw xs ys n (none,na,nb,out,r)
theorem EY {st:SortSt} {Q:Array Keyed->SortSt->Prop} (hk:kindOf st=oneType') (nX:dJ xs) (nY:dJ ys) (px:0<xs.size) (py:0<ys.size) (sx:eT xs.toList) (sy:eT ys.toList)
  (f:∀ x∈xs.toList,R ys[0] x) (l:∀ y∈ys.toList,R y (xs[xs.size-1]'(by omega)))
  (q:∀ z st',Sm st st'->jr xs ys z->Q z st'):wpS (model prog w) A E s (oB xs ys) Q st:=by
 have J0:Jh xs ys #[] (xs.size-1+1) ys.size:=by
  refine⟨?_,?_,?_⟩
  ·rw [List.take_of_length_le (by simp;omega)];simpa using sx
  ·rw [List.take_of_length_le (by simp)];simpa using sy
  ·rw [List.take_of_length_le (by simp;omega),List.take_of_length_le (by simp)];simp
 have J1:Jh xs ys #[xs[xs.size-1]] (xs.size-1) ys.size:=by
  have:=J0.lN (by omega) (λy hy=>l y (List.mem_of_mem_take hy))
  simpa using this
 unfold oB
 refine wpS_bind (wpS_lift (wpAny_rule ⟨rfl,?_⟩))
 dsimp only
 refine nA (by omega) ?_
 by_cases e1:xs.size-1=0
 ·refine cZ (by simpa using e1) ?_
  exact wpS_pure (q _ _ (Sm.refl _) (J1.done (.inl e1)))
 refine cY (by simpa using e1) ?_
 by_cases e2:ys.size=1
 ·refine cZ (by simpa using e2) ?_
  exact wpS_pure (q _ _ (Sm.refl _) (J1.first py e2 f))
 refine cY (by simpa using e2) ?_
 refine wpS_bind (wpS_get ?_)
 refine wpS_bind (wpS_mono (wpS_forRange (I:=λx c st'=>Sm st st'/\Iw xs ys (x+1) c)
  (Q:=λc st'=>Sm st st'/\AR xs ys c) ?step ?fin ⟨Sm.refl _,.mk J1 (by omega) (by omega) (by omega) (by omega) (by omega)⟩) ?post)
 case post =>
  rintro c st' ⟨sm,⟨o⟩⟩
  exact wpS_pure (q _ st' sm o)
 case fin =>
  rintro c st' ⟨sm,⟨j,h1,h2,h3,h4,h5⟩⟩
  omega
 case step =>
  rintro x c st' _ hx ⟨sm,@⟨na,nb,out,mg,j,h1,h2,h3,h4,h5⟩⟩
  dsimp only
  have hk':kindOf st'=oneType':=sm.kind.trans hk
  refine wpS_bind (wpS_mono (wpS_forRange (I:=λy c st2=>st2=st'/\Iw xs ys (x+1+y) c)
   (Q:=λc st2=>st2=st'/\(Iw xs ys (x+2) c∨AR xs ys c))
   ?istep ?ifin ⟨rfl,.mk j h1 h2 h3 h4 (by omega)⟩) ?ipost)
  case ifin =>
   rintro c st2 ⟨rfl,⟨j,h1,h2,h3,h4,h5⟩⟩
   omega
  case istep =>
   rintro y c st2 _ hy ⟨rfl,@⟨na,nb,out,⟨ac,bc⟩,j,h1,h2,h3,h4,h5⟩⟩
   dsimp only
   obtain⟨na,rfl⟩:∃ m,na=m+1:=⟨na-1,by omega⟩
   obtain⟨nb,rfl⟩:∃ m,nb=m+1:=⟨nb-1,by omega⟩
   refine nA (by omega) ?_
   refine nA (by omega) ?_
   simp only [Nat.add_sub_cancel]
   refine El hk' (nY.at (by omega)) (nX.at (by omega)) ?_
   by_cases c:kk ys[nb]<kk xs[na]
   ·rw [decide_eq_true c]
    dsimp only
    refine cZ rfl ?_
    refine nA (by omega) ?_
    have j':=j.lN (by omega) λy hy=>Int.le_trans (le_last (by omega) j.sY hy) (Int.le_of_lt c)
    by_cases e:na=0
    ·refine cZ (by simpa using e) ?_
     exact wpS_pure ⟨rfl,.inr ⟨j'.done (.inl e)⟩⟩
    ·refine cY (by simpa using e) ?_
     split
     ·exact wpS_pure ⟨rfl,.inl ⟨j',by omega,by omega,by omega,by omega,by omega⟩⟩
     ·exact wpS_pure ⟨rfl,⟨j',by omega,by omega,by omega,by omega,by omega⟩⟩
   ·rw [decide_eq_false c]
    dsimp only
    refine cY (by simp) ?_
    refine nA (by omega) ?_
    have j':=j.lO (by omega) λy hy=>Int.le_trans (le_last (by omega) j.sX hy) (Int.not_lt.mp c)
    by_cases e:nb=1
    ·refine cZ (by simpa using e) ?_
     exact wpS_pure ⟨rfl,.inr ⟨j'.first py e f⟩⟩
    ·refine cY (by simpa using e) ?_
     split
     ·exact wpS_pure ⟨rfl,.inl ⟨j',by omega,by omega,by omega,by omega,by omega⟩⟩
     ·exact wpS_pure ⟨rfl,⟨j',by omega,by omega,by omega,by omega,by omega⟩⟩
  case ipost =>
   rintro c st2 ⟨rfl,@⟨na,nb,out,⟨ac,bc⟩,j,h1,h2,h3,h4,h5⟩ | @⟨z,r,o⟩⟩
   ·dsimp only
    refine wpS_bind (wpS_lift (wpAny_rule ⟨rfl,?_⟩))
    refine wpS_bind (wpS_mono (wpS_forRange (I:=λy c st3=>Sm st2 st3/\Iw xs ys (x+2+y) c)
     (Q:=λc st3=>Sm st2 st3/\(Iw xs ys (x+2) c∨AR xs ys c))
     ?gstep ?gfin ⟨Sm.refl _,.mk j h1 h2 h3 h4 (by omega)⟩) ?gpost)
    case gfin =>
     rintro c st3 ⟨sm3,⟨j,h1,h2,h3,h4,h5⟩⟩
     omega
    case gpost =>
     rintro c st3 ⟨sm3,@⟨na,nb,out,⟨mg,ac,bc⟩,j,h1,h2,h3,h4,h5⟩ | @⟨z,r,o⟩⟩
     ·dsimp only
      refine yr λst4 sm4=>?_
      exact wpS_pure ⟨(sm.trans sm3).trans sm4,⟨j,h1,h2,h3,h4,by omega⟩⟩
     ·obtain⟨r1,r2,r3,r4,r5,r6⟩:=r
      exact wpS_pure ⟨sm.trans sm3,⟨o⟩⟩
    case gstep =>
     rintro y c st3 _ hy ⟨sm3,@⟨na,nb,out,⟨mg,ac,bc⟩,j,h1,h2,h3,h4,h5⟩⟩
     obtain⟨nb,rfl⟩:∃ m,nb=m+1:=⟨nb-1,by omega⟩
     dsimp only
     refine' tG (λkey=>?main1) ?key1
     case main1 =>
      by_cases cg:mg > 1
      ·refine cZ cg ?_
       generalize mg-1=g
       revert g
       exact key.un
      ·refine cY cg ?_
       exact key.un mg
     intro g
     refine yr λst4 sm4=>?_
     have hk4:kindOf st4=oneType':=(sm3.trans sm4).kind.trans hk'
     have sm5:=sm3.trans sm4
     clear sm3 sm4 hk' sm
     simp only [Nat.add_sub_cancel]
     have hI:nb<ys.size:=by omega
     refine nA hI ?_
     refine yq hk4 nX (nY.at hI) (by omega) (by omega) (pV (by omega) j.sX) λat_ g1 g2 g3=>?_
     dsimp only
     have low:∀ x∈xs.toList.take at_,R x ys[nb]:=λx hx=>by
      obtain⟨i,hi,h,rfl⟩:=lI hx
      have:=g2 i h
      unfold iE at this
      rw [Nat.zero_add,jN hi] at this
      unfold R
      simpa using this
     have j1:Jh xs ys (out++(xs.extract at_ na).reverse) at_ (nb+1):=j.xU g1 λy hy x hx=>by
      obtain⟨i,hi,h,h',rfl⟩:=rW hx
      have:=g3 i h h'
      unfold iE at this
      rw [Nat.zero_add,jN hi] at this
      have h6:kk ys[nb]<kk xs[i]:=by simpa using this
      exact Int.le_trans (le_last hI j.sY hy) (Int.le_of_lt h6)
     clear g2 g3
     refine' tG (λkey=>?main2) ?key2
     case main2 =>
      by_cases ck:na-at_ > 0
      ·refine cZ ck ?_
       by_cases e5:at_=0
       ·refine cZ (by simpa using e5) ?_
        exact wpS_pure ⟨sm5,.inr ⟨j1.done (.inl e5)⟩⟩
       refine cY (by simpa using e5) ?_
       have pA:0<at_:=by omega
       have pB:at_<=xs.size:=by omega
       have pC:at_+(nb+1)+(x+2+y)<=xs.size+ys.size:=by omega
       have j2:=j1
       have low2:=low
       revert pA pB pC j2 low2
       generalize out++(xs.extract at_ na).reverse=o
       generalize na-at_=d
       revert o d
       exact key.un
      ·refine cY ck ?_
       obtain rfl:at_=na:=by omega
       exact key.un _ _ h1 h2 h5 j low
     clear j1 j low
     intro o d pA pB pC jA low
     obtain⟨m,rfl⟩:∃ m,at_=m+1:=⟨at_-1,by omega⟩
     have hM:m<xs.size:=by omega
     refine nA hI ?_
     have jB:=jA.lO hI low
     clear jA low
     by_cases e:nb=1
     ·refine cZ (by simpa using e) ?_
      exact wpS_pure ⟨sm5,.inr ⟨jB.first py e f⟩⟩
     refine cY (by simpa using e) ?_
     simp only [Nat.add_sub_cancel]
     refine nA hM ?_
     refine yq hk4 nY (nX.at hM) (by omega) (by omega) (pV (by omega) jB.sY) λb2 f1 f2 f3=>?_
     dsimp only
     have low2:∀ y∈ys.toList.take b2,R y xs[m]:=λy hy=>by
      obtain⟨i,hi,h,rfl⟩:=lI hy
      have:=f2 i h
      unfold iE at this
      rw [Nat.zero_add,jN hi] at this
      unfold R
      have:kk ys[i]<kk xs[m]:=by simpa using this
      omega
     have jC:=jB.xV f1 λx hx y hy=>by
      obtain⟨i,hi,h,h',rfl⟩:=rW hy
      have:=f3 i h h'
      unfold iE at this
      rw [Nat.zero_add,jN hi] at this
      have h6:kk xs[m]<=kk ys[i]:=by simpa using this
      exact Int.le_trans (le_last hM jB.sX hx) h6
     clear f2 f3
     refine' tG (λkey=>?main3) ?key3
     case main3 =>
      by_cases c2:nb-b2 > 0
      ·refine cZ c2 ?_
       by_cases e3:b2=1
       ·refine cZ (by simpa using e3) ?_
        exact wpS_pure ⟨sm5,.inr ⟨jC.first py e3 f⟩⟩
       refine cY (by simpa using e3) ?_
       by_cases e4:b2=0
       ·refine cZ (by simpa using e4) ?_
        exact wpS_pure ⟨sm5,.inr ⟨jC.done (.inr e4)⟩⟩
       refine cY (by simpa using e4) ?_
       have pD:1<b2:=by omega
       have jE:=jC
       have low3:=low2
       revert pD jE low3
       generalize o.push ys[nb]++(ys.extract b2 nb).reverse=o2
       generalize nb-b2=d2
       revert o2 d2
       exact key.un
      ·refine cY c2 ?_
       obtain rfl:b2=nb:=by omega
       exact key.un _ _ (by omega) jB low2
     clear jC jB low2
     intro o2 d2 pD jC low2
     refine nA hM ?_
     have jD:=jC.lN hM low2
     clear jC low2 e nX nY
     by_cases e8:m=0
     ·refine cZ (by simpa using e8) ?_
      exact wpS_pure ⟨sm5,.inr ⟨jD.done (.inl e8)⟩⟩
     refine cY (by simpa using e8) ?_
     split
     ·exact wpS_pure ⟨sm5,.inl ⟨jD,by omega,by omega,by omega,by omega,by omega⟩⟩
     ·exact wpS_pure ⟨sm5,⟨jD,by omega,by omega,by omega,by omega,by omega⟩⟩
   ·obtain⟨r1,r2,r3,r4,r5⟩:=r
    exact wpS_pure ⟨sm,⟨o⟩⟩
end
end Tim
namespace Tim
open PySem PyProof.Rows
theorem xh:∀(z U V W:List Keyed) (n o:Nat) (a:Array Keyed),a.toList=U++(V++W)->U.length=o+n->V.length=z.length ->
  ((z.zipIdx n).foldl (λa (x:Keyed × Nat)=>match x with | (p,j)=>a.setIfInBounds (o+j) p) a).toList=U++(z++W)
 | [],U,V,W,n,o,a,h,e,l=>by
  rw [List.length_nil,List.length_eq_zero_iff] at l
  subst l
  simpa using h
 | x::z,U,[],W,n,o,a,h,e,l=>by simp at l
 | x::z,U,v::V,W,n,o,a,h,e,l=>by
  rw [List.zipIdx_cons,List.foldl_cons]
  have h':(a.setIfInBounds (o+n) x).toList=(U++[x])++(V++W):=by
   rw [Array.toList_setIfInBounds,h,<- e,List.set_append_right _ _ (Nat.le_refl _),Nat.sub_self]
   simp
  have:=xh z (U++[x]) V W (n+1) o _ h' (by simp;omega) (by simpa using l)
  simpa using this
theorem at_of {a:Array Keyed} {U V W:List Keyed} (h:a.toList=U++(V++W)) {i:Nat} (hi:i<V.length):∃(g:U.length+i<a.size),a[U.length+i]=V[i]:=by
 have hl:a.size=U.length+(V.length+W.length):=by rw [<- Array.length_toList,h];simp
 refine⟨by omega,?_⟩
 have:a.toList[U.length+i]?=some V[i]:=by
  rw [h,List.getElem?_append_right (by omega),Nat.add_sub_cancel_left,List.getElem?_append_left hi,List.getElem?_eq_getElem hi]
 have g:U.length+i<a.size:=by omega
 rw [Array.getElem?_toList,Array.getElem?_eq_getElem g] at this
 exact Option.some.inj this
theorem AY {a:Array Keyed} {U V W:List Keyed} (h:a.toList=U++(V++W)) {i:Nat} (hi:i<V.length):K a (U.length+i)=kk V[i]:=by
 obtain⟨g,e⟩:=at_of h hi
 rw [jN g,e]
theorem AO {a:Array Keyed} {U V W:List Keyed} (h:a.toList=U++(V++W)) (s:eT V):Up a U.length (U.length+V.length):=by
 have hl:a.size=U.length+(V.length+W.length):=by rw [<- Array.length_toList,h];simp
 refine fX (by omega) ?_
 rw [h,List.drop_left,List.take_left]
 exact s
theorem rP {a:Array Keyed} {U V W:List Keyed} (h:a.toList=U++(V++W)) {k m:Nat} (hm:m<=V.length):(a.extract (U.length+k) (U.length+m)).toList=(V.take m).drop k:=by
 rw [ext_toList,h,<- List.drop_drop,List.drop_left,show U.length+m-(U.length+k)=m-k by omega,<- List.drop_take,List.take_append_of_le_length hm]
section
variable {prog:Program} {w:World} {A:Around} {E:Value->Shared->Prop} {s:Shared}
theorem x5 {st st1:SortSt} {Q:PUnit->SortSt->Prop} (h:Q ⟨⟩ st1):wpS (model prog w) A E s (set st1:StateT SortSt Sem PUnit) Q st:=by
 unfold wpS;rw [StateT.run_set];exact wpAny_pure ⟨rfl,h⟩
theorem EX {st:SortSt} {i:Nat} {p1 p2:List (Nat × Nat × Nat)} {P X Y S:List Keyed} {pw pw':Nat} {Q:Bool->SortSt->Prop} (hk:kindOf st=oneType') (hn:dJ (arrOf st)) (hf:failedOf st=none)
  (hp:(pendingOf st).toList=p1++(P.length,X.length,pw)::(P.length+X.length,Y.length,pw')::p2) (hi:p1.length=i)
  (ha:(arrOf st).toList=P++(X++(Y++S))) (sX:eT X) (sY:eT Y) (nX:0<X.length) (nY:0<Y.length)
  (q:∀ st' C,kindOf st'=oneType'->failedOf st'=none->(pendingOf st').toList=p1++(P.length,X.length+Y.length,pw)::p2->(arrOf st').toList=P++(C++S)->eT C->C.Perm (X++Y)->Q true st') :
  wpS (model prog w) A E s (mergeAt' i) Q st:=by
 have hb:(arrOf st).toList=(P++X)++(Y++S):=by rw [ha];simp
 have lb:(P++X).length=P.length+X.length:=by simp
 have hsz:(arrOf st).size=P.length+X.length+Y.length+S.length:=by rw [<- Array.length_toList,ha];simp;omega
 have i0:(pendingOf st)[i]?=some (P.length,X.length,pw):=by
  rw [<- Array.getElem?_toList,hp,List.getElem?_append_right (by omega)];simp [hi]
 have i1:(pendingOf st)[i+1]?=some (P.length+X.length,Y.length,pw'):=by
  rw [<- Array.getElem?_toList,hp,List.getElem?_append_right (by omega)];simp [hi,show i+1-i=1 by omega]
 have pd:(((pendingOf st).setIfInBounds i (P.length,X.length+Y.length,pw)).eraseIdxIfInBounds (i+1)).toList=p1++(P.length,X.length+Y.length,pw)::p2:=by
  rw [Array.toList_eraseIdxIfInBounds,Array.toList_setIfInBounds,hp,<- hi,List.set_append_right _ _ (Nat.le_refl _),Nat.sub_self,List.set_cons_zero,
   List.eraseIdx_append_of_length_le (by omega),show p1.length+1-p1.length=1 by omega]
  rfl
 obtain⟨gy,ey⟩:=at_of hb (i:=0) nY
 simp only [lb,Nat.add_zero] at gy ey
 have kY:∀{j:Nat} (h:j<Y.length),K (arrOf st) (P.length+X.length+j)=kk Y[j]:=λh=>by have:=AY hb h;rwa [lb] at this
 unfold mergeAt'
 refine wpS_bind (wpS_get ?_)
 rw [i0,i1]
 dsimp only
 refine wpS_bind (x5 ?_)
 refine wpS_bind (el gy ?_)
 refine wpS_bind (DV (by exact hk) hn (hn.at gy) (show P.length+X.length<=(arrOf st).size by omega) nX (AO ha sX) λk k1 k2 k3=>?_)
 dsimp only
 simp only [iE,Bool.false_eq_true,if_false] at k2 k3
 have hd:∀{y:Keyed},y∈Y->kk Y[0]<=kk y:=λ{y} hy=>by
  obtain⟨j,hj,rfl⟩:=List.getElem_of_mem hy
  by_cases e:j=0
  ·subst e;exact Int.le_refl _
  ·exact List.pairwise_iff_getElem.mp sY 0 j nY hj (by omega)
 have ls:∀{x:Keyed},x∈X->kk x<=kk X[X.length-1]:=λ{x} hx=>by
  obtain⟨j,hj,rfl⟩:=List.getElem_of_mem hx
  by_cases e:j=X.length-1
  ·subst e;exact Int.le_refl _
  ·exact List.pairwise_iff_getElem.mp sX j (X.length-1) hj (by omega) (by omega)
 have f1:∀ x∈X.take k,∀ y∈Y,R x y:=λx hx y hy=>by
  obtain⟨j,hj,rfl⟩:=List.getElem_of_mem hx
  rw [List.length_take] at hj
  have:=k2 j (by omega)
  rw [AY ha (by omega),ey] at this
  rw [List.getElem_take]
  exact Int.le_trans this (hd hy)
 have f2:∀ x∈X.drop k,kk Y[0]<kk x:=λx hx=>by
  obtain⟨j,hj,rfl⟩:=List.getElem_of_mem hx
  rw [List.length_drop] at hj
  have:=k3 (k+j) (by omega) (by omega)
  rw [AY ha (by omega),ey] at this
  rw [List.getElem_drop]
  omega
 by_cases e1:X.length-k=0
 ·rw [if_pos (by simpa using e1)]
  refine wpS_pure (q _ (X++Y) hk hf pd (by simpa using ha) ?_ (List.Perm.refl _))
  rw [show X=X.take k by rw [List.take_of_length_le (by omega)]]
  exact List.pairwise_append.mpr ⟨by rw [List.take_of_length_le (by omega)];exact sX,sY,f1⟩
 rw [if_neg (by simpa using e1)]
 obtain⟨gx,ex⟩:=at_of ha (i:=X.length-1) (by omega)
 have gx':P.length+k+(X.length-k)-1=P.length+(X.length-1):=by omega
 rw [gx']
 refine wpS_bind (el gx ?_)
 refine wpS_bind (DV (by exact hk) hn (hn.at gx) (show P.length+X.length+Y.length<=(arrOf st).size by omega) (by omega) (by have:=AO hb sY;rwa [lb] at this) λm m1 m2 m3=>?_)
 dsimp only
 simp only [iE,if_true,ex] at m2 m3
 have g1:∀ y∈Y.take m,kk y<kk X[X.length-1]:=λy hy=>by
  obtain⟨j,hj,rfl⟩:=List.getElem_of_mem hy
  rw [List.length_take] at hj
  have:=m2 j (by omega)
  rw [kY (by omega)] at this
  rw [List.getElem_take]
  exact this
 have g2:∀ y∈Y.drop m,∀ x∈X,R x y:=λy hy x hx=>by
  obtain⟨j,hj,rfl⟩:=List.getElem_of_mem hy
  rw [List.length_drop] at hj
  have:=m3 (m+j) (by omega) (by omega)
  rw [kY (by omega)] at this
  rw [List.getElem_drop]
  exact Int.le_trans (ls hx) (Int.not_lt.mp this)
 by_cases e2:m=0
 ·rw [if_pos (by simpa using e2)]
  refine wpS_pure (q _ (X++Y) hk hf pd (by simpa using ha) ?_ (List.Perm.refl _))
  exact List.pairwise_append.mpr ⟨sX,sY,λx hx y hy=>g2 y (by rw [e2];exact hy) x hx⟩
 rw [if_neg (by simpa using e2)]
 have xl:((arrOf st).extract (P.length+k) (P.length+X.length)).toList=X.drop k:=by
  rw [rP ha (Nat.le_refl _),List.take_length]
 have yl:((arrOf st).extract (P.length+X.length) (P.length+X.length+m)).toList=Y.take m:=by
  have:=rP hb (k:=0) (m:=m) (by omega)
  rw [lb] at this
  simpa using this
 have sx:eT (X.drop k):=sX.sublist (List.drop_sublist ..)
 have sy:eT (Y.take m):=sY.sublist (List.take_sublist ..)
 have mem:∀{l:List Keyed} {z:Array Keyed},z.toList=l->(∀ x∈l,uP x)->dJ z:=λe h=>by intro p hp';rw [e] at hp';exact h p hp'
 have aX:∀ x∈X.drop k,uP x:=λx hx=>hn x (by rw [ha];exact List.mem_append_right _ (List.mem_append_left _ (List.mem_of_mem_drop hx)))
 have aY:∀ x∈Y.take m,uP x:=λx hx=>hn x (by rw [hb];exact List.mem_append_right _ (List.mem_append_left _ (List.mem_of_mem_take hx)))
 generalize hxs:(arrOf st).extract (P.length+k) (P.length+X.length)=xs at xl
 generalize hys:(arrOf st).extract (P.length+X.length) (P.length+X.length+m)=ys at yl
 have zx:xs.size=X.length-k:=by rw [<- Array.length_toList,xl];simp
 have zy:ys.size=m:=by rw [<- Array.length_toList,yl];simp;omega
 have vX:=mem xl aX
 have vY:=mem yl aY
 have y0:ys[0]'(by omega)=Y[0]:=by
  have:ys.toList[0]?=some Y[0]:=by rw [yl,List.getElem?_take_of_lt (by omega)];simp [nY]
  rw [Array.getElem?_toList,Array.getElem?_eq_getElem (by omega)] at this
  exact Option.some.inj this
 have ff:∀ x∈xs.toList,R (ys[0]'(by omega)) x:=λx hx=>by rw [y0];rw [xl] at hx;exact Int.le_of_lt (f2 x hx)
 have xlast:xs[xs.size-1]'(by omega)=X[X.length-1]:=by
  have:xs.toList[xs.size-1]?=some X[X.length-1]:=by rw [xl,List.getElem?_drop,List.getElem?_eq_getElem (by omega)];congr 2;omega
  rw [Array.getElem?_toList,Array.getElem?_eq_getElem (by omega)] at this
  exact Option.some.inj this
 have ll:∀ y∈ys.toList,R y (xs[xs.size-1]'(by omega)):=λy hy=>by rw [xlast];rw [yl] at hy;exact Int.le_of_lt (g1 y hy)
 have fin:∀ z st',Sm (SortSt.mk' (kindOf st) (arrOf st) (((pendingOf st).setIfInBounds i (P.length,X.length+Y.length,pw)).eraseIdxIfInBounds (i+1)) (gallopOf st) (failedOf st)) st'->jr xs ys z ->
   wpS (model prog w) A E s (do
    modify λt=>setArr t (z.toList.zipIdx.foldl (λa (x:Keyed × Nat)=>match x with | (p,j)=>a.setIfInBounds (P.length+k+j) p) (arrOf t))
    let t <- get
    pure (failedOf t).isNone) Q st':=λz st' sm o=>by
  refine wpS_bind (wpS_modify (wpS_bind (wpS_get ?_)))
  have hz:z.toList.Perm (X.drop k++Y.take m):=by have:=o.2;rwa [xl,yl] at this
  have hzl:(X.drop k++Y.take m).length=z.toList.length:=hz.length_eq.symm
  have ha':(arrOf st').toList=(P++X.take k)++((X.drop k++Y.take m)++(Y.drop m++S)):=by
   rw [sm.arr]
   show (arrOf st).toList=_
   rw [ha]
   simp only [List.append_assoc]
   rw [<- List.append_assoc (X.take k),List.take_append_drop,<- List.append_assoc (Y.take m),List.take_append_drop]
  have key:=xh z.toList (P++X.take k) (X.drop k++Y.take m) (Y.drop m++S) 0 (P.length+k) (arrOf st') ha' (by simp;omega) hzl
  have fl:failedOf st'=none:=sm.failed.trans hf
  show wpS _ _ _ _ (pure (failedOf st').isNone) Q _
  rw [fl]
  refine wpS_pure (q _ (X.take k++(z.toList++Y.drop m)) (sm.kind.trans hk) fl ((congrArg Array.toList sm.pend).trans pd) ?_ ?_ ?_)
  ·refine key.trans ?_
   simp only [List.append_assoc]
  ·have mz:∀{c},c∈z.toList->c∈X.drop k∨c∈Y.take m:=λh=>List.mem_append.mp (hz.mem_iff.mp h)
   refine List.pairwise_append.mpr ⟨sX.sublist (List.take_sublist ..),List.pairwise_append.mpr ⟨o.1,sY.sublist (List.drop_sublist ..),λc hc y hy=>?_⟩,λx hx c hc=>?_⟩
   ·rcases mz hc with h | h
    ·exact g2 y hy c (List.mem_of_mem_drop h)
    ·have:=List.pairwise_append.mp (show eT (Y.take m++Y.drop m) by rw [List.take_append_drop];exact sY)
     exact this.2.2 c h y hy
   ·rcases List.mem_append.mp hc with hc | hc
    ·rcases mz hc with h | h
     ·have:=List.pairwise_append.mp (show eT (X.take k++X.drop k) by rw [List.take_append_drop];exact sX)
      exact this.2.2 x hx c h
     ·exact f1 x hx c (List.mem_of_mem_take h)
    ·exact f1 x hx c (List.mem_of_mem_drop hc)
  ·refine ((hz.append_right (Y.drop m)).append_left (X.take k)).trans ?_
   rw [List.append_assoc,List.take_append_drop,<- List.append_assoc,List.take_append_drop]
 split
 ·refine wpS_bind (EZ (by exact hk) vX vY (by omega) (by omega) (by rw [xl];exact sx) (by rw [yl];exact sy) (ff _ (by simp)) (λy hy x hx=>?_) λz st' sm o=>fin z st' sm o)
  have:x=xs[xs.size-1]'(by omega):=by
   rw [List.getLast?_eq_getElem?,Array.length_toList,Array.getElem?_toList,Array.getElem?_eq_getElem (by omega)] at hx
   exact (Option.some.inj hx).symm
  rw [this]
  exact ll y hy
 ·exact wpS_bind (EY (by exact hk) vX vY (by omega) (by omega) (by rw [xl];exact sx) (by rw [yl];exact sy) ff ll λz st' sm o=>fin z st' sm o)
end
end Tim
namespace Tim
open PySem PyProof.Rows
def Dn (xs:Array Keyed) (lo hi:Nat):Prop:=∀ i j,lo<=i->i<=j->j<hi->K xs j<=K xs i
structure Fr (lo:Nat) (st st':SortSt):Prop where
 kind:kindOf st'=kindOf st
 failed:failedOf st'=failedOf st
 pend:pendingOf st'=pendingOf st
 perm:(arrOf st').Perm (arrOf st)
 low:∀ i,i<lo->(arrOf st')[i]?=(arrOf st)[i]?
theorem Fr.refl (lo:Nat) (st:SortSt):Fr lo st st:=⟨rfl,rfl,rfl,Array.Perm.refl _,λ_ _=>rfl⟩
theorem Fr.trans {lo:Nat} {a b c:SortSt} (h:Fr lo a b) (g:Fr lo b c):Fr lo a c :=
 ⟨g.kind.trans h.kind,g.failed.trans h.failed,g.pend.trans h.pend,g.perm.trans h.perm,λi hi=>(g.low i hi).trans (h.low i hi)⟩
theorem Fr.size {lo:Nat} {st st':SortSt} (h:Fr lo st st'):(arrOf st').size=(arrOf st).size:=h.perm.size_eq
theorem Fr.l8 {lo:Nat} {st st':SortSt} (h:Fr lo st st') (n:dJ (arrOf st)):dJ (arrOf st'):=λp hp=>n p ((Array.perm_iff_toList_perm.mp h.perm).mem_iff.mp hp)
theorem Fr.Cb {lo i j:Nat} {st:SortSt} (hi:lo<=i) (hj:j<=(arrOf st).size):Fr lo st (setArr st (mirror (arrOf st) i j ((j-i)/2))) :=
 ⟨rfl,rfl,rfl,mirror_perm _ _ _ _,λk hk=>by
  show (mirror (arrOf st) i j ((j-i)/2))[k]?=_
  rw [getElem?_mirror_all hj,if_neg (by omega)]⟩
theorem qL {xs:Array Keyed} {i j:Nat} (hj:j<=xs.size) (e:∀ k,i<=k->k<j->K xs k=K xs (j-1)) (k:Nat):K (mirror xs i j ((j-i)/2)) k=K xs k:=by
 rw [K_mirror hj]
 split
 ·rw [e _ (by omega) (by omega),e k (by omega) (by omega)]
 ·rfl
theorem Up.next {xs:Array Keyed} {lo x:Nat} (h:Up xs lo (lo+x)) (hx:1<=x) (c:¬K xs (lo+x)<K xs (lo+x-1)):Up xs lo (lo+(x+1)):=by
 intro i j h1 h2 h3
 by_cases e:j<lo+x
 ·exact h i j h1 h2 e
 ·obtain rfl:j=lo+x:=by omega
  by_cases e':i=lo+x
  ·rw [e'];exact Int.le_refl _
  ·exact Int.le_trans (h i (lo+x-1) h1 (by omega) (by omega)) (Int.not_lt.mp c)
theorem Dn.next {xs:Array Keyed} {lo x:Nat} (h:Dn xs lo (lo+x)) (hx:1<=x) (c:K xs (lo+x)<=K xs (lo+x-1)):Dn xs lo (lo+(x+1)):=by
 intro i j h1 h2 h3
 by_cases e:j<lo+x
 ·exact h i j h1 h2 e
 ·obtain rfl:j=lo+x:=by omega
  by_cases e':i=lo+x
  ·rw [e'];exact Int.le_refl _
  ·exact Int.le_trans c (h i (lo+x-1) h1 (by omega) (by omega))
theorem Dn.Cb {xs:Array Keyed} {lo hi:Nat} (d:Dn xs lo hi) (h:hi<=xs.size):Up (mirror xs lo hi ((hi-lo)/2)) lo hi:=λi j a b c=>by
 rw [K_mirror h,K_mirror h,if_pos (by omega),if_pos (by omega)]
 exact d _ _ (by omega) (by omega) (by omega)
section
variable {prog:Program} {w:World} {A:Around} {E:Value->Shared->Prop} {s:Shared}
theorem lH {st:SortSt} {i j:Nat} {Q:Option Bool->SortSt->Prop} (hk:kindOf st=oneType') (hn:dJ (arrOf st)) (hi:i<(arrOf st).size) (hj:j<(arrOf st).size)
  (h1:K (arrOf st) i<K (arrOf st) j->Q (some true) st) (h2:¬K (arrOf st) i<K (arrOf st) j->Q (some false) st):wpS (model prog w) A E s (ltAt' i j) Q st:=by
 rw [ltAt'_eq]
 refine wpS_bind (wpS_get ?_)
 refine wpS_bind (el hi (wpS_bind (el hj (mI hk (hn.at hi) (hn.at hj) ?_))))
 rw [<- jN hi,<- jN hj]
 by_cases c:K (arrOf st) i<K (arrOf st) j
 ·rw [decide_eq_true c];exact h1 c
 ·rw [decide_eq_false c];exact h2 c
theorem asc {st:SortSt} {lo nrem a:Nat} {f:Nat->Option (Option Nat) × Nat->StateT SortSt Sem (ForInStep (Option (Option Nat) × Nat))} {Q:Option (Option Nat) × Nat->SortSt->Prop}
  (hf:∀ x n Q',1<=n->n<nrem->(K (arrOf st) (lo+n)<K (arrOf st) (lo+n-1)->Q' (ForInStep.done (none,n)) st)->(¬K (arrOf st) (lo+n)<K (arrOf st) (lo+n-1)->Q' (ForInStep.yield (none,n+1)) st)->wpS (model prog w) A E s (f x (none,n)) Q' st)
  (ha:1<=a) (han:a<=nrem) (up:Up (arrOf st) lo (lo+a))
  (q:∀ n,a<=n->n<=nrem->Up (arrOf st) lo (lo+n)->(n=nrem∨K (arrOf st) (lo+n)<K (arrOf st) (lo+n-1))->Q (none,n) st):wpS (model prog w) A E s (forIn [a:nrem] (none,a) f) Q st:=by
 refine wpS_forRange (I:=λx c st'=>st'=st/\c=(none,x)/\Up (arrOf st) lo (lo+x)) ?step ?fin ⟨rfl,rfl,up⟩
 case fin =>
  rintro c st' ⟨rfl,rfl,u⟩
  rw [show max a nrem=nrem by omega] at u ⊢
  exact q nrem han (Nat.le_refl _) u (.inl rfl)
 case step =>
  rintro x c st' h1 h2 ⟨rfl,rfl,u⟩
  exact hf x x _ (by omega) h2 (λc=>q x h1 (by omega) u (.inr c)) λc=>⟨rfl,rfl,u.next (by omega) c⟩
theorem cnt {st:SortSt} {lo nrem:Nat} {Q:Option Nat->SortSt->Prop} (hk:kindOf st=oneType') (hn:dJ (arrOf st)) (h1:1<=nrem) (hz:lo+nrem<=(arrOf st).size)
  (q:∀ m st',Fr lo st st'->1<=m->m<=nrem->Up (arrOf st') lo (lo+m)->Q (some m) st'):wpS (model prog w) A E s (countRun' lo nrem) Q st:=by
 unfold countRun'
 refine wpS_bind (asc (lo:=lo) ?_ (Nat.le_refl 1) h1 (λi j a b c=>by rw [show i=j by omega];exact Int.le_refl _) λn n1 n2 u o=>?_)
 ·intro x n Q' a b q1 q2
  dsimp only
  exact wpS_bind (lH hk hn (by omega) (by omega) (λc=>wpS_pure (q1 c)) λc=>wpS_pure (q2 c))
 dsimp only
 by_cases e1:n=nrem
 ·rw [if_pos (by simpa using e1)]
  exact wpS_pure (q n st (Fr.refl _ _) n1 n2 u)
 rw [if_neg (by simpa using e1)]
 have lt:=o.resolve_left e1
 by_cases e2:n > 1
 case' pos =>
  rw [if_pos e2]
  refine wpS_bind (lH hk hn (by omega) (by omega) (λc=>wpS_pure (q n st (Fr.refl _ _) n1 n2 u)) λc=>?_)
  dsimp only
  rw [if_neg (by simp)]
  have all:∀ k,lo<=k->k<lo+n->K (arrOf st) k=K (arrOf st) (lo+n-1):=λk a b=>by
   have:=u lo k (Nat.le_refl _) a b
   have:=u k (lo+n-1) a (by omega) (by omega)
   omega
  refine wpS_bind (wpS_reverse ?_)
  have km:=qL (xs:=arrOf st) (i:=lo) (j:=lo+n) (by omega) all
  obtain⟨st1,hst1,fr,d⟩:∃ st1,setArr st (mirror (arrOf st) lo (lo+n) ((lo+n-lo)/2))=st1/\Fr lo st st1/\Dn (arrOf st1) lo (lo+(n+1)):=by
   refine⟨_,rfl,Fr.Cb (Nat.le_refl _) (by omega),Dn.next (λi j a b c=>?_) n1 ?_⟩
   ·show K (mirror _ _ _ _) j<=K (mirror _ _ _ _) i
    rw [km,km,all i a (by omega),all j (by omega) c];exact Int.le_refl _
   ·show K (mirror _ _ _ _) _<=K (mirror _ _ _ _) _
    rw [km,km];exact Int.le_of_lt lt
  rw [hst1]
 case' neg =>
  rw [if_neg e2]
  obtain rfl:n=1:=by omega
  obtain⟨fr,d⟩:Fr lo st st/\Dn (arrOf st) lo (lo+(1+1)):=by
   refine⟨Fr.refl _ _,Dn.next (λi j a b c=>?_) (Nat.le_refl _) (Int.le_of_lt lt)⟩
   rw [show i=j by omega];exact Int.le_refl _
 all_goals
  refine wpS_bind (wpS_lift (wpAny_rule ⟨rfl,?_⟩))
  refine wpS_bind (wpS_mono (wpS_forRange (I:=λx c st2=>∃ neq,c=(none,x,neq)/\Fr lo st st2/\Dn (arrOf st2) lo (lo+x)/\neq+1<=x/\(∀ i,lo+x-(neq+1)<=i->i<lo+x->K (arrOf st2) i=K (arrOf st2) (lo+x-1)))
   (Q:=λc st2=>∃ x neq,c=(none,x,neq)/\Fr lo st st2/\Dn (arrOf st2) lo (lo+x)/\1<=x/\x<=nrem/\neq+1<=x/\(∀ i,lo+x-(neq+1)<=i->i<lo+x->K (arrOf st2) i=K (arrOf st2) (lo+x-1)))
   ?step ?fin ⟨0,rfl,fr,d,by omega,λi a b=>by congr 1;omega⟩) ?post)
  case fin =>
   rintro c st2 ⟨neq,rfl,f2,d2,l2,e⟩
   rw [Nat.max_eq_right (by omega)] at d2 l2 e ⊢
   exact⟨_,neq,rfl,f2,d2,h1,Nat.le_refl _,l2,e⟩
  case step =>
   rintro x c st2 x1 x2 ⟨neq,rfl,f2,d2,l2,e⟩
   dsimp only
   have z2:=f2.size
   have k2:=f2.kind.trans hk
   refine wpS_bind (lH k2 (f2.l8 hn) (by omega) (by omega) (λc=>?_) λc=>?_)
   ·dsimp only
    rw [if_pos rfl]
    by_cases g:neq > 0
    ·rw [if_pos g]
     have km:=qL (xs:=arrOf st2) (i:=lo+x-(neq+1)) (j:=lo+x) (by omega) e
     refine wpS_bind (wpS_reverse (wpS_pure ⟨0,rfl,f2.trans (Fr.Cb (by omega) (by omega)),Dn.next (λi j a b c=>?_) (by omega) ?_,by omega,λi a b=>by congr 1;omega⟩))
     ·show K (mirror _ _ _ _) j<=K (mirror _ _ _ _) i
      rw [km,km];exact d2 i j a b c
     ·show K (mirror _ _ _ _) _<=K (mirror _ _ _ _) _
      rw [km,km];exact Int.le_of_lt c
    ·rw [if_neg g]
     exact wpS_pure ⟨0,rfl,f2,d2.next (by omega) (Int.le_of_lt c),by omega,λi a b=>by congr 1;omega⟩
   ·dsimp only
    rw [if_neg (by simp)]
    refine wpS_bind (lH k2 (f2.l8 hn) (by omega) (by omega) (λc'=>?_) λc'=>?_)
    ·exact wpS_pure ⟨x,neq,rfl,f2,d2,by omega,by omega,l2,e⟩
    ·have eq:K (arrOf st2) (lo+x)=K (arrOf st2) (lo+x-1):=by omega
     refine wpS_pure ⟨neq+1,rfl,f2,d2.next (by omega) (by omega),by omega,λi a b=>?_⟩
     rw [show lo+(x+1)-1=lo+x by omega]
     by_cases g:i=lo+x
     ·rw [g]
     ·rw [eq];exact e i (by omega) (by omega)
  case post =>
   rintro c st2 ⟨x,neq,rfl,f2,d2,x1,x2,l2,e⟩
   dsimp only
   have z2:=f2.size
   by_cases g:neq > 0
   case' pos =>
    rw [if_pos g]
    have km:=qL (xs:=arrOf st2) (i:=lo+x-(neq+1)) (j:=lo+x) (by omega) e
    refine wpS_bind (wpS_reverse ?_)
    obtain⟨st3,hst3,f3,d3⟩:∃ st3,setArr st2 (mirror (arrOf st2) (lo+x-(neq+1)) (lo+x) ((lo+x-(lo+x-(neq+1)))/2))=st3/\Fr lo st st3/\Dn (arrOf st3) lo (lo+x):=by
     refine⟨_,rfl,f2.trans (Fr.Cb (by omega) (by omega)),λi j a b c=>?_⟩
     show K (mirror _ _ _ _) j<=K (mirror _ _ _ _) i
     rw [km,km];exact d2 i j a b c
    rw [hst3]
   case' neg =>
    rw [if_neg g]
    have f3:=f2
    have d3:=d2
   all_goals
    have z3:=f3.size
    refine wpS_bind (wpS_reverse ?_)
    have f4:=f3.trans (Fr.Cb (i:=lo) (j:=lo+x) (Nat.le_refl _) (by omega))
    have u4:=d3.Cb (by omega)
    have z4:=f4.size
    refine wpS_bind (asc (lo:=lo) ?_ x1 x2 u4 λn n1 n2 u o=>?_)
    ·intro x n Q' a b q1 q2
     dsimp only
     exact wpS_bind (lH (f4.kind.trans hk) (f4.l8 hn) (by omega) (by omega) (λc=>wpS_pure (q1 c)) λc=>wpS_pure (q2 c))
    ·exact wpS_pure (q n _ f4 (by omega) n2 u)
theorem EO {lo k l:Nat} {xs:Array Keyed} (u:Up xs lo (lo+k)) (hk:lo+k<xs.size) (hl:l<=k) (h1:∀ i,i<l->K xs (lo+i)<=K xs (lo+k)) (h2:∀ i,l<=i->i<k->K xs (lo+k)<K xs (lo+i)) :
  Up (bubble xs (lo+k) (lo+k-(lo+l))) lo (lo+(k+1)):=by
 have h1':∀ i,lo<=i->i<lo+l->K xs i<=K xs (lo+k):=λi a b=>by have:=h1 (i-lo) (by omega);rwa [show lo+(i-lo)=i by omega] at this
 have h2':∀ i,lo+l<=i->i<lo+k->K xs (lo+k)<K xs i:=λi a b=>by have:=h2 (i-lo) (by omega) (by omega);rwa [show lo+(i-lo)=i by omega] at this
 intro i j a b c
 rw [K_bubble hk (by omega),K_bubble hk (by omega)]
 repeat' split
 all_goals first
  | (exfalso;omega)
  | exact Int.le_refl _
  | exact h1' _ (by omega) (by omega)
  | exact Int.le_of_lt (h2' _ (by omega) (by omega))
  | exact u _ _ (by omega) (by omega) (by omega)
theorem bin {st:SortSt} {lo n ok:Nat} {Q:Bool->SortSt->Prop} (hk:kindOf st=oneType') (hn:dJ (arrOf st)) (hz:lo+n<=(arrOf st).size) (h1:1<=ok) (ho:ok<=n) (u:Up (arrOf st) lo (lo+ok))
  (q:∀ st',Fr lo st st'->Up (arrOf st') lo (lo+n)->Q true st'):wpS (model prog w) A E s (binarySort' lo n ok) Q st:=by
 unfold binarySort'
 refine wpS_bind (wpS_mono (wpS_forRange (I:=λk c st'=>c=(none,())/\Fr lo st st'/\Up (arrOf st') lo (lo+k))
  (Q:=λc st'=>c=(none,())/\Fr lo st st'/\Up (arrOf st') lo (lo+n)) ?step ?fin ⟨rfl,Fr.refl _ _,by rw [Nat.max_eq_left h1];exact u⟩) ?post)
 case post =>
  rintro c st' ⟨rfl,f,u'⟩
  exact wpS_pure (q st' f u')
 case fin =>
  rintro c st' ⟨rfl,f,u'⟩
  rw [show max (max ok 1) n=n by omega] at u'
  exact⟨rfl,f,u'⟩
 case step =>
  rintro k c st' k1 k2 ⟨rfl,f,u'⟩
  have z:=f.size
  dsimp only
  refine wpS_bind (wpS_mono (wpS_forRange (I:=λx c st2=>st2=st'/\∃ l r,c=(none,l,r)/\l<=r/\r<=k/\r-l<=k-x/\(∀ i,i<l->K (arrOf st') (lo+i)<=K (arrOf st') (lo+k))/\(∀ i,r<=i->i<k->K (arrOf st') (lo+k)<K (arrOf st') (lo+i)))
   (Q:=λc st2=>st2=st'/\∃ l,c=(none,l,l)/\l<=k/\(∀ i,i<l->K (arrOf st') (lo+i)<=K (arrOf st') (lo+k))/\(∀ i,l<=i->i<k->K (arrOf st') (lo+k)<K (arrOf st') (lo+i)))
   ?istep ?ifin ⟨rfl,0,k,rfl,by omega,by omega,by omega,λi hi=>by omega,λi a b=>by omega⟩) ?ipost)
  case ifin =>
   rintro c st2 ⟨rfl,l,r,rfl,a,b,d,e,g⟩
   obtain rfl:l=r:=by omega
   exact⟨rfl,l,rfl,b,e,g⟩
  case istep =>
   rintro x c st2 _ hx ⟨rfl,l,r,rfl,a,b,d,e,g⟩
   dsimp only
   by_cases o:l≥r
   ·rw [if_pos o]
    obtain rfl:l=r:=by omega
    exact wpS_pure ⟨rfl,l,rfl,b,e,g⟩
   ·rw [if_neg o]
    refine wpS_bind (lH (f.kind.trans hk) (f.l8 hn) (by omega) (by omega) (λc=>?_) λc=>?_)
    ·exact wpS_pure ⟨rfl,_,_,rfl,by omega,by omega,by omega,e,λi h1 h2=>Int.lt_of_lt_of_le c (u' _ _ (by omega) (by omega) (by omega))⟩
    ·exact wpS_pure ⟨rfl,_,_,rfl,by omega,by omega,by omega,λi h1=>Int.le_trans (u' _ _ (by omega) (by omega) (by omega)) (Int.not_lt.mp c),g⟩
  case ipost =>
   rintro c st2 ⟨rfl,l,rfl,a,b,d⟩
   dsimp only
   refine wpS_bind (wpS_modify (wpS_pure ⟨rfl,f.trans ⟨rfl,rfl,rfl,bubble_perm _ _ _,λi hi=>?_⟩,EO u' (show lo+k<(arrOf st2).size by omega) a b d⟩))
   have:=getElem?_bubble (xs:=arrOf st2) (src:=lo+k) (by omega) (lo+k-(lo+l)) (by omega) i
   rw [if_neg (by omega),if_neg (by omega)] at this
   exact this
end
end Tim
namespace Tim
open PySem PyProof.Rows
def Pd:Nat->List (Nat × Nat × Nat)->List (List Keyed)->Prop
 | _,[],[]=>True
 | o,x::p,r::rs=>x.1=o/\x.2.1=r.length/\0<r.length/\eT r/\Pd (o+r.length) p rs
 | _,_,_=>False
theorem Pd.len:∀{o:Nat} {p:List (Nat × Nat × Nat)} {rs:List (List Keyed)},Pd o p rs->p.length=rs.length/\p.length<=rs.flatten.length
 | _,[],[],_=>⟨rfl,Nat.zero_le _⟩
 | _,x::p,r::rs,h=>by
  have:=Pd.len h.2.2.2.2
  have h2:=h.2.2.1
  simp only [List.length_cons,List.flatten_cons,List.length_append]
  omega
theorem Pd.push:∀{o:Nat} {p:List (Nat × Nat × Nat)} {rs:List (List Keyed)} {r:List Keyed} {z:Nat},Pd o p rs->0<r.length->eT r->Pd o (p++[(o+rs.flatten.length,r.length,z)]) (rs++[r])
 | o,[],[],r,z,h,n,s=>⟨rfl,rfl,n,s,trivial⟩
 | o,x::p,r'::rs,r,z,h,n,s=>by
  have:=Pd.push (z:=z) h.2.2.2.2 n s
  rw [Nat.add_assoc] at this
  refine⟨h.1,h.2.1,h.2.2.1,h.2.2.2.1,?_⟩
  rw [List.flatten_cons,List.length_append]
  exact this
theorem Pd.alike:∀{o:Nat} {p p':List (Nat × Nat × Nat)} {rs:List (List Keyed)},Pd o p rs->p'.map (λx=>(x.1,x.2.1))=p.map (λx=>(x.1,x.2.1))->Pd o p' rs
 | _,[],[],[],_,_=>trivial
 | _,[],_::_,[],_,e=>by simp at e
 | _,_::_,[],_::_,_,e=>by simp at e
 | o,x::p,x'::p',r::rs,h,e=>by
  simp only [List.map_cons,List.cons.injEq,Prod.mk.injEq] at e
  exact⟨e.1.1.trans h.1,e.1.2.trans h.2.1,h.2.2.1,h.2.2.2.1,Pd.alike h.2.2.2.2 e.2⟩
theorem Pd.two:∀{i o:Nat} {p:List (Nat × Nat × Nat)} {rs:List (List Keyed)},Pd o p rs->i+1<p.length->∃ p1 pw pw' p2 rs1 X Y rs2,p1.length=i/\rs=rs1++X::Y::rs2 /\
   p=p1++(o+rs1.flatten.length,X.length,pw)::(o+rs1.flatten.length+X.length,Y.length,pw')::p2/\eT X/\eT Y/\0<X.length/\0<Y.length /\
   ∀ C z,eT C->C.length=X.length+Y.length->Pd o (p1++(o+rs1.flatten.length,X.length+Y.length,z)::p2) (rs1++C::rs2)
 | 0,o,x::y::p,X::Y::rs,h,_=>by
  obtain⟨x1,x2,x3⟩:=x
  obtain⟨y1,y2,y3⟩:=y
  obtain⟨a,b,c,d,e,f,g,h,k⟩:=h
  simp only at a b e f
  subst a b e f
  exact⟨[],x3,y3,p,[],X,Y,rs,rfl,rfl,rfl,d,h,c,g,λC z s l=>⟨rfl,l.symm,by omega,s,by rw [l,<- Nat.add_assoc];exact k⟩⟩
 | i+1,o,x::p,X::rs,h,l=>by
  obtain⟨p1,pw,pw',p2,rs1,X',Y',rs2,e1,e2,e3,s1,s2,n1,n2,f⟩:=Pd.two (i:=i) h.2.2.2.2 (by simp at l ⊢;omega)
  refine⟨x::p1,pw,pw',p2,X::rs1,X',Y',rs2,by simp [e1],by rw [e2];rfl,?_,s1,s2,n1,n2,λC z s l=>⟨h.1,h.2.1,h.2.2.1,h.2.2.2.1,?_⟩⟩
  ·rw [e3];simp [Nat.add_assoc]
  ·have:=f C z s l
   simpa [Nat.add_assoc] using this
 | 0,_,[_],[_],_,l=>by simp at l
 | 0,_,_::_::_,[_],h,_=>h.2.2.2.2.elim
structure Ws (a₀:Array Keyed) (T:List Keyed) (lo:Nat) (st:SortSt):Prop where
 kind:kindOf st=oneType'
 failed:failedOf st=none
 perm:(arrOf st).Perm a₀
 ex:∃ rs,Pd 0 (pendingOf st).toList rs/\rs.flatten.length=lo/\(arrOf st).toList=rs.flatten++T
theorem Ws.CP {a₀:Array Keyed} {T:List Keyed} {lo:Nat} {st:SortSt} (h:Ws a₀ T lo st):(pendingOf st).size<=lo:=by
 obtain⟨rs,h1,h2,h3⟩:=h.ex
 have:=h1.len.2
 rw [Array.length_toList] at this
 omega
theorem Ws.l8 {a₀:Array Keyed} {T:List Keyed} {lo:Nat} {st:SortSt} (h:Ws a₀ T lo st) (n:dJ a₀):dJ (arrOf st):=λp hp=>n p ((Array.perm_iff_toList_perm.mp h.perm).mem_iff.mp hp)
theorem yS {f:Nat × Nat × Nat->Nat × Nat × Nat} (hf:∀ x,((f x).1,(f x).2.1)=(x.1,x.2.1)) (p:Array (Nat × Nat × Nat)) (i:Nat):(p.modify i f).toList.map (λx=>(x.1,x.2.1))=p.toList.map (λx=>(x.1,x.2.1)):=by
 refine List.ext_getElem? λj=>?_
 rw [List.getElem?_map,List.getElem?_map,Array.getElem?_toList,Array.getElem?_toList,Array.getElem?_modify]
 split
 ·cases p[j]? with
  | none=>rfl
  | some x=>simp only [Option.map_some];rw [hf]
 ·rfl
theorem CD (c:Prop) [Decidable c] (p:Nat) (h:¬p<=1):(if c then p-2-1 else p-2)+1<p:=by split<;>omega
section
variable {prog:Program} {w:World} {A:Around} {E:Value->Shared->Prop} {s:Shared} {a₀:Array Keyed} {T:List Keyed} {lo:Nat}
theorem CK {st:SortSt} {i:Nat} {Q:Bool->SortSt->Prop} (hn:dJ a₀) (h:Ws a₀ T lo st) (hi:i+1<(pendingOf st).size) (q:∀ st',Ws a₀ T lo st'->(pendingOf st').size+1=(pendingOf st).size->Q true st') :
  wpS (model prog w) A E s (mergeAt' i) Q st:=by
 obtain⟨rs,h1,h2,h3⟩:=h.ex
 obtain⟨p1,pw,pw',p2,rs1,X,Y,rs2,e1,e2,e3,sX,sY,nX,nY,f⟩:=h1.two (i:=i) (by rw [Array.length_toList];exact hi)
 simp only [Nat.zero_add] at e3 f
 have ha:(arrOf st).toList=rs1.flatten++(X++(Y++(rs2.flatten++T))):=by rw [h3,e2];simp
 refine EX h.kind (h.l8 hn) h.failed e3 e1 ha sX sY nX nY λst' C k fl pd ar sC pC=>q st' ⟨k,fl,?_,rs1++C::rs2,?_,?_,?_⟩ ?_
 ·refine Array.perm_iff_toList_perm.mpr (List.Perm.trans ?_ (Array.perm_iff_toList_perm.mp h.perm))
  rw [ar,ha]
  refine List.Perm.append_left _ ?_
  rw [<- List.append_assoc X]
  exact pC.append_right _
 ·rw [pd];exact f C pw sC (by rw [pC.length_eq];simp)
 ·rw [<- h2,e2]
  have:=pC.length_eq
  simp only [List.flatten_append,List.flatten_cons,List.length_append] at this ⊢
  omega
 ·rw [ar];simp
 ·rw [<- Array.length_toList,<- Array.length_toList,pd,e3];simp;omega
theorem runs {st:SortSt} {Q:Unit->SortSt->Prop} (hn:dJ a₀) (hk:kindOf st=oneType') (hf:failedOf st=none) (hp:pendingOf st=#[]) (ha:arrOf st=a₀) (h2:2<=a₀.size)
  (q:∀ st',(arrOf st').Perm a₀->failedOf st'=none->eT (arrOf st').toList->Q () st'):wpS (model prog w) A E s sortRuns' Q st:=by
 unfold sortRuns'
 refine wpS_bind (wpS_get ?_)
 have hz:(arrOf st).size=a₀.size:=by rw [ha]
 dsimp only
 simp only [hz]
 generalize (sortPriv% PySem.Builtin.minRun) a₀.size a₀.size 0=mr
 refine wpS_bind (wpS_mono (wpS_forRange (I:=λx c st'=>∃ lo T,c=(none,lo)/\Ws a₀ T lo st'/\x<=lo/\lo+T.length=a₀.size) (Q:=λc st'=>c=(none,a₀.size)/\Ws a₀ [] a₀.size st')
  ?step ?fin ⟨0,a₀.toList,rfl,⟨hk,hf,by rw [ha],[],by rw [hp];trivial,rfl,by rw [ha];simp⟩,Nat.le_refl _,by simp⟩) ?post)
 case fin =>
  rintro c st' ⟨lo,T,rfl,W,x1,x2⟩
  rw [Nat.max_eq_right (Nat.zero_le _)] at x1
  obtain rfl:T=[]:=List.length_eq_zero_iff.mp (by omega)
  obtain rfl:lo=a₀.size:=by simpa using x2
  exact⟨rfl,W⟩
 case step =>
  rintro x c st1 _ hx ⟨lo,T,rfl,W,x1,x2⟩
  dsimp only
  by_cases e0:lo≥a₀.size
  ·rw [if_pos e0]
   obtain rfl:T=[]:=List.length_eq_zero_iff.mp (by omega)
   obtain rfl:lo=a₀.size:=by simpa using x2
   exact wpS_pure ⟨rfl,W⟩
  rw [if_neg e0]
  have z1:(arrOf st1).size=a₀.size:=W.perm.size_eq
  refine wpS_bind (cnt W.kind (W.l8 hn) (by omega) (show lo+(a₀.size-lo)<=(arrOf st1).size by omega) λm st2 fr m1 m2 u=>?_)
  dsimp only
  have back:∀(n:Nat) (st3:SortSt),Fr lo st1 st3->1<=n->n<=a₀.size-lo->Up (arrOf st3) lo (lo+n)->∃ r T',Ws a₀ (r++T') lo st3/\r.length=n/\eT r/\lo+n+T'.length=a₀.size:=by
   intro n st3 f n1 n2 u3
   obtain⟨rs,p1,p2,p3⟩:=W.ex
   have z3:=f.size
   have tk:(arrOf st3).toList.take lo=rs.flatten:=by
    have:(arrOf st3).toList.take lo=(arrOf st1).toList.take lo:=by
     refine List.ext_getElem? λj=>?_
     by_cases c:j<lo
     ·rw [List.getElem?_take_of_lt c,List.getElem?_take_of_lt c,Array.getElem?_toList,Array.getElem?_toList]
      exact f.low j c
     ·rw [List.getElem?_eq_none (by rw [List.length_take];omega),List.getElem?_eq_none (by rw [List.length_take];omega)]
    rw [this,p3,<- p2,List.take_left]
   refine⟨((arrOf st3).toList.drop lo).take n,((arrOf st3).toList.drop lo).drop n,⟨f.kind.trans W.kind,f.failed.trans W.failed,f.perm.trans W.perm,rs,?_,p2,?_⟩,?_,uK u3,?_⟩
   ·rw [f.pend];exact p1
   ·rw [List.take_append_drop,<- tk,List.take_append_drop]
   ·simp;omega
   ·simp;omega
  have last:∀(n:Nat) (r T':List Keyed) (st3 st4:SortSt),Ws a₀ (r++T') lo st3->r.length=n->eT r->1<=n->lo+n+T'.length=a₀.size->kindOf st4=kindOf st3->failedOf st4=failedOf st3->arrOf st4=arrOf st3->pendingOf st4=(pendingOf st3).push (lo,n,0)->Ws a₀ T' (lo+n) st4:=by
   intro n r T' st3 st4 W3 l3 s3 n1 _ a b c d
   obtain⟨rs,p1,p2,p3⟩:=W3.ex
   refine⟨a.trans W3.kind,b.trans W3.failed,by rw [c];exact W3.perm,rs++[r],?_,?_,?_⟩
   ·rw [d,Array.toList_push]
    have:=p1.push (z:=0) (r:=r) (by omega) s3
    rw [Nat.zero_add,p2,l3] at this
    exact this
   ·simp [p2,l3]
   ·rw [c,p3];simp
  have z2:=fr.size
  by_cases e1:m<mr
  case' pos =>
   rw [if_pos e1]
   refine wpS_bind (wpS_lift (wpAny_rule ⟨rfl,?_⟩))
   refine wpS_bind (bin (n:=min (a₀.size-lo) (mr)) (fr.kind.trans W.kind) (fr.l8 (W.l8 hn)) (show lo+min (a₀.size-lo) (mr)<=(arrOf st2).size by omega) m1 (by omega) u λst3 fr3 u3=>?_)
   rw [if_neg (by simp)]
   obtain⟨r,T',W3,l3,s3,t3⟩:=back _ st3 (fr.trans fr3) (by omega) (by omega) u3
   have n1:1<=min (a₀.size-lo) (mr):=by omega
  case' neg =>
   rw [if_neg e1]
   obtain⟨r,T',W3,l3,s3,t3⟩:=back m st2 fr m1 m2 u
   have n1:=m1
  all_goals
   refine wpS_bind (wpS_get ?_)
   split
   ·refine wpS_bind (wpS_mono (wpS_forRange (I:=λ_ c st'=>c=(none,())/\Ws a₀ (r++T') lo st') (Q:=λc st'=>c=(none,())/\Ws a₀ (r++T') lo st') ?step3 (λ_ _ h=>h) ⟨rfl,W3⟩) ?post3)
    case step3 =>
     rintro y c st' _ hy ⟨rfl,W'⟩
     refine wpS_bind (wpS_get ?_)
     by_cases g:(pendingOf st').size > 1
     ·rw [if_pos g,Array.getElem?_eq_getElem (show (pendingOf st').size-2<(pendingOf st').size by omega)]
      dsimp only
      split
      ·exact wpS_pure ⟨rfl,W'⟩
      ·refine wpS_bind (CK hn W' (show (pendingOf st').size-2+1<(pendingOf st').size by omega) λst'' W'' _=>?_)
       exact wpS_pure ⟨rfl,W''⟩
     ·rw [if_neg g]
      exact wpS_pure ⟨rfl,W'⟩
    case post3 =>
     rintro c st' ⟨rfl,W'⟩
     have W4:∀ pw,Ws a₀ (r++T') lo (setPending st' ((pendingOf st').modify ((pendingOf st').size-1) λx=>(x.1,x.2.1,pw))):=λpw=>by
      obtain⟨rs,p1,p2,p3⟩:=W'.ex
      exact⟨W'.kind,W'.failed,W'.perm,rs,p1.alike (yS (f:=λx=>(x.1,x.2.1,pw)) (λ_=>rfl) _ _),p2,p3⟩
     refine wpS_bind (wpS_modify ?_)
     refine wpS_bind (wpS_modify ?_)
     exact wpS_pure ⟨_,T',rfl,last _ r T' _ _ (W4 _) l3 s3 n1 t3 rfl rfl rfl rfl,by omega,t3⟩
   ·exact wpS_bind (wpS_modify (wpS_pure ⟨_,T',rfl,last _ r T' _ _ W3 l3 s3 n1 t3 rfl rfl rfl rfl,by omega,t3⟩))
 case post =>
  rintro c st1 ⟨rfl,W⟩
  dsimp only
  refine wpS_bind (wpS_mono (wpS_forRange (I:=λx c st'=>c=(none,())/\Ws a₀ [] a₀.size st'/\(pendingOf st').size+x<=a₀.size+1) (Q:=λc st'=>c=(none,())/\Ws a₀ [] a₀.size st'/\(pendingOf st').size<=1)
   ?step2 ?fin2 ⟨rfl,W,by have:=W.CP;omega⟩) ?post2)
  case fin2 =>
   rintro c st' ⟨rfl,W',h⟩
   rw [Nat.max_eq_right (Nat.zero_le _)] at h
   exact⟨rfl,W',by omega⟩
  case step2 =>
   rintro x c st' _ hx ⟨rfl,W',h⟩
   refine wpS_bind (wpS_get ?_)
   by_cases e:(pendingOf st').size<=1
   ·rw [if_pos e]
    exact wpS_pure ⟨rfl,W',e⟩
   ·rw [if_neg e]
    have fin:∀ i,i+1<(pendingOf st').size->wpS (model prog w) A E s (mergeAt' i) (λr st''=>r=true/\Ws a₀ [] a₀.size st''/\(pendingOf st'').size+(x+1)<=a₀.size+1) st':=λi hi =>
     CK hn W' hi λst'' W'' h'=>⟨rfl,W'',by omega⟩
    refine wpS_bind (wpS_mono (fin _ ?_) ?_)
    ·exact CD _ _ e
    ·rintro r st'' ⟨rfl,W'',h'⟩
     exact wpS_pure ⟨rfl,W'',h'⟩
  case post2 =>
   rintro c st' ⟨rfl,W',h⟩
   refine wpS_pure (q st' W'.perm W'.failed ?_)
   obtain⟨rs,p1,p2,p3⟩:=W'.ex
   have l:=p1.len.1
   rw [Array.length_toList] at l
   rw [p3,List.append_nil]
   match rs,p1,l,p2 with
   | [],_,_,p2=>simp at p2;omega
   | [r],p1,_,_ =>
    match hpe:(pendingOf st').toList,p1 with
    | [x],p1=>simpa using p1.2.2.2.1
   | _::_::_,_,l,_=>simp at l;omega
end
end Tim
namespace Tim
open PySem PyProof.Rows
theorem qr {vs:List Value} {ns:List Int} (hI:IntsAre vs ns):dJ (pairsOf vs):=hI.intKeys
theorem z5 {xs:Array Keyed} {k:Nat} (hk:k=xs.size) (h:eT xs.toList):SortedTo xs k:=by
 subst hk
 have:=fX (xs:=xs) (a:=0) (n:=xs.size) (by omega) (by rw [List.drop_zero,List.take_of_length_le (by simp)];exact h)
 exact λi j h1 h2=>this i j (Nat.zero_le _) h1 (by omega)
section
variable {prog:Program} {w:World} {A:Around} {E:Value->Shared->Prop} {s:Shared}
theorem zU {a:Addr} {vs:List Value} {ns:List Int} {n:Nat} {P:Fin->Shared->Prop} (ho:s.heap.get? a=some (seqObj "list" vs.toArray n)) (hI:IntsAre vs ns) (hl:vs.length<=sizeLine)
  (h:∀(out:Array Value) (ns':List Int),IntsAre out.toList ns'->ns'.Perm ns->ns'.Pairwise (·<=·)->P (.done (.ret .none)) { s with heap:=sortedHeap s.heap a vs out }) :
  wpAny (model prog w) A (Builtin.«list.sort» ⟨[.ref a],[]⟩) P E s:=by
 by_cases yb:vs.length<64
 ·exact list_sort_tree ho hI yb h
 have sz:¬vs.toArray.size<2:=by rw [List.size_toArray];omega
 have lt:=Heap.lt_size ho
 rw [list_sort_plain]
 refine wpAny_bind (listItems_at ho rfl (wpAny_bind (listUpdate_at ho rfl ?_ (by simpa using hl) (by simp))))
 obtain⟨c,h1⟩:∃ c,(s.heap.update a (Obj.mapSeq λ_=>#[])).get? a=some (seqObj "list" #[] c):=⟨_,get?_update_seq ho _⟩
 refine wpAny_bind (seqEpoch_at h1 rfl ?_)
 refine wpAny_bind (wpAny_newTuple ?_ (by simpa using hl))
 refine wpAny_bind (wpAny_newList ?_ (by simp))
 refine wpAny_holding ?_
 have h2:(((s.heap.update a (Obj.mapSeq λ_=>#[])).push (seqObj "tuple" vs.toArray 0)).push (seqObj "list" #[] 0)).get? a=some (seqObj "list" #[] c):=by
  refine Eq.trans (Heap.get?_push_ne _ _ _ ?_) (Eq.trans (Heap.get?_push_ne _ _ _ ?_) h1)
  ·rw [size_push',Heap.size_update];exact Nat.ne_of_lt (Nat.lt_succ_of_lt lt)
  ·rw [Heap.size_update];exact Nat.ne_of_lt lt
 dsimp only
 rw [if_neg sz,if_neg sz]
 obtain⟨u,v,r,rfl⟩:∃ u v r,vs=u::v::r:=by
  match vs,yb with
  | u::v::r,_=>exact⟨u,v,r,rfl⟩
  | [_],yb=>simp at yb
  | [],yb=>simp at yb
 rw [keyKind_ints hI]
 refine wpAny_bind (wpAny_pure ?_)
 have run:=runs (prog:=prog) (w:=w) (A:=A) (E:=E) (s:={ s with heap:=((s.heap.update a (Obj.mapSeq λ_=>#[])).push (seqObj "tuple" (u::v::r).toArray 0)).push (seqObj "list" #[] 0) })
  (a₀:=pairsOf (u::v::r)) (st:=SortSt.mk' oneType' (pairsOf (u::v::r)) #[] 7 none)
  (Q:=λ_ t=>(arrOf t).Perm (pairsOf (u::v::r))/\failedOf t=none/\eT (arrOf t).toList) (qr hI) rfl rfl rfl rfl (by rw [pairsOf_size];simp) λt p f q=>⟨p,f,q⟩
 refine wpAny_bind (wpAny_mono run ?_ λ_ _ e=>e)
 rintro⟨_,t⟩ s' ⟨rfl,p,f,q⟩
 obtain⟨ns',i1,i2,i3⟩:=sorted_out hI p (z5 p.size_eq.symm q)
 refine wpAny_bind (seqEpoch_at h2 rfl ?_)
 refine wpAny_bind (listUpdate_at h2 rfl ?_ (by simp) ?_)
 ·dsimp only
  rw [f]
  simp only [bne_self_eq_false,Bool.false_eq_true,if_false]
  exact wpAny_pure (h _ ns' i1 i2 i3)
 ·rw [Array.size_map,p.size_eq,pairsOf_size]
  omega
end
end Tim
namespace L2
open PySem PySem.Spec PyProof.Rows
theorem gu:∀{us:List Value} {ns:List Int},IntsAre us ns->Vals (ns.map V.int) us
 | _,_,.nil=>.nil
 | _,_,.cons n t h=>.cons ⟨t,rfl⟩ (gu h)
def xk:List V->Hp->VK->Prop:=λxs H Q=>∃(a:Addr) (kvs:List (Key × V)) (ns:List Int),xs=[.ref a]/\H a=some (.dK kvs)/\kvs.map (·.1)=ns.map Sum.inl/\∀(p:Addr) (ns':List Int),ns'.Perm ns->ns'.Pairwise (·<=·)->H p=none->Q (.ref p) (upd H p (.lst (ns'.map V.int)))
theorem rQ:∀{us:List Value} {ns:List Int},us.length=ns.length->(∀(j:Nat) (v:Value),us[j]?=some v->∃ n t,ns[j]?=some n/\v=.int n t)->IntsAre us ns
 | [],[],_,_=>.nil
 | u::us,n::ns,hl,h=>by
  obtain⟨n',t,e1,e2⟩:=h 0 u rfl
  cases e1
  subst e2
  exact .cons _ t (rQ (by simpa using hl) λj v e=>by simpa using h (j+1) v (by simpa using e))
 | [],_::_,hl,_=>by simp at hl
 | _::_,[],hl,_=>by simp at hl
theorem mf {X:Cx} (hc:X.calm=true):cL X (.builtin "sorted") xk:=by
 intro pins s σ H xs us Q I r h
 obtain⟨a,kvs,ns,rfl,ha,hk,q⟩:=h
 obtain⟨u,rfl,ru⟩:=vals1 r
 cases ru
 obtain⟨z,hd,vs,rel,dd⟩:=vt I.hok ha
 obtain⟨ep,da⟩:=dd.dictAt
 have kl:vs.map (·.1)=ns.map Sum.inl:=rel.keys.symm.trans hk
 have nl:vs.length=ns.length:=by have:=congrArg List.length kl;simpa using this
 have zl:vs.length<=sizeLine:=by rw [<- rel.length];exact z
 refine Calls.call_function_entry kind_sorted plain_sorted entry_sorted (args_sorted1 _) ?_
 refine wpAny_bind (m:=checkCount "sorted" 1 1 _) (wpAny_pure ?_)
 refine wpAny_bind (PySem.W.kdu_collect (A:=X.A.in1) (PySem.W.kdl_dict (knd:=bj X.prog X.w) (kvs:=vs) (ep:=ep) hd) (I.ok.hd hc) da zl λh' tk acc hk' hacc=>?_)
 have al:acc.toList.length=vs.length:=by rw [Array.length_toList];exact hacc.1
 have hI:IntsAre acc.toList ns:=rQ (al.trans nl) λj v e=>by
  obtain⟨k,x,e1,e2⟩:=hacc.2 j v (by rw [<- Array.getElem?_toList];exact e)
  have e3:(ns.map Sum.inl)[j]?=some k:=by rw [<- kl,List.getElem?_map,e1];rfl
  rw [List.getElem?_map] at e3
  obtain⟨n,e4,e5⟩:=Option.map_eq_some_iff.mp e3
  rcases a9 e2 with⟨i,t,e6,e7⟩|⟨i,t,e6,e7⟩
  ·rw [e6] at e5
   cases e5
   exact⟨n,t,e4,e7⟩
  ·rw [e6] at e5
   cases e5
 refine wpAny_bind (wpAny_newList ?_ (by rw [al];exact zl))
 have z2:=Heap.get?_push_size h' (o:=seqObj "list" acc.toList.toArray 0) rfl
 refine wpAny_bind (wpAny_holding (wpAny_call_entry slot_list_sort ⟨_,z2,rfl⟩ entry_list_sort (Tim.zU z2 hI (by rw [al];exact zl) λout ns' a b c=>⟨_,rfl,wpAny_pure ⟨_,rfl,?_⟩⟩) (args_list_sort _)))
 have lt:∀ b o,s.heap.get? b=some o->b<h'.objs.size:=λb o e=>Heap.lt_size (hk' b o e)
 have old:∀ b o,s.heap.get? b=some o->(sortedHeap (h'.push (seqObj "list" acc.toList.toArray 0)) h'.objs.size acc.toList out).get? b=some o:=λb o e=>by
  rw [sortedHeap_old (Nat.ne_of_lt (lt b o e)) (by rw [Heap.size_push];exact Nat.lt_succ_of_lt (lt b o e))]
  exact Heap.get?_push_of_some _ (hk' b o e)
 have I0:Inv X pins σ H { s with heap:=h',toks:=tk }:=I.kept hk'
 have I1:Inv X pins σ H { s with heap:=sortedHeap (h'.push (seqObj "list" acc.toList.toArray 0)) h'.objs.size acc.toList out,toks:=tk }:=I.kept old
 obtain⟨e,he⟩:=sortedHeap_at (out:=out) z2
 have fT:H h'.objs.size=none:=I0.hok.fresh (Nat.le_refl _)
 have lo:ns'.length=acc.toList.length:=by rw [b.length_eq,<- nl,al]
 refine⟨.ref h'.objs.size,upd H h'.objs.size (.lst (ns'.map V.int)),?_,rfl,q _ ns' b c fT⟩
 exact I1.adopt (T:=h'.objs.size) (o:=.lst (ns'.map V.int)) (I0.my (Nat.le_refl _) fT) ⟨by rw [List.length_map,lo,al];exact zl,out.toList,e,gu a,he⟩
end L2
namespace L2
open PySem PySem.Spec PyProof.Rows PySem.W
section
variable {M:Model} {A:Around} {E:Value->Shared->Prop} {s:Shared} {base:Heap} {env:Env} {outer:List Env} {L e T:Addr} {C:Value} {dd:Option Addr} {fl:Value}
theorem oJ {Q:Unit->Shared->Prop} (hfr:A.frames=some (env::outer)) (hl:s.heap.FunFrames base (env::outer)) (hf:env.frame=some L) (ht:Tr s.heap e C dd T fl)
  (h:∀ h' T',Tr h' e C dd T' (rawInt L)->(T'=T∨s.heap.objs.size<=T')->Kp (c9 (env::outer)) [e,T] s.heap h'->Q () { s with heap:=h' }):wpAny M A (noteFrame (.ref e) env) Q E s:=by
 obtain⟨vs,sl,oT,ts,he,h1,hTe,hT,hdT,h3⟩:=ht
 unfold noteFrame
 simp only [hf]
 refine wpAny_bind (wpAny_field he rfl h1 ?_)
 rw [if_pos (show (Value.ref T != Value.none)=true from by simp)]
 refine wpAny_bind (wpAny_field hT hdT h3 ?_)
 by_cases c:fl=rawInt L
 ·rw [if_pos (by rw [c];simp [rawInt])]
  exact wpAny_pure (h s.heap T ⟨vs,sl,oT,ts,he,h1,hTe,hT,hdT,c▸h3⟩ (.inl rfl) ⟨λb o _ _ q=>q,λb o _ q=>⟨o.slots,q⟩⟩)
 rw [if_neg (λz=>c (beq_iff_eq.mp z))]
 refine wpAny_bind (wpAny_setField hT hdT (Array.getElem?_eq_some_iff.mp h3).1 ?_)
 generalize hu:s.heap.update T (Obj.mapFields (·.setIfInBounds 3 Value.none))=h1'
 have oth:∀ b,b≠T->h1'.get? b=s.heap.get? b:=λb hb=>by rw [<- hu];exact Heap.get?_update_other _ _ (Ne.symm hb)
 have hl1:h1'.FunFrames base (env::outer):=hl.of_keeps λb o hb hnf=>⟨o,(oth b λq=>by rw [q,hT] at hb;cases hb;exact hnf ts hdT).trans hb,rfl⟩
 refine jT (s:={ s with heap:=h1' }) hfr hl1 hf ((oth e (Ne.symm hTe)).trans he) (Array.getElem?_eq_some_iff.mp h1).1 λh' T' t' n' k'=>h h' T' t' (.inr ?_) ?_
 ·have z:h1'.objs.size=s.heap.objs.size:=by rw [<- hu];exact Heap.size_update ..
  rw [<- z];exact n'
 ·refine⟨λb o hb hf' q=>k'.keep b o (λz=>hb (by simp at z;simp [z])) hf' ((oth b λz=>hb (by simp [z])).trans q),λb o hb q=>k'.slot b o (λz=>hb (by simp at z;simp [z])) ((oth b λz=>hb (by simp [z])).trans q)⟩
theorem ot {Q:Unit->Shared->Prop} {fs:List Addr} {fr:Option Addr} (ht:Tr s.heap e C dd T fl) (h:∀ h',Tr h' e C dd T (fr.elim .none λf=>rawInt f)->Kp fs [T] s.heap h'->Q () { s with heap:=h' }):wpAny M A (setFlight (.ref e) fr) Q E s:=by
 obtain⟨vs,sl,oT,ts,he,h1,hTe,hT,hdT,h3⟩:=ht
 unfold setFlight
 refine wpAny_bind (wpAny_field he rfl h1 ?_)
 rw [if_pos (show (Value.ref T != Value.none)=true from by simp)]
 have hsz:=(Array.getElem?_eq_some_iff.mp h3).1
 refine wpAny_setField hT hdT hsz (h _ ?_ ?_)
 ·refine⟨vs,sl,_,_,(Heap.get?_update_other _ _ hTe).trans he,h1,hTe,Heap.get?_update_self _ hT (Obj.isFreed_of_fields (Obj.data_mapFields hdT _)),Obj.data_mapFields hdT _,by simp [hsz]⟩
 ·refine⟨λb o hb _ q=>(Heap.get?_update_other _ _ λz=>hb (by simp [z])).trans q,λb o hb q=>⟨o.slots,(Heap.get?_update_other _ _ λz=>hb (by simp [z])).trans q⟩⟩
theorem Kp.both {fs ch ch':List Addr} {h h' h'':Heap} (a:Kp fs ch h h') (b:Kp fs ch' h' h''):Kp fs (ch++ch') h h'' :=
 (a.mono λ_ z=>List.mem_append_left _ z).trans (b.mono λ_ z=>List.mem_append_right _ z)
theorem ud {Q:Unit->Shared->Prop} (hfr:A.frames=some (env::outer)) (hl:s.heap.FunFrames base (env::outer)) (hf:env.frame=some L) (ht:Tr s.heap e C dd T fl)
  (h:∀ h' T',Tr h' e C dd T' .none->(T'=T∨s.heap.objs.size<=T')->Kp (c9 (env::outer)) [e,T,T'] s.heap h'->Q () { s with heap:=h' }):wpAny M A (leaving env (.ref e)) Q E s:=by
 unfold leaving
 refine wpAny_bind (oJ hfr hl hf ht λh1' T' t1 n1 k1=>?_)
 exact ot (fs:=c9 (env::outer)) (fr:=none) t1 λh2 t2 k2=>h h2 T' t2 n1 (k1.both k2)
end
theorem Un.kp {fs ex ch:List Addr} {H H':Hp} {h h1 h2:Heap} (u:Un fs ex H H' h h1) (k:Kp fs ch h1 h2) (nc:∀ b o,h.get? b=some o->b∉ex->b∉ch):Un fs ex H H' h h2:=by
 refine⟨λb o q nn hb hx=>k.keep b o (nc b o q hx) hb (u.keep b o q nn hb hx),λb o q nn hb hx=>?_,u.free,λb o q hx=>?_,u.tups,u.frzs,u.tbls⟩
 ·obtain⟨s1,q1⟩:=u.slot b o q nn hb hx
  obtain⟨s2,q2⟩:=k.slot b _ (nc b o q hx) q1
  exact⟨s2,q2⟩
 ·obtain⟨o1,q1⟩:=u.there b o q hx
  obtain⟨s2,q2⟩:=k.slot b _ (nc b o q hx) q1
  exact⟨_,q2⟩
section
variable {P:Program} {w:World} {K:PySem.W.Frag} {mg:Str->Option Value} {base:Heap} {N:List Str} {qual:Str} {scope:Scope} {f:Addr} {cd:Value} {A:Around} {outer:List Env} {s:Shared} {H:Hp} {E:XK}
theorem wI {pins:List (Addr × Obj)} {σ:St} {H1 H':Hp} {s1 s':Shared} {x C T:Addr} {dd:Option Addr} {fl:Value} {fp:List Addr} (I:Inv (cQ (dO P w) P w K mg base N qual scope f cd A outer s H E) pins σ H1 s1)
  (os:s'.os=s1.os) (bare:AllBare s'.gens) (un:Un (c9 (envOfC qual scope s.heap.objs.size f cd::outer)) fp H1 H' s1.heap s'.heap) (hfp:∀ b∈fp,s.heap.objs.size<=b) (hfs:∀ b∈c9 (envOfC qual scope s.heap.objs.size f cd::outer),b∉fp)
  (hok:eX P w H' s'.heap) (tr:Tr s'.heap x (.ref C) dd T fl) (nx:∀ b o,s.heap.get? b=some o->b≠x) (nT:∀ b o,s.heap.get? b=some o->b≠T) (hT:H' T=none) (hx:H' x=some (XO x C dd)) (hE:E (.ref C) (some x) H') :
  (cQ (dO P w) P w K mg base N qual scope f cd A outer s H E).xe (.ref x) s':=by
 have hl:=gR I.stack un I.cJ hfs
 have frN:∀ b∈c9 (envOfC qual scope s.heap.objs.size f cd::outer),H' b=none:=λb hb=>by
  obtain⟨_,o,ho,_⟩:=I.stack.mem hb
  exact un.free b o ho (I.cJ b hb) (hfs b hb)
 show wpAny (model P w) (A.deeper (envOfC qual scope s.heap.objs.size f cd)) (leaving (envOfC qual scope s.heap.objs.size f cd) (.ref x)) _ _ s'
 refine ud (L:=s.heap.objs.size) I.ok.frames hl rfl tr λh'' T' t' n' k'=>?_
 have nex:∀ b:Addr,b∉(cQ (dO P w) P w K mg base N qual scope f cd A outer s H E).ex:=λb z=>absurd (show b∈([]:List Addr) from z) (by simp)
 have nfp:∀{b o},s.heap.get? b=some o->b∉fp:=λq z=>absurd (Heap.lt_size q) (Nat.not_lt.mpr (hfp _ z))
 have nT':∀{b o},s.heap.get? b=some o->b≠T':=λ{b o} q z=>by
  obtain⟨o1,q1⟩:=I.base.there b o q (nex b)
  rcases n' with y | y
  ·exact nT b o q (z.trans y)
  ·obtain⟨o2,q2⟩:=un.there b o1 q1 (nfp q)
   exact absurd (Heap.lt_size q2) (Nat.not_lt.mpr (z▸y))
 have old:∀ b o,s.heap.get? b=some o->b∉[x,T,T']:=λb o q hb=>by
  rcases List.mem_cons.mp hb with z | hb
  ·exact nx b o q z
  rcases List.mem_cons.mp hb with z | hb
  ·exact nT b o q z
  ·exact nT' q (List.mem_singleton.mp hb)
 have nfr:∀ b o,s.heap.get? b=some o->b∉c9 outer->b∉c9 (envOfC qual scope s.heap.objs.size f cd::outer):=λb o q hb hm=>by
  rcases List.mem_cons.mp (I.eI b hm) with z | z
  ·exact absurd (Heap.lt_size q) (by rw [z];exact Nat.lt_irrefl _)
  ·exact hb z
 obtain⟨vs,sl,oT,ts,he,r'⟩:=t'
 have tr':Tr h'' x (.ref C) dd T' .none:=⟨vs,sl,oT,ts,he,r'⟩
 have hT':H' T'=none:=by
  rcases n' with y | y
  ·rw [y];exact hT
  ·exact hok.fresh y
 refine⟨x,C,T',dd,H',rfl,os.trans I.os,bare,?_,?_,tr',?_,?_,hT',hx,hE⟩
 ·refine⟨λb o q nn hb _=>?_,λb o q nn hb _=>?_,λb o q nn _=>?_,λb o q _=>?_,λb xs q=>un.tups b xs (I.base.tups b xs q),λb o xs q=>un.frzs b o xs (I.base.frzs b o xs q),λb ps q=>?_⟩
  ·have q1:=I.base.keep b o q nn hb (nex b)
   have q2:=un.keep b o q1 (I.base.free b o q nn (nex b)) (nfr b o q hb) (nfp q)
   exact k'.keep b o (old b o q) (nfr b o q hb) q2
  ·obtain⟨s1',q1⟩:=I.base.slot b o q nn hb (nex b)
   obtain⟨s2',q2⟩:=un.any q1 (I.base.free b o q nn (nex b)) (nfp q)
   obtain⟨s3',q3⟩:=k'.slot b _ (old b o q) q2
   exact⟨s3',q3⟩
  ·obtain⟨o1,q1⟩:=I.base.there b o q (nex b)
   exact un.free b o1 q1 (I.base.free b o q nn (nex b)) (nfp q)
  ·obtain⟨o1,q1⟩:=I.base.there b o q (nex b)
   obtain⟨o2,q2⟩:=un.there b o1 q1 (nfp q)
   obtain⟨s3',q3⟩:=k'.slot b _ (old b o q) q2
   exact⟨_,q3⟩
  ·obtain⟨m1,e1⟩:=I.base.tbls b ps q
   obtain⟨m2,e2⟩:=un.tbls b _ e1
   exact⟨m1++m2,by rw [e2,Array.append_assoc]⟩
 ·exact gQ hok k' (λb hb=>by
   rcases List.mem_cons.mp hb with z | hb
   ·exact .inl z
   rcases List.mem_cons.mp hb with z | hb
   ·exact .inr (by rw [z];exact hT)
   ·exact .inr (by rw [List.mem_singleton.mp hb];exact hT')) frN hx he
 ·cases q:s.heap.get? x with
  | none=>rfl
  | some o=>exact absurd (List.mem_cons_self) (old x o q)
 ·cases q:s.heap.get? T' with
  | none=>rfl
  | some o=>exact absurd rfl (nT' q)
end
def B5 (X:Cx) (C:Addr) (_:Shared) (_:Hp) (_:List Addr):Value->Shared->Prop:=λe s' =>
 wpAny (model X.prog X.w) X.A (noteFrame e X.env) (λ_ s''=>∃ m,s''.heap.Ns C m/\∀ h',Heap.SameBut C s''.heap h'->∀ cenv:Env,cenv.locals=C->wpAny (model X.prog X.w) X.A (PySem.passOn "comprehension.variables-let-go" e cenv:Sem Value) (λ_ _=>False) X.xe { s'' with heap:=h' })
  (λe s''=>∃ m,s''.heap.Ns C m/\∀ h',Heap.SameBut C s''.heap h'->∀ cenv:Env,cenv.locals=C->wpAny (model X.prog X.w) X.A (PySem.passOn "comprehension.variables-let-go" e cenv:Sem Value) (λ_ _=>False) X.xe { s'' with heap:=h' }) s'
theorem yC {X:Cx} {scope:Scope} {cl:List (Str × Addr)}:∀ C s₂ H₂ fp use Q' acc e s',B5 X C s₂ H₂ fp e s'->notedBy (model X.prog X.w) X.A (compEnvC scope (cellsFrom (C+1) scope.names cl) C X.env) (λe s''=>compPost (model X.prog X.w) X.A X.xe use Q' acc C (.error e) s'') e s' :=
 λC s₂ H₂ fp use Q' acc e s' h=>by cases use<;>exact h
theorem uy {P:Program} {w:World} {K:PySem.W.Frag} {mg:Str->Option Value} {base:Heap} {N N':List Str} {qual:Str} {scope sc:Scope} {f:Addr} {cd:Value} {A:Around} {outer:List Env} {s:Shared} {H:Hp} {E:XK} {cl:List (Str × Addr)} {C:Addr} {s₂:Shared} {H₂:Hp} {fp:List Addr}
  (lc:gH (cQ (dO P w) P w K mg base N qual scope f cd A outer s H E) C s₂ H₂ fp) :
  Passes (dO P w) (bh (cQ (dO P w) P w K mg base N qual scope f cd A outer s H E) (B5 (cQ (dO P w) P w K mg base N qual scope f cd A outer s H E) C s₂ H₂ fp) N' sc cl C s₂ H₂ fp) E:=by
 intro pins σ H1 s1 e s' I hq
 obtain⟨x,Cl,T,dd,H',rfl,os,bare,un,hok,tr,nx,nT,hT,hx,hE⟩:=hq
 obtain⟨⟨pins0,σ0,I2⟩,new,nof,le⟩:=lc
 have un':Un (c9 (envOfC qual scope s.heap.objs.size f cd::outer)) [] H1 H' s1.heap s'.heap:=un
 have U1:Un (c9 (envOfC qual scope s.heap.objs.size f cd::outer)) fp H₂ H' s₂.heap s'.heap:=Un.trans I.base (un'.mono (λ_ z=>z) (λ_ z=>absurd z (by simp)))
 have hl:=gR I2.stack U1 I2.cJ nof
 have frN:∀ b∈c9 (envOfC qual scope s.heap.objs.size f cd::outer),H' b=none:=λb hb=>by
  obtain⟨_,o,ho,_⟩:=I2.stack.mem hb
  exact U1.free b o ho (I2.cJ b hb) (nof b hb)
 have Cfs:C∉c9 (envOfC qual scope s.heap.objs.size f cd::outer):=λhb=>by
  obtain⟨_,o,ho,_⟩:=I2.stack.mem hb
  exact absurd (Heap.lt_size ho) (Nat.not_lt.mpr le)
 obtain⟨mC,hn,_⟩:=I.loc
 replace hn:s1.heap.Ns C mC:=hn
 have C1:H1 C=none:=I.free
 obtain⟨oC,gC⟩:∃ oC,s1.heap.get? C=some oC:=by obtain⟨oC,_,_,gC,_⟩:=hn;exact⟨oC,gC⟩
 have Cx:C≠x:=λz=>by rw [z,nx] at gC;cases gC
 have CT:C≠T:=λz=>by rw [z,nT] at gC;cases gC
 have HC:H' C=none:=un'.free C oC gC C1 (by simp)
 have Ad:∀ o,s1.heap.get? C=some o->s'.heap.get? C=some o:=λo q=>un'.keep C o q C1 Cfs (by simp)
 have hfp:∀ b∈fp,s.heap.objs.size<=b:=λb hb=>(new b hb).elim id λz=>absurd (show b∈([]:List Addr) from z) (by simp)
 have n2:∀ b o,s₂.heap.get? b=some o->b∉fp->b≠x/\b≠T:=λb o q hb=>by
  obtain⟨o1,q1⟩:=I.base.there b o q hb
  exact⟨λz=>(by rw [z,nx] at q1;cases q1),λz=>(by rw [z,nT] at q1;cases q1)⟩
 have ns:∀ b o,s.heap.get? b=some o->b∉fp/\∃ o1,s₂.heap.get? b=some o1:=λb o q=>⟨λz=>absurd (Heap.lt_size q) (Nat.not_lt.mpr (hfp b z)),I2.base.there b o q (λz=>absurd (show b∈([]:List Addr) from z) (by simp))⟩
 show wpAny _ _ (noteFrame (.ref x) _) _ _ _
 refine oJ (L:=s.heap.objs.size) I2.ok.frames hl rfl tr λh1 T' t1 n1 k1=>?_
 have T'C:T'≠C:=by
  rcases n1 with y | y
  ·rw [y];exact Ne.symm CT
  ·exact Nat.ne_of_gt (Nat.lt_of_lt_of_le (Heap.lt_size (Ad _ gC)) y)
 have HT':H' T'=none:=by
  rcases n1 with y | y
  ·rw [y];exact hT
  ·exact hok.fresh y
 have n2':∀ b o,s₂.heap.get? b=some o->b∉fp->b≠T':=λb o q hb z=>by
  rcases n1 with y | y
  ·exact (n2 b o q hb).2 (z.trans y)
  ·obtain⟨o1,q1⟩:=U1.there b o q hb
   exact absurd (Heap.lt_size q1) (Nat.not_lt.mpr (z▸y))
 refine⟨mC,hn.at λo q=>k1.keep C o (by simp [Cx,CT]) Cfs (Ad o q),λh' hsb cenv hc=>?_⟩
 have k2:Kp (c9 (envOfC qual scope s.heap.objs.size f cd::outer)) [C] h1 h':=⟨λb o hb _ q=>hsb.extBut b o (by simpa using hb) q,λb o hb q=>⟨o.slots,hsb.extBut b o (by simpa using hb) q⟩⟩
 have t2:Tr h' x (.ref Cl) dd T' (rawInt s.heap.objs.size):=by
  obtain⟨vs,sl,oT,ts,he,h1',hTe,hT',r'⟩:=t1
  exact⟨vs,sl,oT,ts,hsb.extBut _ _ (Ne.symm Cx) he,h1',hTe,hsb.extBut _ _ T'C hT',r'⟩
 have t2':=t2
 obtain⟨vs,sl,oT,ts,he,h1',r'⟩:=t2
 unfold PySem.passOn
 refine wpAny_bind (wpAny_field he rfl h1' ?_)
 rw [if_neg (by simp)]
 refine wpAny_bind (ot (s:={ s' with heap:=h' }) (fs:=c9 (envOfC qual scope s.heap.objs.size f cd::outer)) t2' λh3 t3 k3=>?_)
 have kk:=(k1.both k2).both k3
 refine wpAny_throw ?_
 obtain⟨vs3,sl3,oT3,ts3,he3,r3⟩:=id t3
 refine wI (s':={ s' with heap:=h3 }) I2 (os.trans I.os) bare (U1.kp kk λb o q hb z=>?_) hfp nof ?_ t3 (λb o q=>?_) (λb o q=>?_) HT' hx hE
 ·have y1:=n2 b o q hb
  have y2:=n2' b o q hb
  have y3:b≠C:=λz=>absurd (Heap.lt_size q) (Nat.not_lt.mpr (z▸le))
  simp at z
  rcases z with z | z | z | z
  ·exact y1.1 z
  ·exact y1.2 z
  ·exact y3 z
  ·exact y2 z
 ·refine gQ hok kk (λb hb=>?_) frN hx he3
  simp at hb
  rcases hb with z | z | z | z
  ·exact .inl z
  ·exact .inr (z▸hT)
  ·exact .inr (z▸HC)
  ·exact .inr (z▸HT')
 ·obtain⟨hb,o1,q1⟩:=ns b o q
  exact (n2 b o1 q1 hb).1
 ·obtain⟨hb,o1,q1⟩:=ns b o q
  exact n2' b o1 q1 hb
section
variable {P:Program} {w:World} {K:PySem.W.Frag} {mg:Str->Option Value} {base:Heap} {N:List Str} {qual:Str} {sc:Scope} {f:Addr} {cd:Value} {A:Around} {outer:List Env} {s:Shared} {H:Hp} {E:XK}
variable {elt target iter:Expr} {ifs:List Expr} {scope:Scope} {pos:Pos} {N':List Str} {js:List (Option Nat)} {cl:List (Str × Addr)} {wi:TI} {g:TG} {tt:TT} {te:TE}
theorem w6 {X:Cx} {i0:Nat} {x0:Str} {pos' pos2:Pos} (hN0:X.N.Nodup) (hi0:X.N[i0]?=some x0) (hx0:Loc X.env.scope x0) (hcalm:X.calm=true)
  (K:d7 X N' js scope cl) (hi:PI X target iter wi)
  (hg:∀ C s₂ H₂ fp,gH X C s₂ H₂ fp->PG (bh X (B5 X C s₂ H₂ fp) N' scope cl C s₂ H₂ fp) target g) (ht:∀ C s₂ H₂ fp,gH X C s₂ H₂ fp->jO (bh X (B5 X C s₂ H₂ fp) N' scope cl C s₂ H₂ fp) ifs tt) (he:∀ C s₂ H₂ fp,gH X C s₂ H₂ fp->PE (bh X (B5 X C s₂ H₂ fp) N' scope cl C s₂ H₂ fp) elt te)
  (hsw:swapsWith (.ListComp elt [⟨target,iter,ifs,0⟩] scope pos) (some (.Name x0 pos')) pos2.line X.env=pure true) (hf0:X.fn x0=true∨X.env.scope.names.lookup x0=some .local)
  (hs:∀ x,foldedSetIterable iter X.env x=pure x:=by intro _;rfl):PS X (.Assign [.Name x0 pos'] (.ListComp elt [⟨target,iter,ifs,0⟩] scope pos) pos2) (rB (Dd js wi g tt te) (b8 i0)) :=
 oY (Ex:=B5 X) hN0 hi0 hx0 hcalm K hi hg ht he yC hsw hf0 hs
end
end L2
namespace L2
open PySem PySem.Spec PyProof.Rows
def z9 (J:It) (g:TG) (tt:TT) (te:TE) (ys:List V) (σ:St) (N:List V->Hp->Prop) (H1:Hp):Prop:=∃ W:Nat->Nat->List V->Hp->Prop,(∃ m,W 0 m ys H1)/\∀ i m zs H,W i m zs H ->
 (J.stop i H/\N zs H) ∨
 (J.go i H/\zs.length<sizeLine/\∃ N2:List V->Hp->Prop,(∀ zs' H',N2 zs' H'->∃ m',m'<m/\W (i+1) m' zs' H') /\
  ∀ x H',J.yld i H x H'->g x σ H' λσ2 H2=>bf σ σ2/\tt σ2 H2 λb H3=>if b=true then te σ2 H3 λv H4=>N2 (zs++[v]) H4 else N2 zs H3)
theorem AW {wi:TI} {g:TG} {tt:TT} {te:TE} {ys:List V} {σ:St} {H:Hp} {N:List V->Hp->Prop}:B7 wi g tt te ys σ H N=wi σ H λJ H1=>z9 J g tt te ys σ N H1:=rfl
def uR (J:It) (js:List (Option Nat)) (g1:TG) (tt1:TT) (wi2:TI) (g2:TG) (tt2:TT) (te:TE) (σ:St) (Q:VK) (H1:Hp):Prop:=∃ W:Nat->Nat->List V->Hp->Prop,(∃ m,W 0 m [] H1)/\∀ i m ys H,W i m ys H ->
 (J.stop i H/\ys.length<=sizeLine/\∀ p,H p=none->Q (.ref p) (upd H p (.lst ys))) ∨
 (J.go i H/\True/\∃ N:List V->Hp->Prop,(∀ ys' H',N ys' H'->∃ m',m'<m/\W (i+1) m' ys' H') /\
  ∀ x H',J.yld i H x H'->g1 x (cS js σ) H' λσ2 H2=>bf (cS js σ) σ2/\tt1 σ2 H2 λb H3=>if b=true then B7 wi2 g2 tt2 te ys σ2 H3 N else N ys H3)
theorem zX {js:List (Option Nat)} {wi1 wi2:TI} {g1 g2:TG} {tt1 tt2:TT} {te:TE} {σ:St} {H:Hp} {Q:VK}:De js wi1 g1 tt1 wi2 g2 tt2 te σ H Q=wi1 σ H λJ H1=>uR J js g1 tt1 wi2 g2 tt2 te σ Q H1:=rfl
theorem qF {K:PySem.W.Frag} {a:Addr} {xs ys:List V} {g:TG} {tt:TT} {te:TE} {σ:St} {N:List V->Hp->Prop} {H1:Hp} (Pv:Nat->List V->Hp->Prop) (h0:Pv 0 ys H1) (hl:∀ i zs H,i<=xs.length->Pv i zs H->aM K H a xs/\zs.length<sizeLine)
  (hs:∀ i x zs H,xs[i]?=some x->Pv i zs H->g x σ H λσ2 H2=>bf σ σ2/\tt σ2 H2 λb H3=>if b=true then te σ2 H3 λv H4=>Pv (i+1) (zs++[v]) H4 else Pv (i+1) zs H3)
  (hd:∀ zs H,Pv xs.length zs H->N zs H):z9 (ye K a) g tt te ys σ N H1:=by
 refine⟨λi m zs H=>m=xs.length-i/\i<=xs.length/\Pv i zs H,⟨xs.length,by simp,Nat.zero_le _,h0⟩,?_⟩
 rintro i m zs H ⟨rfl,hi,p⟩
 obtain⟨q,z⟩:=hl i zs H hi p
 by_cases hlt:i<xs.length
 ·refine .inr ⟨⟨xs,xs[i],q,by simp [hlt]⟩,z,Pv (i+1),λzs' H' p'=>⟨xs.length-(i+1),by omega,rfl,hlt,p'⟩,λx H' y=>?_⟩
  obtain⟨e,y⟩:=y
  subst e
  exact hs i x zs _ (y xs q) p
 ·have e:i=xs.length:=by omega
  subst e
  exact .inl ⟨⟨xs,q,Nat.le_refl _⟩,hd zs H p⟩
theorem nO {K:PySem.W.Frag} {a:Addr} {xs:List V} {js:List (Option Nat)} {g1 g2:TG} {tt1 tt2:TT} {wi2:TI} {te:TE} {σ:St} {Q:VK} {H1:Hp} (Pv:Nat->List V->Hp->Prop) (h0:Pv 0 [] H1) (hl:∀ i ys H,i<=xs.length->Pv i ys H->aM K H a xs/\ys.length<=sizeLine)
  (hs:∀ i x ys H,xs[i]?=some x->Pv i ys H->g1 x (cS js σ) H λσ2 H2=>bf (cS js σ) σ2/\tt1 σ2 H2 λb H3=>if b=true then B7 wi2 g2 tt2 te ys σ2 H3 (Pv (i+1)) else Pv (i+1) ys H3)
  (hd:∀ ys H p,Pv xs.length ys H->H p=none->Q (.ref p) (upd H p (.lst ys))):uR (ye K a) js g1 tt1 wi2 g2 tt2 te σ Q H1:=by
 refine⟨λi m ys H=>m=xs.length-i/\i<=xs.length/\Pv i ys H,⟨xs.length,by simp,Nat.zero_le _,h0⟩,?_⟩
 rintro i m ys H ⟨rfl,hi,p⟩
 obtain⟨q,z⟩:=hl i ys H hi p
 by_cases hlt:i<xs.length
 ·refine .inr ⟨⟨xs,xs[i],q,by simp [hlt]⟩,True.intro,Pv (i+1),λys' H' p'=>⟨xs.length-(i+1),by omega,rfl,hlt,p'⟩,λx H' y=>?_⟩
  obtain⟨e,y⟩:=y
  subst e
  exact hs i x ys _ (y xs q) p
 ·have e:i=xs.length:=by omega
  subst e
  exact .inl ⟨⟨xs,q,Nat.le_refl _⟩,z,λq hq=>hd ys H q p hq⟩
theorem wR {X:Cx} {tg l:Expr} {tl:TE} {K:PySem.W.Frag} (hK:X.K=K) (hl:PE X l tl):PI X tg l (vM K tl):=hK▸bo hl
section
variable {X:Cx}
end
def vN:List Expr->Option TA
 | []=>some xQ
 | e::es=>match e,vN es with
  | .Constant (.int i) _ _,some b=>some (xK (tC (.int i)) b)
  | _,_=>none
theorem rZ {X:Cx}:∀{es:List Expr} {ta:TA},vN es=some ta->PA X es ta
 | [],ta,h=>by
  injection h with h
  subst h
  exact ag
 | e::es,ta,h=>by
  unfold vN at h
  split at h
  ·rename_i i x y b hb
   injection h with h
   subst h
   exact aa ah (rZ hb) rfl
  ·cases h
end L2
namespace Num
open PySem PySem.Spec PyProof.Rows
theorem kC {ps:List (Int × Int)} {ds:Nat->PyData} {r:PyData} (h:r∈rowsOf ps ds):∃ i q k,ps[i]?=some (q,k)/\r=.tuple [ds i,.int k]:=by
 unfold rowsOf at h
 obtain⟨i,hi,rfl⟩:=List.mem_map.mp h
 have il:=List.mem_range.mp hi
 have g:=List.getElem?_eq_getElem il
 exact⟨i,_,_,g,by rw [List.getD_eq_getElem?_getD,g];rfl⟩
theorem i7 {m:Nat}:∀{ds:List PyData},(∀ d∈ds,d.depth<=m)->PyData.depthAll ds<=m
 | [],_=>by simp [PyData.depthAll]
 | d::ds,h=>by
  have h1:=h d (List.mem_cons_self ..)
  have h2:=i7 λe he=>h e (List.mem_cons_of_mem _ he)
  simp only [PyData.depthAll]
  omega
theorem lh:∀{ds:List PyData},(∀ d∈ds,d.canLay0=true)->PyData.canLayAll0 ds=true
 | [],_=>rfl
 | d::ds,h=>by simp [PyData.canLayAll0,h d (List.mem_cons_self ..),lh λe he=>h e (List.mem_cons_of_mem _ he)]
theorem i5.deep {n:Int} {d:PyData} (h:i5 n d):d.canLay0=true/\∃ k:Nat,d.depth+1<=3*k/\(2:Int)^k<=2*(n-1):=by
 induction h with
 | mk p g ps ds h1 h2 h3 h4 h5 h6 ih =>
  have p2:=h1.two
  have lay:PyData.canLayAll0 (rowsOf ps ds)=true:=lh λr hr=>by
   obtain⟨i,q,k,hi,rfl⟩:=kC hr
   simp [PyData.canLay0,PyData.canLayAll0,(ih i q k hi).1]
  refine⟨by simp [PyData.canLay0,PyData.canLayAll0,lay],?_⟩
  by_cases e2:p=2
  ·subst e2
   have hps:ps=[]:=by
    have:Part (1:Int) ps:=h4
    exact this.one ⟨λ_ z=>by simp at z,List.Pairwise.nil,rfl⟩
   subst hps
   exact⟨1,by simp [PyData.depth,PyData.depthAll,rowsOf],by decide⟩
  ·-- each prime of the parts is at most half
   obtain⟨k,hk,hk2⟩:∃ k:Nat,(∀ i q m,ps[i]?=some (q,m)->(ds i).depth+1<=3*k)/\(2:Int)^(k+1)<=2*(p-1):=by
    have half:∀ i q m,ps[i]?=some (q,m)->2*(q-1)*2<=2*(p-1):=λi q m hi=>by
     have hq:=h4.ok _ (List.mem_of_getElem? hi)
     have dv:q∣p-1:=h4.dv (List.mem_of_getElem? hi)
     obtain⟨c,hc⟩:=dv
     have q2:=hq.1.two
     have c0:1<=c:=by
      rcases (by omega:c<=0∨1<=c) with z | z
      ·have:=Int.mul_nonpos_of_nonneg_of_nonpos (show 0<=q by omega) z
       simp only at *
       omega
      ·exact z
     rcases (by omega:c=1∨2<=c) with z | z
     ·-- p-1 is a prime: so p is 3
      rw [z,Int.mul_one] at hc
      have od:p%2=1:=by
       rcases (by omega:p%2=0∨p%2=1) with y | y
       ·exact absurd (Int.dvd_of_emod_eq_zero y) (h1.no 2 (by decide) (by omega))
       ·exact y
      have q2':q=2:=by
       rcases (by omega:q=2∨2<q) with y | y
       ·exact y
       ·exact absurd (Int.dvd_of_emod_eq_zero (show q%2=0 by omega)) (hq.1.no 2 (by decide) y)
      omega
     ·have:=Int.mul_le_mul_of_nonneg_left z (show 0<=q by omega)
      omega
    have all:∀ i q m,ps[i]?=some (q,m)->∃ k:Nat,(ds i).depth+1<=3*k/\(2:Int)^(k+1)<=2*(p-1):=λi q m hi=>by
     obtain⟨k,a,b⟩:=(ih i q m hi).2
     exact⟨k,a,by rw [Int.pow_succ];have:=half i q m hi;omega⟩
    -- the greatest of them
    have key:∀ n:Nat,n<=ps.length->∃ k:Nat,(∀ i q m,i<n->ps[i]?=some (q,m)->(ds i).depth+1<=3*k)/\(2:Int)^(k+1)<=2*(p-1):=by
     intro n
     induction n with
     | zero=>exact λ_=>⟨0,λi q m hi=>by omega,by rw [Int.pow_succ,Int.pow_zero];omega⟩
     | succ n ihn =>
      intro hn
      obtain⟨k,a,b⟩:=ihn (by omega)
      obtain⟨k',a',b'⟩:=all n _ _ (List.getElem?_eq_getElem (show n<ps.length by omega))
      rcases Nat.le_total k k' with z | z
      ·refine⟨k',λi q m hi h=>?_,b'⟩
       rcases (by omega:i<n∨i=n) with y | y
       ·have:=a i q m y h;omega
       ·subst y;exact a'
      ·refine⟨k,λi q m hi h=>?_,b⟩
       rcases (by omega:i<n∨i=n) with y | y
       ·exact a i q m y h
       ·subst y;omega
    obtain⟨k,a,b⟩:=key ps.length (Nat.le_refl _)
    exact⟨k,λi q m hi=>a i q m (List.getElem?_eq_some_iff.mp hi).1 hi,b⟩
   refine⟨k+1,?_,hk2⟩
   have rows:PyData.depthAll (rowsOf ps ds)<=3*k:=i7 λr hr=>by
    obtain⟨i,q,m,hi,rfl⟩:=kC hr
    have:=hk i q m hi
    simp only [PyData.depth,PyData.depthAll]
    omega
   simp only [PyData.depth,PyData.depthAll]
   omega
theorem i5.depth {n:Int} {d:PyData} (h:i5 n d):d.depth<=90:=by
 obtain⟨_,k,a,b⟩:=h.deep
 have:n<=10^9:=by cases h;assumption
 have k30:k<=30:=by
  rcases (by omega:k<=30∨31<=k) with z | z
  ·exact z
  ·exfalso
   have e:(2:Int)^k=2^31*2^(k-31):=by rw [<- Pw.pow_add];congr 1;omega
   have p0:=bz (show (0:Int)<2 by decide) (k-31)
   have:=Int.mul_le_mul_of_nonneg_left (show (1:Int)<=2^(k-31) by omega) (show (0:Int)<=2^31 by decide)
   have:(2:Int)^31=2147483648:=by decide
   omega
 omega
end Num
namespace L2
open PySem PySem.Spec PyProof.Rows
end L2
namespace L2
open PySem PySem.Spec PyProof.Rows PySem.W
section
variable {X:Cx} {pins:List (Addr × Obj)} {σ:St} {H:Hp} {s:Shared} {x:Addr}
theorem yu {ds:List Value} {aF:List V} {fn:Addr} {fd:FuncData} {ps:List Str} {sp:Sp} {k:Nat} {E:XK} {f:Str} {e:Expr} {es:List Expr} {t:TA} {p pos:Pos} {Q:VK} (F:cq X.prog X.w X.K X.mg X.base (dO X.prog X.w) k fn fd ps sp) (hr:bF k X.A) (hg:Gl X f) (hm:X.mg f=some (.ref fn)) (hk:PySem.W.keepIn X.K (.ref fn)=true) (hb:Binds X.K fd ps ds) (hd:Vals aF ds)
  (ha:PA X.lL (e::es) t) (I:Inv X pins σ H s) (h:t σ H λvs H1=>sp (vs++aF) H1 Q E) (hdb:(f==("__debug__":Str))=false:=by decide) (he:starEach (e::es) X.env=(false,eval e X.env)::starEach es X.env:=by rfl) (hpl:(backTo pos (starEach es X.env)).any (·.1)=false:=by rfl) :
  wpAny (model X.prog X.w) X.A (eval (.Call (.Name f p) (e::es) [] pos) X.env) (EP X pins σ Q) (λev s'=>∃ H1 s1,Inv X pins σ H1 s1/\dO X.prog X.w X.stack H1 s1 E ev s') s:=by
 refine wpAny_Call_Name_kw (eB I hg hm ?_ hdb)
 refine PySem.W.callWith_K (h₀:=X.base) I.ok.mod.kin hk (wpAny_mono (ha pos pins s σ H _ (I.iB _) h) (λus s1 ⟨vs,H1,J1,r,q⟩=>?_) λ_ _ z=>False.elim z) he hpl
 have I1:Inv X pins σ H1 s1:=J1.c8
 refine⟨I1.d6,?_⟩
 have r':=r.append hd
 have hl:(us++ds).length=ps.length:=by rw [<- r'.length];exact F.len _ _ _ _ q
 have bt:=hb s1 us I1.d6 hl
 refine wpAny_call (codeAny_mono (F.run X.A X.stack s1 H1 ⟨us,[]⟩ (us++ds) (vs++aF) Q E hr I1.yB bt r' q) λr2 s' hq=>?_)
 cases r2 with
 | error e=>exact⟨H1,s1,I1,hq⟩
 | ok fl =>
  cases fl with
  | ret u=>exact I1.after hq
  | next=>exact False.elim hq
  | brk=>exact False.elim hq
  | cont=>exact False.elim hq
end
section
variable {X:Cx} {B:Addr} {n:Option Nat} {hn:ExceptHandler} {ts:TS}
variable {k:Nat} {f:Str} {ps:List Str} {sp:Sp} {e:Expr} {es:List Expr} {t:TA} {p cpos epos pos:Pos}
theorem xb {ds:List Value} {aF:List V} {i:Nat} {nm:Str} {tp:Pos} (Cl:jw X.prog X.w X.K X.mg X.base (dO X.prog X.w) k f ps ds sp) (hd:Vals aF ds) (hr:bF k X.A) (hg:Gl X f) (hst:X.stack=X.env::X.outer) (hfr:X.env.frame=some X.env.locals) (hN:X.N.Nodup) (hi:X.N[i]?=some nm) (hx:X.env.scope.names.lookup nm=some .local) (ha:PA X.lL (e::es) t) (hh:PH X n B hn ts)
  (hdb:(f==("__debug__":Str))=false:=by decide) (he:starEach (e::es) X.env=(false,eval e X.env)::starEach es X.env:=by rfl) (hpl:(backTo cpos (starEach es X.env)).any (·.1)=false:=by rfl)
  (hs:swapsWith (.Call (.Name f p) (e::es) [] cpos) (some (.Name nm tp)) epos.line X.env=pure false:=by rfl) :
  PS X (.Try [.Assign [.Name nm tp] (.Call (.Name f p) (e::es) [] cpos) epos] [hn] [] [] pos) (Dm X.K B n (λvs=>sp (vs++aF)) t (λv σ=>σ.set i (some v)) ts):=by
 intro pins s σ H D I h
 obtain⟨fn,fd,F,hm,hk,_,hb⟩:=Cl.ex
 refine wpAny_Try_except (wpAny_execs_cons (wpAny_Assign_Name (wpAny_mono (yu F hr hg hm hk hb hd ha I h hdb he hpl) (λv s1 ⟨y,H1,I1,r1,q1⟩=>cf I1 hN hi (.inl hx) r1 (λs2 I2=>wpAny_execs_nil (wpAny_execs_nil ⟨_,H1,I2,q1⟩)) (.inr hx)) λev s' ⟨H1,s1,I1,hq⟩=>?_) hs))
 exact A9 hst hfr hh I1 hq λC x H' ⟨C',x',dd,e1,e2,_,c1,c2,c3⟩=>by cases e1;cases e2;exact⟨c1,c2,c3⟩
end
end L2
set_option maxHeartbeats 8000000
namespace K
open PySem PySem.Spec PyProof.Rows L2
def top (i:Nat):Stmt:=PySem.Challenge.pw_rootprime_k71_powers_by_small_primes.main.body.getD i (.Pass ⟨0,0,0,0⟩)
theorem vT {us:List Value} (h:us.length=1):∃ a,us=[a]:=match us,h with | [a],_=>⟨a,rfl⟩
theorem rV {us:List Value} (h:us.length=2):∃ a b,us=[a,b]:=match us,h with | [a,b],_=>⟨a,b,rfl⟩
theorem An {us:List Value} (h:us.length=3):∃ a b c,us=[a,b,c]:=match us,h with | [a,b,c],_=>⟨a,b,c,rfl⟩
theorem vU {us:List Value} (h:us.length=4):∃ a b c d,us=[a,b,c,d]:=match us,h with | [a,b,c,d],_=>⟨a,b,c,d,rfl⟩
theorem Ao {us:List Value} (h:us.length=5):∃ a b c d e,us=[a,b,c,d,e]:=match us,h with | [a,b,c,d,e],_=>⟨a,b,c,d,e,rfl⟩
theorem Aq {us:List Value} (h:us.length=6):∃ a b c d e f,us=[a,b,c,d,e,f]:=match us,h with | [a,b,c,d,e,f],_=>⟨a,b,c,d,e,f,rfl⟩
theorem dG {N P:List Str} {sc:Scope} (a:sc.kind=.function:=by exact rfl) (b:sc.isCoroutine=false:=by exact rfl) (c:sc.isGenerator=false:=by exact rfl) (d:N.Nodup:=by decide +kernel) (e:N.take P.length=P:=by exact rfl) (f:∀ x∈P,sc.names.lookup x=some .local∨sc.names.lookup x=some .cell:=by decide +kernel) (g:∀ y∈sc.names,y.2≠.free:=by decide +kernel):av N P sc:=⟨a,b,c,d,e,f,g⟩
theorem eA {F:PySem.W.Frag} {mg:Str->Option Value} {x:Str} {h:Heap} {f:Addr} {st:Stmt} {oc:Value} {od an:Option Addr} {osl:Array (Option Value)} {kV doc pm cdv ct:Value} (X:F.In h) (G:h.Ns mainGlobals mg) (a:PySem.W.nsIn F mainGlobals x=some (some (.ref f)):=by k_is) (l:F.lookup f=some ⟨oc,od,.func (PySem.W.fnOf x x (aR st) (aH st) (aj st) .none kV doc pm an cdv ct),osl⟩:=by k_is) (c:PySem.W.codeIn F cdv x=true:=by k_is) (kk:PySem.W.keepIn F (.ref f)=true:=by k_is):ay (dz X) mg x st:=vj X G a l c kk
theorem nP {X:Cx} {N':List Str} {js:List (Option Nat)} {scope:Scope} {cl:List (Str × Addr)} (clos:closureFor scope X.env=pure cl) (kind:scope.kind=.function) (nocell:∀ y∈scope.names,y.2=.cell->scope.names.lookup y.1=some .cell/\∀ p∈js.zip N',p.1.isSome=true->p.2≠y.1:=by decide +kernel) (names:∀ y∈scope.names,y.2=.local->scope.names.lookup y.1=some .local:=by decide +kernel) (sub:AllIn X.env cl:=by repeat (first | exact True.intro | refine⟨rfl,?_⟩)) (has:iG cl scope.names:=by repeat (first | exact True.intro | refine⟨rfl,?_⟩ | refine⟨True.intro,?_⟩)) (j:gG X scope cl js N':=by repeat (first | exact True.intro | refine⟨⟨rfl,rfl,.inl rfl,.inl rfl⟩,?_⟩)):d7 X N' js scope cl:=Bc clos kind nocell names sub has j
theorem bG {X:Cx} {pos:Pos} {i:Nat} {x:Str} {e:Expr} {te:TE} {pos':Pos} (hN:X.N.Nodup) (he:PE X e te) (hi:X.N[i]?=some x:=by exact rfl) (hx:Loc X.env.scope x:=by exact Or.inl rfl) (hs:swapsWith e (some (.Name x pos')) pos.line X.env=pure false:=by rfl) (hf:X.fn x=true∨X.env.scope.names.lookup x=some .local:=by first | exact .inl rfl | exact .inr rfl | assumption):PS X (.Assign [.Name x pos'] e pos) (rB te (b8 i)):=iU hN hi hx he hs hf
theorem cw {X:Cx} {CX:jq} {k n:Nat} {x:Str} {ps:List Str} {sp:Sp} {E:XK} {e:Expr} {es:List Expr} {t:TA} {p pos:Pos} (C:Callee X.prog X.w X.K X.mg X.base CX k x ps sp) (hr:bF n X.A) (hx:Passes CX X E) (ha:PA X (e::es) t) (hm:k<=n:=by decide) (hg:Gl X x:=by exact rfl) (hdb:(x==("__debug__":Str))=false:=by decide) (he:starEach (e::es) X.env=(false,eval e X.env)::starEach es X.env:=by rfl) (hpl:(backTo pos (starEach es X.env)).any (·.1)=false:=by rfl):PE X (.Call (.Name x p) (e::es) [] pos) (sO sp [] E t):=bN C (hr.mono hm) hg hx ha hdb he hpl
theorem cO {P:Program} {w:World} {F:PySem.W.Frag} {mg:Str->Option Value} {base:Heap} {k:Nat} {x:Str} {ps:List Str} {sp:Sp} {st:Stmt} {N:List Str} (D:ay F mg x st) (S:av N ps (aj st))
  (hbody:∀(f:Addr) (cdv:Value) (A:Around) (outer:List Env) (s:Shared) (H:Hp) (vs:List V) (Q:VK) (E:XK),bF k (A.deeper (envOfC x (aj st) s.heap.objs.size f cdv))->sp vs H Q E->∃ t,iD (cQ aO P w F mg base N x (aj st) f cdv A outer s H E).lL (aH st) t/\t { nx:=λ_ H'=>Q .non H',rt:=Q } (start N vs) H)
  (hb:∀(kV doc pm:Value) (an:Option Addr) (cdv ct:Value) (us:List Value),us.length=ps.length->bindArgs (PySem.W.fnOf x x (aR st) (aH st) (aj st) .none kV doc pm an cdv ct) ⟨us,[]⟩=pure (ps.zip us):=by
    intro _ _ _ _ _ _ us hl
    first | (obtain⟨_,rfl⟩:=vT hl;exact rfl) | (obtain⟨_,_,rfl⟩:=rV hl;exact rfl) | (obtain⟨_,_,_,rfl⟩:=An hl;exact rfl) | (obtain⟨_,_,_,_,rfl⟩:=vU hl;exact rfl) | (obtain⟨_,_,_,_,_,rfl⟩:=Ao hl;exact rfl) | (obtain⟨_,_,_,_,_,_,rfl⟩:=Aq hl;exact rfl))
  (len:∀ vs H Q E,sp vs H Q E->vs.length=ps.length:=by
    intro _ _ _ _ h
    first | (obtain⟨_,rfl,_⟩:=h;rfl) | (obtain⟨_,_,rfl,_⟩:=h;rfl) | (obtain⟨_,_,_,rfl,_⟩:=h;rfl) | (obtain⟨_,_,_,_,rfl,_⟩:=h;rfl) | (obtain⟨_,_,_,_,_,rfl,_⟩:=h;rfl) | (obtain⟨_,_,_,_,_,_,rfl,_⟩:=h;rfl) | (obtain⟨_,_,_,_,_,_,_,rfl,_⟩:=h;rfl) | (obtain⟨_,_,_,_,_,_,_,_,rfl,_⟩:=h;rfl) | (obtain⟨_,_,_,_,_,_,_,_,_,rfl,_⟩:=h;rfl) | (obtain⟨_,_,_,_,_,_,_,_,_,_,rfl,_⟩:=h;rfl) | (obtain⟨_,_,_,_,_,_,_,_,_,_,_,rfl,_⟩:=h;rfl) | (obtain⟨_,_,_,_,_,_,_,_,_,_,_,_,rfl,_⟩:=h;rfl) | (obtain⟨_,_,_,_,_,_,_,_,_,_,_,_,_,rfl,_⟩:=h;rfl) | (obtain⟨_,_,_,_,_,_,_,_,_,_,_,_,_,_,rfl,_⟩:=h;rfl) | (obtain⟨_,_,_,_,_,_,_,_,_,_,_,_,_,_,_,rfl,_⟩:=h;rfl)):Callee P w F mg base aO (k+1) x ps sp:=tF D hb S len hbody
theorem cX {P:Program} {w:World} {F:PySem.W.Frag} {mg:Str->Option Value} {base:Heap} {k:Nat} {x:Str} {ps:List Str} {sp:Sp} {st:Stmt} {N:List Str} (D:ay F mg x st) (S:av N ps (aj st))
  (hbody:∀(f:Addr) (cdv:Value) (A:Around) (outer:List Env) (s:Shared) (H:Hp) (vs:List V) (Q:VK) (E:XK),bF k (A.deeper (envOfC x (aj st) s.heap.objs.size f cdv))->sp vs H Q E->∃ t,iD (cQ (dO P w) P w F mg base N x (aj st) f cdv A outer s H E) (aH st) t/\t { nx:=λ_ H'=>Q .non H',rt:=Q } (start N vs) H)
  (hb:∀(kV doc pm:Value) (an:Option Addr) (cdv ct:Value) (us:List Value),us.length=ps.length->bindArgs (PySem.W.fnOf x x (aR st) (aH st) (aj st) .none kV doc pm an cdv ct) ⟨us,[]⟩=pure (ps.zip us):=by
    intro _ _ _ _ _ _ us hl
    first | (obtain⟨_,rfl⟩:=vT hl;exact rfl) | (obtain⟨_,_,rfl⟩:=rV hl;exact rfl) | (obtain⟨_,_,_,rfl⟩:=An hl;exact rfl) | (obtain⟨_,_,_,_,rfl⟩:=vU hl;exact rfl) | (obtain⟨_,_,_,_,_,rfl⟩:=Ao hl;exact rfl) | (obtain⟨_,_,_,_,_,_,rfl⟩:=Aq hl;exact rfl))
  (len:∀ vs H Q E,sp vs H Q E->vs.length=ps.length:=by
    intro _ _ _ _ h
    first | (obtain⟨_,rfl,_⟩:=h;rfl) | (obtain⟨_,_,rfl,_⟩:=h;rfl) | (obtain⟨_,_,_,rfl,_⟩:=h;rfl) | (obtain⟨_,_,_,_,rfl,_⟩:=h;rfl) | (obtain⟨_,_,_,_,_,rfl,_⟩:=h;rfl) | (obtain⟨_,_,_,_,_,_,rfl,_⟩:=h;rfl) | (obtain⟨_,_,_,_,_,_,_,rfl,_⟩:=h;rfl) | (obtain⟨_,_,_,_,_,_,_,_,rfl,_⟩:=h;rfl) | (obtain⟨_,_,_,_,_,_,_,_,_,rfl,_⟩:=h;rfl) | (obtain⟨_,_,_,_,_,_,_,_,_,_,rfl,_⟩:=h;rfl) | (obtain⟨_,_,_,_,_,_,_,_,_,_,_,rfl,_⟩:=h;rfl) | (obtain⟨_,_,_,_,_,_,_,_,_,_,_,_,rfl,_⟩:=h;rfl) | (obtain⟨_,_,_,_,_,_,_,_,_,_,_,_,_,rfl,_⟩:=h;rfl) | (obtain⟨_,_,_,_,_,_,_,_,_,_,_,_,_,_,rfl,_⟩:=h;rfl) | (obtain⟨_,_,_,_,_,_,_,_,_,_,_,_,_,_,_,rfl,_⟩:=h;rfl)):Callee P w F mg base (dO P w) (k+1) x ps sp:=qw D hb S len hbody
end K
local macro_rules | `(tactic| k_data) => `(tactic| (iterate 2 ((try dsimp only [L2.bJ, L2.Dj, L2.AJ, L2.xK, L2.xQ, L2.Eb, L2.BV, L2.tC, L2.Di, L2.rI, L2.Av, L2.rU, L2.Ew, L2.AM, L2.rB, L2.b8, L2.pX, L2.Dk, L2.Dq, L2.Df, L2.Es, L2.BS, L2.AH, L2.C6, L2.Et, L2.Dg, L2.AD, L2.Ed, L2.Dh, L2.tB, L2.C7, L2.AG, L2.ly, L2.yI, L2.sO, L2.zW, L2.BU, L2.Ak, L2.Am, L2.Cz, L2.vM, L2.CA, L2.Eu, L2.Dl, L2.AK, L2.sQ, L2.AI, L2.Eo, L2.Ep, L2.Er, L2.Ea, L2.E3, L2.DU, L2.AE, L2.Az, L2.AF, L2.nr, L2.Aj, L2.Bh, L2.CB, L2.CC, L2.xR, L2.BX, L2.BW, L2.E4, L2.Dm, L2.Dp, L2.tQ, L2.lz, L2.pW, L2.xP, L2.C9, L2.C3, L2.mX, L2.C8, L2.sP, L2.xO, L2.xN, L2.xM, L2.zX, List.getElem?_cons_zero, List.getElem?_cons_succ, List.set_cons_zero, List.set_cons_succ, List.nil_append, List.cons_append, L2.Ci, L2.ER, L2.Ct]); (try simp only [Option.some.injEq, exists_eq_left', exists_and_left, List.cons.injEq, L2.V.int.injEq, L2.V.bl.injEq, and_true, true_and, and_assoc, decide_eq_true_eq, List.append_nil, Int.reduceToNat, Int.reducePow, Int.reduceLT, Int.reduceLE, Int.reduceNeg, Int.zero_add, Nat.reducePow, Nat.reduceLT, Int.reduceAdd, Int.reduceSub, Int.reduceMul, L2.V.ref.injEq, L2.dI, L2.xW, exists_eq_left, exists_eq', exists_eq, exists_const, L2.zO, L2.zM, L2.zP, L2.zQ, L2.zR, L2.zN, L2.zS, reduceIte, reduceCtorEq, Bool.not_eq_true', decide_eq_false_iff_not, Int.reduceAbs, Bool.not_true, Bool.not_false, if_true, Bool.false_eq_true, if_false, L2.AW]))))
namespace K
open PySem PySem.Spec PyProof.Rows L2
section
variable {P:Program} {w:World} {K:PySem.W.Frag} {mg:Str->Option Value} {base:Heap}
theorem A7 {i:Int} (h:(decide (i.natAbs<10^250))=true):Bd i:=Nat.lt_of_lt_of_le (of_decide_eq_true h) u7
def pM (K:PySem.W.Frag):Sp:=λvs H Q _=>∃(a:Addr) (ns:List Int) (k:Nat),vs=[.ref a,.int k]/\aM K H a (ns.map V.int)/\∀ c,Q (.int c) H
theorem eO:av ["_law_script","_law_k"] ["_law_script","_law_k"] (aj (top 42)):=dG
theorem ug (D:ay K mg "_law_cell_at" (top 42)) (n_len:mg "len"=none):Callee P w K mg base aO 1 "_law_cell_at" ["_law_script","_law_k"] (pM K):=by
 refine cO D eO (λf cdv A outer s H vs Q E hr h=>?_)
 obtain⟨a,ns,k,rfl,hS,q⟩:=h
 have nd:=eO.nd
 refine⟨_,(ae (bp (aA gb (pv 1) (aD aU rfl n_len PySem.boot_len (aa (pv 0) ag)) (aE _)) (ak (az (aB aJ (pv 0) (pv 1) (λ_ _=>rfl)))) aK) (ak (az ah))),?_⟩
 show bJ _ _ _ [some (.ref a),some (.int k)] H
 k_data
 refine cH hS ?_
 refine⟨_,rfl,?_⟩
 rw [List.length_map]
 refine bV (λc=>?_) (λc=>q _)
 refine jI hS (by omega) (by rw [List.length_map];exact c) λv hv=>?_
 obtain⟨i,_,rfl⟩:=List.mem_map.mp hv
 exact q i
def sM:Sp:=λvs H Q _=>∃(c:Int) (b:Bool),vs=[.int c,.bl b]/\∀ p l H',ax H H'->H p=none->H' p=some (qf l b)->yc l b->Q (.ref p) H'
theorem gj:av ["_law_cell","_law_free"] ["_law_cell","_law_free"] (aj (top 43)):=dG
theorem wz (D:ay K mg "_law_state" (top 43)):Callee P w K mg base aO 1 "_law_state" ["_law_cell","_law_free"] sM:=by
 refine cO D gj (λf cdv A outer s H vs Q E hr h=>?_)
 obtain⟨c,b,rfl,q⟩:=h
 have nd:=gj.nd
 refine⟨_,(ae (bp (b9 (pv 1) (λ_=>rfl)) (ak (az (sg (gY bI (pv 0) (gY bI gd si)) rfl rfl (by intro z;cases z) (by decide)))) aK) (ak (az (sg (gY bI (au b7 ah (au aL (pv 0) ah)) (gY bI gd si)) rfl rfl (by intro z;cases z) (by decide))))),?_⟩
 show bJ _ _ _ [some (.int c),some (.bl b)] H
 k_data
 refine bV (λz=>λp hp=>⟨af,[(Sum.inr "left",.int c),(Sum.inr "free",.bl true)],rfl,by show 2<=15;decide,?_⟩) (λz=>λp hp=>⟨af,[(Sum.inr "left",.int (1+c%2147483646)),(Sum.inr "free",.bl false)],rfl,by show 2<=15;decide,?_⟩)
 ·subst z
  rw [iY]
  exact q p c _ (ai hp) hp af (.inl rfl)
 ·have z:b=false:=by simpa using z
  subst z
  rw [iY]
  exact q p (1+c%2147483646) _ (ai hp) hp af (.inr ⟨by omega,by omega⟩)
def kJ:Sp:=λvs H Q _=>∃(p:Addr) (m l:Int) (b:Bool),vs=[.ref p,.int m]/\H p=some (qf l b)/\yc l b/\0<m/\m<10^200/\∀ r H',0<=r->r<m->Up p b H H'->Q (.int r) H'
theorem h8:av ["_law_state_here","_law_many","_law_found"] ["_law_state_here","_law_many"] (aj (top 44)):=dG
theorem zg (D:ay K mg "_law_take" (top 44)):Callee P w K mg base aO 1 "_law_take" ["_law_state_here","_law_many"] kJ:=by
 refine cO D h8 (λf cdv A outer s H vs Q E hr h=>?_)
 obtain⟨p,m,l,b,rfl,hp,hl,hm,hm1,q⟩:=h
 have nd:=h8.nd
 refine⟨_,(ae (bp (b9 (fR (dh hr) (pv 0) bI (λ_ _=>rfl)) (λ_=>rfl)) (ae (bG (i:=2) nd (au aL (fR (dh hr) (pv 0) bI (λ_ _=>rfl)) (pv 1))) (ae (gZ (dh hr) (pv 0) bI (au cp (fR (dh hr) (pv 0) bI (λ_ _=>rfl)) (pv 1)) rfl) (ak (az (pv 2))))) aK) (ae (gZ (dh hr) (pv 0) bI (au aL (au aI (fR (dh hr) (pv 0) bI (λ_ _=>rfl)) ah) ah) rfl) (ak (az (au aL (au cp (au aL (au aI (fR (dh hr) (pv 0) bI (λ_ _=>rfl)) ah) ah) ah) (pv 1)))))),?_⟩
 show bJ _ _ _ [some (.ref p),some (.int m),none] H
 k_data
 refine⟨_,vH hp,b,dI.mpr rfl,?_⟩
 refine bV (λz=>?_) (λz=>?_)
 ·subst z
  refine⟨_,gT hp,l,rfl,hm,_,gT hp,l,rfl,hm,Bd.of (by omega) (by omega),_,pe hp,?_⟩
  exact q _ _ (Int.emod_nonneg _ (by omega)) (Int.emod_lt_of_pos _ hm) ⟨_,.inl rfl,rfl⟩
 ·have z:b=false:=by simpa using z
  subst z
  obtain⟨l0,l1⟩:0<=l/\l<2147483647:=by rcases hl with z | z;cases z;exact z
  refine⟨_,gT hp,l,rfl,Bd.of (by omega) (by omega),A7 (by decide),_,pe hp,_,gT af,_,rfl,Bd.of (by omega) (by omega),A7 (by decide),A7 (by decide),hm,?_⟩
  exact q _ _ (Int.emod_nonneg _ (by omega)) (Int.emod_lt_of_pos _ hm) ⟨_,.inr ⟨by omega,by omega⟩,rfl⟩
def pP:Sp:=λvs H Q _=>∃(p:Addr) (l:Int) (b:Bool),vs=[.ref p]/\H p=some (qf l b)/\yc l b/\∀ x H',-(10^56)<x->x<10^56->Up p b H H'->Q (.int x) H'
theorem fE:av ["_law_state_here","_law_found","_law_k"] ["_law_state_here"] (aj (top 45)):=dG
theorem um (D:ay K mg "_law_number" (top 45)) (c__law_take:Callee P w K mg base aO 1 "_law_take" ["_law_state_here","_law_many"] kJ) (n_range:mg "range"=none):Callee P w K mg base aO 2 "_law_number" ["_law_state_here"] pP:=by
 refine cO D fE (λf cdv A outer s H vs Q E hr h=>?_)
 obtain⟨p,l,b,rfl,hp,hl,q⟩:=h
 have nd:=fE.nd
 refine⟨_,(ae (bp (aA fq (cw c__law_take hr aC (aa (pv 0) (aa ah ag))) ah (aE _)) (ak (az (au c6 (cw c__law_take hr aC (aa (pv 0) (aa ah ag))) ah))) aK) (ae (bG (i:=1) nd ah) (ae (bD PassesOwn.never rfl (bZ rfl n_range (aa ah ag)) (aq (i:=2) nd rfl (Or.inl rfl) (.inr rfl)) (ak (bG (i:=1) nd (au b7 (au aI (pv 1) (au qY ah ah)) (cw c__law_take hr aC (aa (pv 0) (aa (au qY ah ah) ag))))))) (ak (az (au aI (pv 1) (au c6 (au aI ah (cw c__law_take hr aC (aa (pv 0) (aa ah ag)))) ah))))))),?_⟩
 show bJ _ _ _ [some (.ref p),none,none] H
 k_data
 refine⟨p,2,l,b,rfl,hp,hl,by omega,by omega,λr1 H1 r10 r11 u1=>?_⟩
 obtain⟨l1,k1,e1⟩:=u1.at
 refine⟨rfl,?_⟩
 refine bV (λz=>?_) (λz=>?_)
 ·exact⟨p,201,l1,b,rfl,e1,k1,by omega,by omega,λr2 H2 r20 r21 u2=>⟨_,rfl,q _ _ (by omega) (by omega) (u1.trans u2)⟩⟩
 have pw:∀ i:Nat,i<8->(10:Int)^(8*i)<=10^56:=by decide
 refine bB (λi σ' H'=>∃(x:Int) (o:Option V),σ'=[some (.ref p),some (.int x),o]/\0<=x/\x<10^(8*i)/\Up p b H H') ⟨0,none,rfl,by omega,by decide,u1⟩ ?_ ?_
 ·rintro i σ' H' hi ⟨x,o,rfl,x0,x1,u⟩
  have p1:=pw i (by omega)
  have p2:(10:Int)^(8*(i+1))=10^(8*i)*100000000:=by rw [Nat.mul_add,Pw.pow_add];rfl
  obtain⟨l2,k2,e2⟩:=u.at
  k_data
  refine⟨Bd.of (by omega) (by omega),A7 (by decide),p,100000000,l2,b,rfl,e2,k2,by omega,by omega,λr2 H2 r20 r21 u2=>?_⟩
  refine⟨r2,rfl,by omega,?_,u.trans u2⟩
  rw [p2]
  generalize (10:Int)^(8*i)=Y at *
  omega
 ·rintro σ' H' ⟨x,o,rfl,x0,x1,u⟩
  obtain⟨l2,k2,e2⟩:=u.at
  k_data
  have p1:=pw 7 (by omega)
  refine⟨p,2,l2,b,rfl,e2,k2,by omega,by omega,λr2 H2 r20 r21 u2=>?_⟩
  refine⟨r2,rfl,A7 (by decide),Bd.of (by omega) (by omega),Bd.of (by omega) (by omega),Bd.of (by omega) (by omega),?_⟩
  have x2:x<10^56:=Int.lt_of_lt_of_le x1 p1
  rcases (by omega:r2=0∨r2=1) with z | z
  ·subst z
   exact q _ _ (by omega) (by omega) (u.trans u2)
  ·subst z
   exact q _ _ (by omega) (by omega) (u.trans u2)
def i4 (a:Int):Prop := -(10^240)<=a/\a<=10^240
theorem i4.bd {a:Int} (h:i4 a):Bd a:=Bd.of (by have:=h.1;omega) (by have:=h.2;omega)
def fV:Sp:=λvs H Q _=>∃ a b:Int,vs=[.int a,.int b]/\i4 a/\i4 b/\∀ g u v p H',Gcd.Cf a b g u v->ax H H'->H' p=some (.tup [.int g,.int u,.int v])->Q (.ref p) H'
theorem kE:av ["a","b","g","u","v","next_g","next_u","next_v","times"] ["a","b"] (aj (top 9)):=dG
structure DS where
 (g u v ng nu nv:Int)
 t:Option V
theorem qO (D:ay K mg "divisor" (top 9)) (n_abs:mg "abs"=none):Callee P w K mg base aO 1 "divisor" ["a","b"] fV:=by
 refine cO D kE (λf cdv A outer s H vs Q E hr h=>?_)
 obtain⟨a,b,rfl,ha,hb,q⟩:=h
 have nd:=kE.nd
 refine⟨_,(ae (sj (i:=2) (j:=3) (k:=4) rfl nd rfl rfl rfl (by decide) (by decide) (by decide) rfl rfl rfl (aa (aD jP rfl n_abs L2.boot_abs (aa (pv 0) ag)) (aa ah (aa ah ag))) rfl) (ae (sj (i:=5) (j:=6) (k:=7) rfl nd rfl rfl rfl (by decide) (by decide) (by decide) rfl rfl rfl (aa (aD jP rfl n_abs L2.boot_abs (aa (pv 1) ag)) (aa ah (aa ah ag))) rfl) (ae (bO PassesOwn.never (aA jf (pv 5) ah (aE _)) (ae (bG (i:=8) nd (au cp (pv 2) (pv 5))) (ae (mT (i:=2) (j:=5) rfl nd rfl rfl (by decide) rfl rfl (aa (pv 5) (aa (au c6 (pv 2) (au aI (pv 8) (pv 5))) ag)) rfl) (ae (mT (i:=3) (j:=6) rfl nd rfl rfl (by decide) rfl rfl (aa (pv 6) (aa (au c6 (pv 3) (au aI (pv 8) (pv 6))) ag)) rfl) (ak (mT (i:=4) (j:=7) rfl nd rfl rfl (by decide) rfl rfl (aa (pv 7) (aa (au c6 (pv 4) (au aI (pv 8) (pv 7))) ag)) rfl)))))) (ak (az (aG (aa (pv 2) (aa (kg (aA gb (pv 0) ah (aE _)) (jg fL (pv 3)) (pv 3)) (aa (kg (aA gb (pv 1) ah (aE _)) (jg fL (pv 4)) (pv 4)) ag))))))))),?_⟩
 show bJ _ _ _ [some (.int a),some (.int b),none,none,none,none,none,none,none] H
 k_data
 have hA:0<=(if a<0 then -a else a)/\(if a<0 then -a else a)<=10^240:=by have:=ha.1;have:=ha.2;split<;>omega
 have hB:0<=(if b<0 then -b else b)/\(if b<0 then -b else b)<=10^240:=by have:=hb.1;have:=hb.2;split<;>omega
 refine bQ (α:=DS) (λx=>[some (.int a),some (.int b),some (.int x.g),some (.int x.u),some (.int x.v),some (.int x.ng),some (.int x.nu),some (.int x.nv),x.t])
  (λx H'=>H'=H/\Gcd.J (if a<0 then -a else a) (if b<0 then -b else b) x.g x.u x.v x.ng x.nu x.nv/\x.g<=10^240/\x.ng<=10^240) (λx=>x.ng.toNat)
  ⟨_,1,0,_,0,1,none⟩ rfl ⟨rfl,Gcd.J.start hA.1 hB.1,hA.2,hB.2⟩ ?_
 rintro x H1 ⟨rfl,j,hg,hng⟩
 k_data
 refine bV (λc=>?_) (λc=>?_)
 ·refine⟨_,λ_ _ z=>z,?_⟩
  obtain⟨s1,s2,s3,s4⟩:=j.small hA.1 hB.1 hA.2 hB.2 (by omega)
  obtain⟨j',l,q0,ql⟩:=j.turn c
  have bg:i4 x.ng:=⟨by omega,hng⟩
  have bq:i4 (x.g/x.ng):=⟨by omega,by omega⟩
  refine⟨c,bg.bd,bq.bd,bg.bd,bq.bd,i4.bd s3,bq.bd,i4.bd s4,⟨x.ng,x.nu,x.nv,x.g-x.g/x.ng*x.ng,x.u-x.g/x.ng*x.nu,x.v-x.g/x.ng*x.nv,some (.int (x.g/x.ng))⟩,rfl,rfl,j',hng,by show (x.g-x.g/x.ng*x.ng)<=_;omega,by show (x.g-x.g/x.ng*x.ng).toNat<x.ng.toNat;omega⟩
 ·have e:x.ng=0:=by have:=j.n0;omega
  rw [e] at j
  have z:=j.done
  refine bV (λca=>?_) (λca=>?_)<;>simp only [ca,if_true,if_false] at z ⊢<;>refine bV (λcb=>?_) (λcb=>?_)<;>simp only [cb,if_true,if_false] at z ⊢ <;>
   exact⟨by show 3<=sizeLine;decide,λp hp=>q _ _ _ p _ z (ai hp) af⟩
end
end K
namespace K
open PySem PySem.Spec PyProof.Rows L2
structure Gd (n a g:Int):Prop where
 pos:0<g
 dn:g∣n
 da:g∣a
 gr:∀ d:Int,d∣n->d∣a->d∣g
theorem Gd.one {n a g g':Int} (h:Gd n a g) (h':Gd n a g'):g=g' :=
 Int.le_antisymm (Int.le_of_dvd h'.pos (h'.gr g h.dn h.da)) (Int.le_of_dvd h.pos (h.gr g' h'.dn h'.da))
theorem gO {n a g:Int} (dn:g∣n):g∣a%n↔g∣a:=by
 have e:=Int.mul_ediv_add_emod a n
 constructor
 ·intro h
  rw [<- e]
  exact Int.dvd_add (Int.dvd_mul_of_dvd_left dn) h
 ·intro h
  have:a%n=a-n*(a/n):=by omega
  rw [this]
  exact Int.dvd_sub h (Int.dvd_mul_of_dvd_left dn)
theorem Gd.of {n a g u v:Int} (hn:0<n) (z:Gcd.Cf (a%n) n g u v):Gd n a g:=by
 refine⟨?_,z.db,(gO z.db).mp z.da,λd h1 h2=>?_⟩
 ·have:=z.g0
  rcases (by omega:g=0∨0<g) with e | e
  ·have:=z.db
   rw [e] at this
   have:=Int.zero_dvd.mp this
   omega
  ·exact e
 ·rw [<- z.lin]
  exact Int.dvd_add (Int.dvd_mul_of_dvd_right ((gO h1).mpr h2)) (Int.dvd_mul_of_dvd_right h1)
theorem Bk {n a u v:Int} (hn:0<n) (z:Gcd.Cf (a%n) n 1 u v):n∣u%n*a-1:=by
 have e:=z.lin
 have e1:=Int.mul_ediv_add_emod a n
 have e2:=Int.mul_ediv_add_emod u n
 refine⟨u*(a/n)-v-u/n*a,?_⟩
 generalize a%n=x at *
 generalize u%n=y at *
 generalize a/n=s at *
 generalize u/n=t at *
 grind
section
variable {P:Program} {w:World} {K:PySem.W.Frag} {mg:Str->Option Value} {base:Heap}
def fW (C:Addr):Sp:=λvs H Q E=>∃ n a:Int,vs=[.int n,.int a]/\0<n/\n<=10^240/\∀ g,Gd n a g ->
 (g=1->∀ r H',0<=r->r<n->n∣r*a-1->ax H H'->Q (.int r) H') /\
 (1<g->∀ x dx H',ax H H'->H x=none->H' x=some (XO x C (some dx))->H' dx=some (.xd [("divisor",.int g)])->E (.ref C) (some x) H')
theorem kF:av ["n","a","g","u","v"] ["n","a"] (aj (top 10)):=dG
theorem qP {C:Addr} (D:ay K mg "inverse" (top 10)) (c_divisor:Callee P w K mg base aO 1 "divisor" ["a","b"] fV) (x_NoInverse:yj P w K mg base "NoInverse" C "divisor"):Callee P w K mg base (dO P w) 3 "inverse" ["n","a"] (fW C):=by
 refine cX D kF (λf cdv A outer s H vs Q E hr h=>?_)
 obtain⟨n,a,rfl,hn,hn1,q⟩:=h
 have nd:=kF.nd
 refine⟨_,(ae (fv (cw c_divisor hr aC (aa (au aL (pv 1) (pv 0)) (aa (pv 0) ag))) (cz (n:=3) rfl (aw (aq (i:=2) nd rfl (Or.inl rfl) (.inr rfl)) (aw (aq (i:=3) nd rfl (Or.inl rfl) (.inr rfl)) (aw (aq (i:=4) nd rfl (Or.inl rfl) (.inr rfl)) aP))))) (ae (bp (aA jf (pv 2) ah (aE _)) (ak (hJ (wQ x_NoInverse (hr.mono (by decide)) rfl (aa (pv 2) ag)))) aK) (iD.lL (ak (az (au aL (pv 3) (pv 0))))))),?_⟩
 show bJ _ _ _ [some (.int n),some (.int a),none,none,none] H
 k_data
 have r0:=Int.emod_nonneg a (show n≠0 by omega)
 have r1:=Int.emod_lt_of_pos a hn
 refine⟨hn,a%n,n,rfl,⟨by omega,by omega⟩,⟨by omega,by omega⟩,λg u v p H1 z hs hh=>?_⟩
 have G:=Gd.of hn z
 obtain⟨q1,q2⟩:=q g G
 refine⟨p,_,rfl,bE.of hh,rfl,?_⟩
 k_data
 refine bV (λc=>?_) (λc=>?_)
 ·intro x dx hx hdx ne
  have ne':dx≠x:=ne
  refine⟨C,some dx,af,x_NoInverse.cls,?_,?_⟩
  ·cases e:H x with
   | none=>rfl
   | some o=>rw [hs _ _ e] at hx;cases hx
  ·refine q2 c x dx _ ?_ ?_ af ?_
   ·intro b o e
    have e1:=hs _ _ e
    have bx:b≠x:=λy=>by rw [y,hx] at e1;cases e1
    have bd:b≠dx:=λy=>by rw [y,hdx] at e1;cases e1
    rw [ao bx,ao bx,ao bd,ao bx]
    exact e1
   ·cases e:H x with
    | none=>rfl
    | some o=>rw [hs _ _ e] at hx;cases hx
   ·rw [ao ne',ao ne',af]
 ·have g1:g=1:=by have:=G.pos;omega
  subst g1
  exact⟨hn,q1 rfl _ _ (Int.emod_nonneg _ (by omega)) (Int.emod_lt_of_pos _ hn) (Bk hn z) hs⟩
end
end K
namespace K
open PySem PySem.Spec PyProof.Rows L2
section
variable {P:Program} {w:World} {K:PySem.W.Frag} {mg:Str->Option Value} {base:Heap}
def eG (C:Addr):Sp:=λvs H Q E=>∃ n a e:Int,vs=[.int n,.int a,.int e]/\0<n/\n<=10^120 /\
 (0<=e->∀ H',ax H H'->Q (.int (a^e.toNat%n)) H') /\
 (e<0->∀ g,Gd n a g ->
  (g=1->∀ b H',0<=b->b<n->n∣b*a-1->ax H H'->Q (.int (b^(-e).toNat%n)) H') /\
  (1<g->∀ x dx H',ax H H'->H x=none->H' x=some (XO x C (some dx))->H' dx=some (.xd [("divisor",.int g)])->E (.ref C) (some x) H'))
theorem pL:av ["n","a","e","base","left","rest"] ["n","a","e"] (aj (top 15)):=dG
theorem wu {C:Addr} (D:ay K mg "power" (top 15)) (c_inverse:Callee P w K mg base (dO P w) 3 "inverse" ["n","a"] (fW C)) (n_abs:mg "abs"=none):Callee P w K mg base (dO P w) 4 "power" ["n","a","e"] (eG C):=by
 refine cX D pL (λf cdv A outer s H vs Q E hr h=>?_)
 obtain⟨n,a,e,rfl,hn,hn1,q1,q2⟩:=h
 have nd:=pL.nd
 refine⟨_,(ae (bG (i:=3) nd (au aL (pv 1) (pv 0))) (ae (gE (bp (aA gb (pv 2) ah (aE _)) (ak (bG (i:=3) nd (cw c_inverse hr oS (aa (pv 0) (aa (pv 1) ag))))) aK)) (iD.lL (ae (bG (i:=4) nd (aD jP rfl n_abs L2.boot_abs (aa (pv 2) ag))) (ae (bG (i:=5) nd (au aL ah (pv 0))) (ae (bO PassesOwn.never (aA jf (pv 4) ah (aE _)) (ae (gE (bp (aA fq (au aL (pv 4) ah) ah (aE _)) (ak (bG (i:=5) nd (au aL (au aI (pv 5) (pv 3)) (pv 0)))) aK)) (ae (bG (i:=3) nd (au aL (au aI (pv 3) (pv 3)) (pv 0))) (ak (gD (i:=4) nd rfl (Or.inl rfl) ah (jW om)))))) (ak (az (pv 5))))))))),?_⟩
 show bJ _ _ _ [some (.int n),some (.int a),some (.int e),none,none,none] H
 k_data
 refine⟨hn,λσ' H'=>ax H H'/\∃ b:Int,σ'=[some (.int n),some (.int a),some (.int e),some (.int b),none,none]/\0<=b/\b<n/\Q (.int (b^e.natAbs%n)) H',?_,?_⟩
 ·k_data
  refine bV (λc=>?_) (λc=>?_)
  ·refine⟨n,a,rfl,hn,by omega,λg G=>⟨λe1 r H' r0 r1 r2 hs=>?_,λg1 x dx H' hs hx hX hd=>?_⟩⟩
   ·have:=(q2 c g G).1 e1 r H' r0 r1 r2 hs
    rw [show (-e).toNat=e.natAbs by omega] at this
    exact⟨hs,r,rfl,r0,r1,this⟩
   ·exact (q2 c g G).2 g1 x dx H' hs hx hX hd
  ·have:=q1 (by omega) H (ax.refl _)
   rw [show e.toNat=e.natAbs by omega,<- Pw.kx] at this
   exact⟨ax.refl _,Int.emod_nonneg _ (by omega),Int.emod_lt_of_pos _ hn,this⟩
 ·rintro σ' H' ⟨hs,b,rfl,hb0,hb1,q⟩
  k_data
  refine⟨hn,?_⟩
  have ee:(if e<0 then -e else e)=(e.natAbs:Int):=by split<;>omega
  rw [ee]
  refine bQ (α:=Int × Nat × Int) (λx=>[some (.int n),some (.int a),some (.int e),some (.int x.1),some (.int x.2.1),some (.int x.2.2)]) (λx H1=>H1=H'/\0<=x.1/\x.1<n/\0<=x.2.2/\x.2.2<n/\x.2.2*x.1^x.2.1%n=b^e.natAbs%n) (λx=>x.2.1) (b,e.natAbs,1%n) rfl ⟨rfl,hb0,hb1,Int.emod_nonneg _ (by omega),Int.emod_lt_of_pos _ hn,?_⟩ ?_
  ·show 1%n*b^e.natAbs%n=_
   rw [Pw.vZ,Int.one_mul]
  rintro⟨b',l,r⟩ H1 ⟨rfl,h1,h2,h3,h4,h5⟩
  replace h1:0<=b':=h1
  replace h2:b'<n:=h2
  replace h3:0<=r:=h3
  replace h4:r<n:=h4
  replace h5:r*b'^l%n=b^e.natAbs%n:=h5
  k_data
  refine bV (λc=>?_) (λc=>?_)
  ·refine⟨_,λ_ _ z=>z,λσ' H2=>H2=H1/\σ'=[some (.int n),some (.int a),some (.int e),some (.int b'),some (.int l),some (.int (if l%2=1 then r*b'%n else r))],?_,?_⟩
   ·k_data
    refine bV (λc=>?_) (λc=>?_)
    ·exact⟨Bd.of (by omega) (by omega),Bd.of (by omega) (by omega),hn,by rw [if_pos (by omega)]⟩
    ·rw [if_neg (by omega)]
   rintro σ' H2 ⟨rfl,rfl⟩
   k_data
   have r0:0<=(if l%2=1 then r*b'%n else r)/\(if l%2=1 then r*b'%n else r)<n:=by
    split
    ·exact⟨Int.emod_nonneg _ (by omega),Int.emod_lt_of_pos _ hn⟩
    ·exact⟨h3,h4⟩
   refine⟨Bd.of (by omega) (by omega),Bd.of (by omega) (by omega),hn,A7 (by decide),(b'*b'%n,l/2,if l%2=1 then r*b'%n else r),rfl,(by show (l:Int)/2=((l/2:Nat):Int);omega),rfl,Int.emod_nonneg _ (by omega),Int.emod_lt_of_pos _ hn,r0.1,r0.2,?_,?_⟩
   ·show (if l%2=1 then r*b'%n else r)*(b'*b'%n)^(l/2)%n=_
    rw [Pw.step]
    exact h5
   ·show l/2<l
    omega
  ·have l0:l=0:=by omega
   subst l0
   rw [Int.pow_zero,Int.mul_one] at h5
   have h6:r%n=r:=Int.emod_eq_of_lt h3 h4
   rw [<- h5,h6] at q
   exact q
end
end K
namespace L2
open PySem PySem.Spec PyProof.Rows
theorem bw {X:Cx} (K:PySem.W.Frag) (h:X.K=K):Dx X (BK K):=h▸aV
theorem dD {X:Cx} {pos:Pos} {es:List Expr} {k:Nat} {t:Ac} {n:Nat} (K:PySem.W.Frag) (e:X.K=K) (hc:X.calm=true) (h:Cq X es t)
  (hn:(assignEach es X.env).length=n:=by rfl) (hst:(assignEach es X.env).findIdx? (·.1)=none:=by rfl):PG X (.Tuple es k pos) (oa K n t):=e▸cz hc h hn hst
end L2
namespace K
open PySem PySem.Spec PyProof.Rows L2
section
variable {P:Program} {w:World} {K:PySem.W.Frag} {mg:Str->Option Value} {base:Heap}
theorem bC {X:Cx}:Passes (dO P w) X E0:=by
 intro pins σ H1 s1 e s' I hq
 obtain⟨x,C,T,dd,H',_,_,_,_,_,_,_,_,_,_,z⟩:=hq
 exact z.elim
theorem br {H:Hp} {q:Addr} {xs:List V} {k:Int} {v:V} {Q:VK} (t:bE K H q xs) (e:qc xs k=some v) (h:Q v H):BK K (.ref q) (.int k) H Q:=⟨q,xs,k,v,rfl,rfl,t,e,h⟩
theorem jx {x:V} {r:List V}:qc (x::r) 0=some x:=by
 unfold qc vP
 simp
def EU (row:PyData) (q:Int):Prop:=∃ ds es,row=.tuple (.tuple (.int q::ds)::es)
def DD (rows:List PyData) (qs:List Int):Prop:=rows.length=qs.length/\∀(i:Nat) (row:PyData),rows[i]?=some row->∃ q,qs[i]?=some q/\EU row q
def kI (K:PySem.W.Frag):Sp:=λvs H Q _=>∃ v rows qs,vs=[v]/\dv K H (.tuple rows) v/\DD rows qs/\rows.length<=10^6/\∀ p H',ax H H'->H p=none->H' p=some (.lst (qs.map V.int))->Q (.ref p) H'
theorem eh {n x:Int} (hn:2<=n):x%n=1↔Num.Al n x 1:=by
 constructor
 ·intro h
  refine⟨x/n,?_⟩
  have:=Int.emod_add_mul_ediv x n
  omega
 ·rintro⟨k,hk⟩
  rw [show x=1+n*k by omega,Int.add_mul_emod_self_left]
  exact Int.emod_eq_of_lt (by omega) (by omega)
theorem fh (P:Int->Prop) {g:Int} (h1:1<=g) (h:P g):∃ m,1<=m/\m<=g/\P m/\∀ a,1<=a->a<m->¬P a:=by
 have:∀(k:Nat) (g:Int),g.toNat=k->1<=g->P g->∃ m,1<=m/\m<=g/\P m/\∀ a,1<=a->a<m->¬P a:=by
  intro k
  induction k using Nat.strongRecOn with
  | ind k ih =>
   intro g hk h1 hg
   by_cases c:∃ a,1<=a/\a<g/\P a
   ·obtain⟨a,a1,a2,a3⟩:=c
    obtain⟨m,m1,m2,m3,m4⟩:=ih a.toNat (by omega) a rfl a1 a3
    exact⟨m,m1,by omega,m3,m4⟩
   ·exact⟨g,h1,Int.le_refl _,hg,λa a1 a2 a3=>c ⟨a,a1,a2,a3⟩⟩
 exact this _ g rfl h1 h
theorem CI {p:Int} (hp:Num.Pm p):∃ g,Num.LF p g:=by
 obtain⟨g,g1,g2,g3⟩:=Num.yH hp
 obtain⟨m,m1,m2,m3,m4⟩:=fh (λa=>Num.Ord p a (p-1).toNat) g1 g3
 exact⟨m,m1,by omega,m3,m4⟩
theorem zw {n:Int} {ps:List (Int × Int)} (h:Num.Part n ps) (hn:1<=n):∀ q∈ps.map (·.1),2<=q/\q<=n:=λq hq=>by
 obtain⟨x,hx,rfl⟩:=List.mem_map.mp hq
 obtain⟨o1,o2,_⟩:=h.ok x hx
 have:=Num.fc hx o2
 rw [h.prod] at this
 exact⟨o1.two,Int.le_of_dvd (by omega) this⟩
def qd (p b:Int) (i:Nat):List V:=(List.range i).map λj=>V.int (b^j%p)
theorem pF {p b:Int} {i:Nat}:qd p b (i+1)=qd p b i++[V.int (b^i%p)]:=by
 unfold qd
 rw [List.range_succ,List.map_append]
 rfl
theorem fU {p b:Int} {i:Nat}:(qd p b i).length=i:=by
 unfold qd
 rw [List.length_map,List.length_range]
theorem pE {p b:Int} {i:Nat}:(qd p b i).all cW=true:=by
 unfold qd
 rw [List.all_eq_true]
 intro x hx
 obtain⟨j,_,rfl⟩:=List.mem_map.mp hx
 rfl
theorem BH {p b:Int} {i j:Nat} {z:V} (h:(qd p b i)[j]?=some z):j<i/\z=V.int (b^j%p):=by
 have hj:j<i:=by
  have:=(List.getElem?_eq_some_iff.mp h).1
  rwa [fU] at this
 refine⟨hj,?_⟩
 unfold qd at h
 rw [List.getElem?_map,List.getElem?_range hj] at h
 cases h
 rfl
theorem xi {p b c:Int} {i:Nat}:Bi (.int c) (qd p b i)=true↔∃ j,j<i/\b^j%p=c:=by
 unfold Bi qd
 rw [List.any_eq_true]
 constructor
 ·rintro⟨x,hx,e⟩
  obtain⟨j,hj,rfl⟩:=List.mem_map.mp hx
  exact⟨j,List.mem_range.mp hj,by simpa [mn] using e⟩
 ·rintro⟨j,hj,e⟩
  exact⟨_,List.mem_map.mpr ⟨j,List.mem_range.mpr hj,rfl⟩,by simpa [mn] using e⟩
theorem zr {p b:Int} (pm:Num.Pm p) (nb:¬p∣b):∃ e:Nat,Num.Ord p b e/\(e:Int)<p:=by
 have h:=Num.mx pm nb
 have p2:=pm.two
 obtain⟨e,he,hle⟩:=Num.mN (show 0<(p-1).toNat by omega) h
 exact⟨e,he,by omega⟩
def nj:Sp:=λvs H Q _=>∃(p b:Int),vs=[.int p,.int b]/\Num.Pm p/\p<=1000 /\ -(10^60)<=b/\b<=10^60/\¬p∣b/\∀ e pl H',Num.Ord p b e->(e:Int)<p->ax H H'->H pl=none->H' pl=some (.lst (qd p b e))->Q (.ref pl) H'
theorem fG:av ["_law_p","_law_b","_law_found"] ["_law_p","_law_b"] (aj (top 46)):=dG
theorem wj (D:ay K mg "_law_powers" (top 46)):Callee P w K mg base aO 1 "_law_powers" ["_law_p","_law_b"] nj:=by
 refine cO D fG (λf cdv A outer s H vs Q E hr h=>?_)
 obtain⟨p,b,rfl,pm,p9,b0,b1,nb,q⟩:=h
 obtain⟨e,o,ep⟩:=zr pm nb
 have p2:=pm.two
 have e0:=o.pos
 have nd:=fG.nd
 refine⟨_,(ae (bG (i:=2) nd (dt (aa ah ag))) (ae (bO PassesOwn.never (aA gc (au aL (au aI (aB aJ (pv 2) (jg fL ah) (λ_ _=>rfl)) (pv 1)) (pv 0)) ah (aE _)) (ak (dF (oU PySem.F.plainAttrs_list PySem.F.slot_list_append PySem.F.type_list_append fQ (pv 2) (aa (au aL (au aI (aB aJ (pv 2) (jg fL ah) (λ_ _=>rfl)) (pv 1)) (pv 0)) ag))))) (ak (az (pv 2))))),?_⟩
 show bJ _ _ _ [some (.int p),some (.int b),none] H
 k_data
 have r0:=λx:Int=>Int.emod_nonneg x (show p≠0 by omega)
 have r1:=λx:Int=>Int.emod_lt_of_pos x (show 0<p by omega)
 refine⟨by decide,λpl hpl=>?_⟩
 refine bQ (α:=Nat) (λ_=>[some (.int p),some (.int b),some (.ref pl)]) (λi H1=>ax H H1/\i<e/\H1 pl=some (.lst (qd p b (i+1)))) (λi=>e-i) 0 rfl ⟨ai hpl,e0,?_⟩ ?_
 ·rw [af]
  show _=some (HO.lst [V.int (b^0%p)])
  rw [Int.pow_zero,Int.emod_eq_of_lt (by decide) (by omega)]
 rintro i H1 ⟨s1,ie,hl⟩
 replace ie:i<e:=ie
 have ix:∀{Q:VK},Q (V.int (b^i%p)) H1->mW K (.ref pl) (.int (-1)) H1 Q:=λ{Q} h=>⟨pl,_,-1,_,rfl,rfl,aM.of hl,by rw [pF];exact uZ _ _,h⟩
 have nx:b^i%p*b%p=b^(i+1)%p:=by rw [Pw.vZ,Int.pow_succ]
 have h0:=r0 (b^i)
 have h1:=r1 (b^i)
 have bx:Bd (b^i%p):=Bd.of (by omega) (by omega)
 have bb:Bd b:=Bd.of (by omega) (by omega)
 k_data
 refine ix ⟨_,rfl,bx,bb,by omega,?_⟩
 rw [nx]
 refine bV (λc=>?_) (λc=>?_)
 ·have ie':i+1<e:=by
   rcases (by omega:i+1<e∨i+1=e) with z | z
   ·exact z
   ·subst z
    exact absurd ((eh p2).mpr o.one) c
  refine⟨_,λ_ _ z=>z,.inl ⟨rfl,_,aM.of hl⟩,ix ⟨_,rfl,bx,bb,by omega,?_⟩⟩
  rw [nx]
  refine⟨pl,_,_,rfl,rfl,hl,by rw [fU];exact Nat.lt_of_le_of_lt (show i+1<=1000 by omega) (by decide),rfl,s1.upd hpl,i+1,ie',?_,by show e-(i+1)<e-i;omega⟩
  rw [af,<- pF]
 ·have ie':i+1=e:=by
   have h3:b^(i+1)%p=1:=by
    rcases (by omega:b^(i+1)%p=1∨b^(i+1)%p≠1) with z | z
    ·exact z
    ·exact absurd z c
   have:=Nat.le_of_dvd (by omega) (o.dv _ ((eh p2).mp h3))
   omega
  rw [ie'] at hl
  k_data
  exact q e pl H1 o ep s1 hpl hl
def dy (p:Int × Int):PyData:=.tuple [.int p.1,.int p.2]
def iX (K:PySem.W.Frag):Sp:=λvs H Q _=>∃ n:Int,vs=[.int n]/\1<=n/\n<=10^9/\∀ ps us p H',Num.Part n ps->ps.length<=29->ax H H'->H p=none->H' p=some (.lst us)->aF K H' (ps.map dy) us->Q (.ref p) H'
structure qi (n d:Int):Prop where
 two:2<=d
 no:∀ e:Int,2<=e->e<d->¬e∣n
theorem qi.step {n d:Int} (h:qi n d) (hk:¬d∣n):qi n (d+1):=⟨by have:=h.two;omega,λe e2 ed=>by
 rcases (by omega:e<d∨e=d) with z | z
 ·exact h.no e e2 z
 ·rw [z];exact hk⟩
theorem fF:av ["_law_n","_law_found","_law_d","_law_many"] ["_law_n"] (aj (top 47)):=dG
theorem qT (D:ay K mg "_law_parted" (top 47)):Callee P w K mg base aO 1 "_law_parted" ["_law_n"] (iX K):=by
 refine cO D fF (λf cdv A outer s H vs Q E hr h=>?_)
 obtain⟨n,rfl,n1,n9,q⟩:=h
 have nd:=fF.nd
 refine⟨_,(ae (bG (i:=1) nd (dt ag)) (ae (bG (i:=2) nd ah) (ae (bO PassesOwn.never (aA jf (pv 0) ah (aE _)) (ae (bG (i:=3) nd ah) (ae (bO PassesOwn.never (aA fq (au aL (pv 0) (pv 2)) ah (aE _)) (ae (bG (i:=0) nd (au cp (pv 0) (pv 2))) (ak (bG (i:=3) nd (au b7 (pv 3) ah))))) (ae (gE (bp (aA jf (pv 3) ah (aE _)) (ak (dF (oU PySem.F.plainAttrs_list PySem.F.slot_list_append PySem.F.type_list_append fQ (pv 1) (aa (aG (aa (pv 2) (aa (pv 3) ag))) ag)))) aK)) (ak (bG (i:=2) nd (au b7 (pv 2) ah))))))) (ak (az (pv 1)))))),?_⟩
 show bJ _ _ _ [some (.int n),none,none,none] H
 k_data
 refine⟨by decide,λpp hpp=>?_⟩
 refine bQ (α:=Int × Int × Option V) (λx=>[some (.int x.1),some (.ref pp),some (.int x.2.1),x.2.2]) (λx H1=>ax H H1/\∃(ps:List (Int × Int)) (us:List V) (pr:Int),H1 pp=some (.lst us)/\aF K H1 (ps.map dy) us/\Num.Way n ps x.1 pr/\qi x.1 x.2.1/\x.2.1<=10^9+10) (λx=>(10^9+20-x.2.1).toNat+x.1.toNat*10^10) (n,2,none) rfl ⟨ai hpp,[],[],2,af,rfl,.start (by omega),⟨by show (2:Int)<=2;decide,λd d0 (d1:d<2)=>by omega⟩,by show (2:Int)<=10^9+10;decide⟩ ?_
 rintro⟨left,e,o⟩ H1 ⟨hs,ps,us,pr,epp,hd,W,Ie,d9⟩
 replace W:Num.Way n ps left pr:=W
 replace Ie:qi left e:=Ie
 replace d9:e<=10^9+10:=d9
 have l1:=W.pos
 have e2:=Ie.two
 have ln:left<=n:=by
  have z:=W.two
  have p0:=Num.bz (show (0:Int)<2 by decide) ps.length
  have:=Int.mul_le_mul_of_nonneg_right (show (1:Int)<=2^ps.length by omega) (show 0<=left by omega)
  omega
 k_data
 refine bV (λc3=>?_) (λc3=>?_)
 ·have dl:e<=left:=by
   rcases (by omega:e<=left∨left<e) with z | z
   ·exact z
   ·exact absurd (Int.dvd_refl left) (Ie.no left (by omega) z)
  refine⟨_,λ_ _ z=>z,?_⟩
  refine bQ (α:=Int × Nat) (λx=>[some (.int x.1),some (.ref pp),some (.int e),some (.int (x.2:Int))]) (λx H3=>H3=H1/\left=e^x.2*x.1/\1<=x.1/\x.1<=left) (λx=>x.1.toNat) (left,0) rfl ⟨rfl,by rw [Int.pow_zero,Int.one_mul],by omega,Int.le_refl _⟩ ?_
  rintro⟨lf,k⟩ H3 ⟨rfl,f1,f2,f3⟩
  replace f1:left=e^k*lf:=f1
  replace f2:1<=lf:=f2
  replace f3:lf<=left:=f3
  k_data
  refine⟨by omega,?_⟩
  refine bV (λc4=>?_) (λc4=>?_)
  ·obtain⟨y,hy⟩:=Int.dvd_of_emod_eq_zero c4
   have ey:lf/e=y:=by rw [hy];exact Int.mul_ediv_cancel_left _ (by omega)
   have y1:1<=y:=by
    rcases (by omega:y<=0∨1<=y) with z | z
    ·have:=Int.mul_nonpos_of_nonneg_of_nonpos (show 0<=e by omega) z
     omega
    ·exact z
   have yl:y<lf:=by
    rw [hy]
    have:=Int.mul_le_mul_of_nonneg_right e2 (show 0<=y by omega)
    omega
   refine⟨_,λ_ _ z=>z,by omega,Bd.of (by omega) (by omega),(y,k+1),?_,rfl,?_,y1,by show y<=left;omega,by show y.toNat<lf.toNat;omega⟩
   ·rw [ey];rfl
   ·show left=e^(k+1)*y
    rw [f1,hy,Int.pow_succ,Int.mul_assoc]
  ·have ng:¬e∣lf:=λz=>c4 (Int.emod_eq_zero_of_dvd z)
   refine⟨λσ' H4=>ax H H4/\σ'=[some (.int lf),some (.ref pp),some (.int e),some (.int (k:Int))]/\∃(ps:List (Int × Int)) (us:List V) (pr:Int),H4 pp=some (.lst us)/\aF K H4 (ps.map dy) us/\Num.Way n ps lf pr/\qi lf (e+1)/\(k=0->lf=left)/\(0<k->lf<left),?_,?_⟩
   ·k_data
    refine bV (λc5=>?_) (λc5=>?_)
    ·have k1:1<=k:=by omega
     have hL:Ld.uW left e:=⟨e2,(by
      obtain⟨k',rfl⟩:∃ k',k=k'+1:=⟨k-1,by omega⟩
      rw [f1,Int.pow_succ]
      exact Int.dvd_mul_of_dvd_left ⟨e^k',Int.mul_comm _ _⟩),Ie.no⟩
     have W2:=W.step n9 c3 hL f1 f2 k1 ng
     have len:=W.len n9
     have ul:us.length=ps.length:=by rw [hd.length,List.length_map]
     have lt:lf<left:=by
      obtain⟨k',rfl⟩:∃ k',k=k'+1:=⟨k-1,by omega⟩
      have p0:=Num.bz (show 0<e by omega) k'
      have h1:e<=e^(k'+1):=by
       rw [Int.pow_succ]
       have:=Int.mul_le_mul_of_nonneg_right (show 1<=e^k' by omega) (show 0<=e by omega)
       omega
      have:=Int.mul_le_mul_of_nonneg_right (show 2<=e^(k'+1) by omega) (show 0<=lf by omega)
      omega
     refine⟨.inl ⟨rfl,_,aM.of epp⟩,by show 2<=sizeLine;decide,λpt hpt=>?_⟩
     have s2:=ai (o:=.tup [V.int e,V.int (k:Int)]) hpt
     have npt:pp≠pt:=λz=>by rw [<- z,epp] at hpt;cases hpt
     have el':=s2 _ _ epp
     have et:upd H3 pt (.tup [V.int e,V.int (k:Int)]) pt=some (.tup [V.int e,V.int (k:Int)]):=af
     have hd2:=aF.same s2 _ hd
     have S2:=hs.trans s2
     generalize upd H3 pt _=H4 at *
     refine⟨pp,us,.ref pt,rfl,rfl,el',Nat.lt_of_le_of_lt (show us.length<=29 by omega) (by decide),S2.upd hpp,ps++[(e,(k:Int))],us++[.ref pt],af,?_,e,W2,qi.step ⟨e2,λd d2 de z=>Ie.no d d2 de (by rw [f1];exact Int.dvd_mul_of_dvd_right z)⟩ ng,λz=>absurd z (by omega),λ_=>lt⟩
     rw [List.map_append]
     refine aF.append (aF.but el' (λb o ne h=>by rw [ao ne];exact h) _ (fk (λ_=>rfl) ps) hd2) (.one (dv.tup (xs:=[V.int e,V.int (k:Int)]) ?_ ⟨_,_,rfl,rfl,.one rfl⟩))
     rw [ao (Ne.symm npt)]
     exact et
    ·have k0:k=0:=by omega
     subst k0
     rw [Int.pow_zero,Int.one_mul] at f1
     subst f1
     exact⟨hs,ps,us,epp,hd,pr,W,Ie.step ng,λ_=>rfl,λz=>absurd z (by omega)⟩
   ·rintro σ' H4 ⟨S4,rfl,ps',us',pr',g1,g2,g3,g4,g5,g6⟩
    k_data
    refine⟨(lf,e+1,some (.int (k:Int))),rfl,rfl,rfl,S4,⟨ps',us',g1,g2,pr',g3,g4,by show e+1<=10^9+10;omega⟩,?_⟩
    show (10^9+20-(e+1)).toNat+lf.toNat*10^10<(10^9+20-e).toNat+left.toNat*10^10
    rcases Nat.eq_zero_or_pos k with z | z
    ·have:=g5 z
     omega
    ·have:=g6 z
     omega
 ·have z:left=1:=by omega
  subst z
  exact q ps us pp H1 W.done (W.len n9) hs hpp epp hd
theorem pJ {ps:List (Int × Int)} {p:Int × Int} {ds ds':Nat->PyData} (h:∀ j,j<ps.length->ds' j=ds j):Num.rowsOf (ps++[p]) ds'=Num.rowsOf ps ds++[.tuple [ds' ps.length,.int p.2]]:=by
 unfold Num.rowsOf
 rw [List.length_append,List.length_singleton,List.range_succ,List.map_append]
 congr 1
 ·refine List.map_congr_left λj hj=>?_
  have:=List.mem_range.mp hj
  rw [h j this,List.getD_eq_getElem?_getD,List.getD_eq_getElem?_getD,List.getElem?_append_left this]
 ·simp
theorem iI {H:Hp} {q k:Int} {v:V} (h:dv K H (dy (q,k)) v):∃ p,v=.ref p/\bE K H p [.int q,.int k]:=by
 obtain⟨p,xs,rfl,h1,x,r,rfl,d1,y,r',rfl,d2,h4⟩:=h
 cases h4
 cases d1
 cases d2
 exact⟨p,rfl,h1⟩
theorem yJ {x:Int} {zs:List Int} {H:Hp} {p:Addr} {Q:VK} (h:aM K H p (zs.map V.int)) (q:Q (.bl (decide (x∈zs))) H):D6 K false (.int x) (.ref p) H Q:=by
 refine⟨p,_,rfl,.inl h,rfl,by simp [cW],?_⟩
 have:Bi (.int x) (zs.map V.int)=decide (x∈zs):=by
  unfold Bi
  rw [Bool.eq_iff_iff,List.any_eq_true,decide_eq_true_iff]
  constructor
  ·rintro⟨v,hv,e⟩
   obtain⟨y,hy,rfl⟩:=List.mem_map.mp hv
   have:y=x:=by simpa [mn] using e
   rw [<- this];exact hy
  ·intro hx
   exact⟨.int x,List.mem_map.mpr ⟨x,hx,rfl⟩,by simp [mn]⟩
 rw [if_neg (by decide),this]
 exact q
def fK (K:PySem.W.Frag) (L:Nat):Sp:=λvs H Q _=>∃ n:Int,vs=[.int n]/\Num.Pm n/\n<=1000/\Num.Ht L n/\∀ d v H',Num.i5 n d->ax H H'->dv K H' d v->Q v H'
theorem dR:av ["_law_p","_law_full"] ["_law_p"] (aj (top 48)):=dG
theorem qS {L:Nat} (D:ay K mg "_law_paper" (top 48)) (c__law_parted:Callee P w K mg base aO 1 "_law_parted" ["_law_n"] (iX K)) (c__law_powers:Callee P w K mg base aO 1 "_law_powers" ["_law_p","_law_b"] nj) (n_len:mg "len"=none) (c__law_paper:Callee P w K mg base aO (L+2) "_law_paper" ["_law_p"] (fK K L)) (n_tuple:mg "tuple"=none):Callee P w K mg base aO (L+3) "_law_paper" ["_law_p"] (fK K (L+1)):=by
 refine cO D dR (λf cdv A outer s H vs Q E hr h=>?_)
 obtain⟨n,rfl,hp,hn,hH,q⟩:=h
 have n2:=hp.two
 obtain⟨g,G⟩:=CI hp
 have g1:=G.one
 have g2:=G.lt
 have nd:=dR.nd
 refine⟨_,(ae (bG (i:=1) nd ah) (ae (bO PassesOwn.never (aA gb (aD aU rfl n_len PySem.boot_len (aa (bN c__law_powers (hr.mono (by omega)) rfl aC (aa (pv 0) (aa (pv 1) ag))) ag)) (au c6 (pv 0) ah) (aE _)) (ak (bG (i:=1) nd (au b7 (pv 1) ah)))) (ak (az (aG (aa (pv 0) (aa (pv 1) (aa (bY bR rfl n_tuple L2.boot_tuple (aa (gf rfl (nP (N':=["_law_q","_law_many"]) (js:=[none,none]) rfl rfl) (bo (bN c__law_parted (hr.mono (by omega)) rfl aC (aa (au c6 (pv 0) ah) ag))) (λ_ _ _ _=>(dD K rfl (n:=2) rfl (aw (aq (i:=0) (show List.Nodup [("_law_q":Str),("_law_many":Str)] from by decide +kernel) rfl (Or.inl rfl) (.inr rfl)) (aw (aq (i:=1) (show List.Nodup [("_law_q":Str),("_law_many":Str)] from by decide +kernel) rfl (Or.inl rfl) (.inr rfl)) aP)))) (λ_ _ _ _=>aS) (λ_ _ _ _=>(aG (aa (bN c__law_paper (hr.mono (by omega)) rfl aC (aa (pv 0) ag)) (aa (pv 1) ag))))) ag)) ag)))))))),?_⟩
 show bJ _ _ _ [some (.int n),none] H
 k_data
 refine bQ (α:=Int) (λx=>[some (.int n),some (.int x)]) (λx H2=>ax H H2/\1<=x/\x<=g) (λx=>(g-x).toNat) 1 rfl ⟨ax.refl _,Int.le_refl _,g1⟩ ?_
 rintro x H2 ⟨S2,x1,x2⟩
 replace x1:1<=x:=x1
 replace x2:x<=g:=x2
 k_data
 refine⟨n,x,rfl,hp,by omega,by omega,by omega,λz=>by have:=Int.le_of_dvd (by omega) z;omega,λr pl H3 o rn s3 f3 e3=>cH (aM.of e3) ?_⟩
 rw [fU]
 have S3:=S2.trans s3
 have r1:=o.pos
 refine⟨_,rfl,bV (λc=>?_) (λc=>?_)⟩
 ·have ne:x≠g:=λz=>by
   have:=o.iS (z▸G.ord)
   omega
  exact⟨_,λ_ _ z=>z,x+1,rfl,S3,by omega,by omega,by omega⟩
 ·have xg:x=g:=by
   rcases (by omega:x=g∨x<g) with z | z
   ·exact z
   ·refine absurd ?_ (G.no x x1 z)
    rw [show (n-1).toNat=r by omega]
    exact o
  subst xg
  refine⟨n-1,rfl,by omega,by omega,λps us p H1 hP hl s1 f1 h1 hd=>?_⟩
  have ul:us.length=ps.length:=by rw [hd.length,List.length_map]
  have at_:∀{i:Nat} {v:V},us[i]?=some v->∃ q' k',ps[i]?=some (q',k')/\(Num.Pm q'/\1<=k')/\q'∣n-1/\q'<=n-1/\∃ pt,v=.ref pt/\bE K H1 pt [.int q',.int k']:=by
   intro i v hx
   obtain⟨d,hd',hv⟩:=hd.get hx
   rw [List.getElem?_map] at hd'
   obtain⟨⟨q',k'⟩,hy,rfl⟩:=Option.map_eq_some_iff.mp hd'
   have hok:=hP.ok _ (List.mem_of_getElem? hy)
   have hdv:q'∣n-1:=by
    have:=Num.fc (List.mem_of_getElem? hy) hok.2.1
    rwa [hP.prod] at this
   exact⟨q',k',hy,⟨hok.1,hok.2.1⟩,hdv,Int.le_of_dvd (by omega) hdv,iI hv⟩
  refine⟨p,rfl,⟨_,aM.of h1⟩,?_⟩
  refine bA (xs:=us) (λi zs H5=>ax H1 H5/\∃ ds,(∀ j q k,(ps.take i)[j]?=some (q,k)->Num.i5 q (ds j))/\aF K H5 (Num.rowsOf (ps.take i) ds) zs) ⟨ax.refl _,λ_=>.none,λj q k z=>by simp at z,rfl⟩ (by rw [ul];exact Nat.le_trans hl (by decide)) (λi zs H5 hi ⟨e1,ds,e2,e3⟩=>⟨aM.of (e1 _ _ h1),by rw [e3.length,Num.cU,List.length_take];omega⟩) ?_ ?_
  ·rintro i v zs H5 hx ⟨s5,ds,hds,hz⟩
   obtain⟨q',k',hy,hok,hdv,ql,pt,rfl,tt⟩:=at_ hx
   show oa K 2 _ _ [none,none] _ _
   refine⟨pt,_,rfl,tt.same s5,rfl,?_⟩
   k_data
   refine⟨True.intro,q',rfl,hok.1,by omega,hH q' hok.1 hdv,λd v H6 hp6 s6 hv6=>⟨by show 2<=sizeLine;decide,λp7 hp7=>?_⟩⟩
   have s7:=ai (o:=.tup [v,V.int k']) hp7
   have tk:ps.take (i+1)=ps.take i++[(q',k')]:=by rw [List.take_add_one,hy];rfl
   have il:i<ps.length:=(List.getElem?_eq_some_iff.mp hy).1
   have tl:(ps.take i).length=i:=by rw [List.length_take];omega
   refine⟨(s5.trans s6).trans s7,λj=>if j=i then d else ds j,λj q k hj=>?_,?_⟩
   ·rw [tk] at hj
    rcases (by omega:j<i∨j=i∨i<j) with z | z | z
    ·rw [List.getElem?_append_left (by omega)] at hj
     show Num.i5 q (if j=i then d else ds j)
     rw [if_neg (by omega)]
     exact hds j q k hj
    ·subst z
     rw [List.getElem?_append_right (by omega),tl,Nat.sub_self] at hj
     show Num.i5 q (if j=j then d else ds j)
     rw [if_pos rfl]
     cases hj
     exact hp6
    ·rw [List.getElem?_eq_none (by simp;omega)] at hj
     cases hj
   ·rw [tk,pJ (ds:=ds) (λj hj=>if_neg (by omega)),tl,if_pos rfl]
    exact aF.append (aF.same (s6.trans s7) _ hz) (.one (dv.tup af ⟨_,_,rfl,dv.same s7 _ hv6,.one rfl⟩))
  ·rintro zs H5 p5 ⟨s5,ds,hds,hz⟩ hp5
   rw [ul,List.take_length] at hds hz
   have s6:=ai (o:=.lst zs) hp5
   refine⟨p5,rfl,zs,.inl ⟨aM.of af,λl hl'=>⟨by show 3<=sizeLine;decide,λp8 hp8=>?_⟩⟩⟩
   generalize upd H5 p5 _=H6 at *
   have s7:=ai (o:=.tup zs) hl'
   have e7:upd H6 l (.tup zs) l=some (.tup zs):=af
   generalize upd H6 l _=H7 at *
   have s8:=ai (o:=.tup [V.int n,V.int x,V.ref l]) hp8
   refine q _ _ _ (.mk n x ps ds hp (by omega) G hP hl hds) (((((S3.trans s1).trans s5).trans s6).trans s7).trans s8) (dv.tup af ⟨_,_,rfl,rfl,_,_,rfl,rfl,.one (dv.tup (s8 _ _ e7) (aF.same ((s6.trans s7).trans s8) _ hz))⟩)
theorem qR (D:ay K mg "_law_paper" (top 48)):Callee P w K mg base aO 2 "_law_paper" ["_law_p"] (fK K 0):=by
 refine cO D dR (λf cdv A outer s H vs Q E hr h=>?_)
 obtain⟨n,rfl,hp,hn,hH,q⟩:=h
 exact hH.elim
theorem j7 (D:ay K mg "_law_paper" (top 48)) (c__law_parted:Callee P w K mg base aO 1 "_law_parted" ["_law_n"] (iX K)) (c__law_powers:Callee P w K mg base aO 1 "_law_powers" ["_law_p","_law_b"] nj) (n_len:mg "len"=none) (n_tuple:mg "tuple"=none):∀ L:Nat,Callee P w K mg base aO (L+2) "_law_paper" ["_law_p"] (fK K L)
 | 0=>qR D
 | L+1=>(qS D c__law_parted c__law_powers n_len (j7 D c__law_parted c__law_powers n_len n_tuple L) n_tuple).mono (by omega)
def lW (K:PySem.W.Frag):Sp:=λvs H Q _=>∃ n:Int,vs=[.int n]/\Num.Pm n/\n<=1000/\∀ d v H',Num.i5 n d->ax H H'->dv K H' d v->Q v H'
theorem yQ (h:Callee P w K mg base aO (30+2) "_law_paper" ["_law_p"] (fK K 30)):Callee P w K mg base aO 32 "_law_paper" ["_law_p"] (lW K) :=
 Callee.imp h λvs H Q E z=>by
  obtain⟨n,h1,h2,h3,q⟩:=z
  exact⟨n,h1,h2,h3,Num.Bg h2 (by omega),q⟩
theorem r8 {n:Int} {d:PyData} (h:Num.i5 n d):∃ g ps ds,d=.tuple [.int n,.int g,.tuple (Num.rowsOf ps ds)]/\Num.LF n g/\Num.Part (n-1) ps/\ps.length<=29/\∀ i q k,ps[i]?=some (q,k)->Num.i5 q (ds i):=by
 cases h with
 | mk _ g ps ds h1 h2 h3 h4 h5 h6=>exact⟨g,ps,ds,rfl,h3,h4,h5,h6⟩
theorem j9 {n:Int} {d:PyData} (h:Num.i5 n d):Num.Pm n/\n<=10^9:=by
 cases h with
 | mk _ _ _ _ a b=>exact⟨a,b⟩
theorem yx {H:Hp} {d1 d2 d3:PyData} {v:V} (h:dv K H (.tuple [d1,d2,d3]) v):∃ p x1 x2 x3,v=.ref p/\bE K H p [x1,x2,x3]/\dv K H d1 x1/\dv K H d2 x2/\dv K H d3 x3:=by
 obtain⟨p,xs,rfl,h1,x1,r1,rfl,e1,x2,r2,rfl,e2,x3,r3,rfl,e3,z⟩:=h
 cases z
 exact⟨p,x1,x2,x3,rfl,h1,e1,e2,e3⟩
def ET (row:PyData) (y:Int × Int):Prop:=∃ ds,row=.tuple [.tuple (.int y.1::ds),.int y.2]
def yd (rows:List PyData) (ps:List (Int × Int)):Prop:=rows.length=ps.length/\∀(i:Nat) (row:PyData),rows[i]?=some row->∃ y,ps[i]?=some y/\ET row y
def sI (K:PySem.W.Frag):Sp:=λvs H Q _=>∃(v:V) (rows:List PyData) (ps:List (Int × Int)),vs=[v]/\dv K H (.tuple rows) v/\yd rows ps/\rows.length<=10^6/\∀ p us H',ax H H'->H p=none->H' p=some (.lst us)->aF K H' (ps.map dy) us->Q (.ref p) H'
theorem vK {H:Hp} {rows:List PyData} {ps:List (Int × Int)} {xs:List V} (hd:aF K H rows xs) (h:yd rows ps) {i:Nat} {x:V} (hx:xs[i]?=some x):∃ q k pt pq r,ps[i]?=some (q,k)/\x=.ref pt/\bE K H pt [.ref pq,.int k]/\bE K H pq (.int q::r):=by
 obtain⟨d,hd',hv⟩:=hd.get hx
 obtain⟨⟨q,k⟩,hy,ds,rfl⟩:=h.2 i d hd'
 obtain⟨pt,ys,rfl,h1,x1,r1,rfl,e1,x2,r2,rfl,e2,z⟩:=hv
 cases z
 obtain⟨pq,zs,rfl,h2,y1,r3,rfl,f1,f2⟩:=e1
 cases f1
 cases e2
 exact⟨q,k,pt,pq,r3,hy,rfl,h1,h2⟩
theorem bS:av ["parts"] ["parts"] (aj (top 13)):=dG
theorem wt (D:ay K mg "parting_in" (top 13)):Callee P w K mg base aO 1 "parting_in" ["parts"] (sI K):=by
 refine cO D bS (λf cdv A outer s H vs Q E hr h=>?_)
 obtain⟨v,rows,ps,rfl,hd,hh,h6,q⟩:=h
 have nd:=bS.nd
 refine⟨_,(ak (az (gf rfl (nP (N':=["row"]) (js:=[none]) rfl rfl) (iT (pv 0)) (λ_ _ _ _=>(aq (i:=0) (show List.Nodup [("row":Str)] from by decide +kernel) rfl (Or.inl rfl) (.inr rfl))) (λ_ _ _ _=>aS) (λ_ _ _ _=>(aG (aa (aB (bw K rfl) (aB (bw K rfl) (pv 0) ah (λ_ _=>rfl)) ah (λ_ _=>rfl)) (aa (aB (bw K rfl) (pv 0) ah (λ_ _=>rfl)) ag))))))),?_⟩
 show pX _ _ [some v] H
 obtain⟨p,xs,rfl,hS,ht⟩:=hd
 have xl:=ht.length
 have rl:=hh.1
 k_data
 refine⟨⟨_,hS⟩,?_⟩
 refine fN (xs:=xs) (λi zs H3=>ax H H3/\aF K H3 ((ps.take i).map dy) zs) ⟨ax.refl _,rfl⟩ (Nat.le_trans (by omega) (show 10^6<=sizeLine by decide)) (λi zs H3 hi ⟨e1,e2⟩=>⟨hS.same e1,by rw [e2.length,List.length_map,List.length_take];omega⟩) ?_ ?_
 ·rintro i x zs H3 hx ⟨s3,hz⟩
  obtain⟨q',k',pt,pq,r,hy,rfl,t1,t2⟩:=vK ht hh hx
  show b8 0 _ [none] _ _
  k_data
  refine⟨True.intro,br (t1.same s3) jx (br (t2.same s3) jx (br (t1.same s3) rfl ⟨by show 2<=sizeLine;decide,λp4 hp4=>?_⟩))⟩
  have s4:=ai (o:=.tup [V.int q',V.int k']) hp4
  refine⟨s3.trans s4,?_⟩
  rw [List.take_add_one,hy,List.map_append]
  exact aF.append (aF.same s4 _ hz) (.one (dv.tup af ⟨_,_,rfl,rfl,.one rfl⟩))
 ·rintro zs H3 p3 ⟨s3,hz⟩ hp3
  rw [show xs.length=ps.length by omega,List.take_length] at hz
  exact q p3 zs _ (s3.trans (ai hp3)) (s3.free hp3) af (aF.same (ai hp3) _ hz)
def xA:Sp:=λvs H Q _=>∃ n q:Int,vs=[.int n,.int q]/\0<=n/\n<=10^50/\2<=q/\q<=10^50/\∀ t:Nat,n<=q^(t+1)->Q (.int t) H
theorem gk:av ["n","prime","times","product"] ["n","prime"] (aj (top 18)):=dG
theorem y7 (D:ay K mg "most_times" (top 18)):Callee P w K mg base aO 1 "most_times" ["n","prime"] xA:=by
 refine cO D gk (λf cdv A outer s H vs Q E hr h=>?_)
 obtain⟨n,q',rfl,n0,n9,q2,q9,q⟩:=h
 have nd:=gk.nd
 refine⟨_,(ae (bG (i:=2) nd ah) (ae (bG (i:=3) nd (pv 1)) (ae (bO PassesOwn.never (aA gb (pv 3) (pv 0) (aE _)) (ae (gD (i:=3) nd rfl (Or.inl rfl) (pv 1) (jW oo)) (ak (gD (i:=2) nd rfl (Or.inl rfl) ah (jW mF))))) (ak (az (pv 2)))))),?_⟩
 show bJ _ _ _ [some (.int n),some (.int q'),none,none] H
 k_data
 refine bQ (α:=Nat) (λt=>[some (.int n),some (.int q'),some (.int (t:Int)),some (.int (q'^(t+1)))]) (λt H1=>H1=H/\(t=0∨q'^t<n)) (λt=>(n-q'^(t+1)).toNat) 0 (by rw [Int.pow_succ,Int.pow_zero,Int.one_mul];rfl) ⟨rfl,.inl rfl⟩ ?_
 rintro t H1 ⟨rfl,ht⟩
 replace ht:t=0∨q'^t<n:=ht
 have p0:0<q'^(t+1):=Num.bz (by omega) _
 k_data
 refine bV (λc=>?_) (λc=>?_)
 ·have up:q'^(t+1)*2<=q'^(t+1)*q':=Int.mul_le_mul_of_nonneg_left q2 (by omega)
  refine⟨_,λ_ _ z=>z,Bd.of (by omega) (by omega),Bd.of (by omega) (by omega),t+1,?_,rfl,.inr c,?_⟩
  ·rw [Int.pow_succ q' (t+1)];rfl
  ·show (n-q'^(t+1+1)).toNat<(n-q'^(t+1)).toNat
   rw [Int.pow_succ q' (t+1)]
   omega
 ·exact q t (by omega)
def ir (K:PySem.W.Frag):Sp:=λvs H Q _=>∃(n a:Int) (p:Addr) (us:List V) (ps:List (Int × Int)),vs=[.int n,.int a,.ref p]/\0<n/\n<=10^60/\0<=a/\a<n/\H p=some (.lst us)/\aF K H (ps.map dy) us/\(∀ y∈ps,2<=y.1/\0<=y.2/\y.2<=10^6)/\∀ H',ax H H'->Q (.int (a^Num.eN ps%n)) H'
theorem jz (ps:List (Int × Int)) (q k:Int):Num.eN (ps++[(q,k)])=Num.eN ps*q.toNat^k.toNat:=by
 rw [Num.cD]
 show Num.eN ps*(q.toNat^k.toNat*1)=_
 rw [Nat.mul_one]
theorem vC:∀{ps:List (Int × Int)},(∀ y∈ps,2<=y.1)->Num.eN ps≠0
 | [],_=>by decide
 | p::r,h=>by
  have:=h p (List.mem_cons_self ..)
  exact Nat.mul_ne_zero (Nat.ne_of_gt (Nat.pow_pos (by omega))) (vC λy z=>h y (List.mem_cons_of_mem _ z))
theorem pow_step {n a q:Int} {M j:Nat} (n0:0<n):(a^(M*q.toNat^j)%n)^q.toNat%n=a^(M*q.toNat^(j+1))%n:=by
 rw [Num.Al.iff.mp ((Num.Al.rest n (a^(M*q.toNat^j))).pow q.toNat),Num.bL,Nat.pow_succ,Nat.mul_assoc]
theorem lS:av ["n","a","parting","rest","prime","many","turn"] ["n","a","parting"] (aj (top 19)):=dG
theorem uq {C:Addr} (D:ay K mg "raised" (top 19)) (c_power:Callee P w K mg base (dO P w) 4 "power" ["n","a","e"] (eG C)) (n_range:mg "range"=none):Callee P w K mg base aO 5 "raised" ["n","a","parting"] (ir K):=by
 refine cO D lS (λf cdv A outer s H vs Q E hr h=>?_)
 obtain⟨n,a,p,us,ps,rfl,n0,n9,a0,a1,hp,hd,hok,q⟩:=h
 have nd:=lS.nd
 refine⟨_,(ae (bG (i:=3) nd (pv 1)) (ae (bD PassesOwn.never rfl (bo (pv 2)) (cz (n:=2) rfl (aw (aq (i:=4) nd rfl (Or.inl rfl) (.inr rfl)) (aw (aq (i:=5) nd rfl (Or.inl rfl) (.inr rfl)) aP))) (ak (bD PassesOwn.never rfl (bZ rfl n_range (aa (pv 5) ag)) (aq (i:=6) nd rfl (Or.inl rfl) (.inr rfl)) (ak (bG (i:=3) nd (cw c_power hr bC (aa (pv 0) (aa (pv 3) (aa (pv 4) ag))))))))) (ak (az (pv 3))))),?_⟩
 show bJ _ _ _ [some (.int n),some (.int a),some (.ref p),none,none,none,none] H
 have ul:us.length=ps.length:=by rw [hd.length,List.length_map]
 k_data
 refine⟨⟨_,aM.of hp⟩,?_⟩
 refine df (xs:=us) (λi σ' H'=>ax H H'/\∃ o4 o5 o6,σ'=[some (.int n),some (.int a),some (.ref p),some (.int (a^Num.eN (ps.take i)%n)),o4,o5,o6]) ⟨ax.refl _,none,none,none,?_⟩ (λi σ' H' _ h=>aM.of (h.1 _ _ hp)) ?_ ?_
 ·show _=[_,_,_,some (V.int (a^1%n)),none,none,none]
  rw [Int.pow_one,Int.emod_eq_of_lt a0 a1]
 ·rintro i x σ' H' hx ⟨s',o4,o5,o6,rfl⟩
  obtain⟨d,hd',hv⟩:=hd.get hx
  rw [List.getElem?_map] at hd'
  obtain⟨⟨q',k'⟩,hy,rfl⟩:=Option.map_eq_some_iff.mp hd'
  obtain⟨q2,k0,k6⟩:=hok _ (List.mem_of_getElem? hy)
  replace q2:2<=q':=q2
  replace k0:0<=k':=k0
  replace k6:k'<=10^6:=k6
  obtain⟨pt,rfl,tt⟩:=iI hv
  refine⟨pt,_,rfl,tt.same s',rfl,?_⟩
  k_data
  refine⟨by omega,by omega,?_⟩
  refine bB (λj σ2 H2=>ax H H2/\∃ o6,σ2=[some (.int n),some (.int a),some (.ref p),some (.int (a^(Num.eN (ps.take i)*q'.toNat^j)%n)),some (.int q'),some (.int k'),o6]) ⟨s',o6,by rw [Nat.pow_zero,Nat.mul_one]⟩ ?_ ?_
  ·rintro j σ2 H2 hj ⟨s2,o6,rfl⟩
   k_data
   refine⟨n,_,q',rfl,n0,by omega,λ_ H3 s3=>⟨s2.trans s3,?_⟩,λz=>absurd z (by omega)⟩
   rw [pow_step n0]
  ·rintro σ2 H2 ⟨s2,o6,rfl⟩
   refine⟨s2,some (.int q'),some (.int k'),o6,?_⟩
   rw [List.take_add_one,hy]
   show _=[_,_,_,some (V.int (a^Num.eN (ps.take i++[(q',k')])%n)),_,_,_]
   rw [jz]
 ·rintro σ' H' ⟨s',o4,o5,o6,rfl⟩
  rw [ul,List.take_length]
  k_data
  exact q H' s'
def nk:Sp:=λvs H Q _=>∃(n a q:Int) (k:Nat),vs=[.int n,.int a,.int q]/\2<=n/\n<=10^60/\0<=a/\a<n/\2<=q/\a^q.toNat^k%n=1/\∀(t:Nat) H',t<=k->a^q.toNat^t%n=1->(∀ j,j<t->a^q.toNat^j%n≠1)->ax H H'->Q (.int t) H'
theorem eR:av ["n","a","prime","times","rest"] ["n","a","prime"] (aj (top 21)):=dG
theorem wA {C:Addr} (D:ay K mg "times_to_one" (top 21)) (c_power:Callee P w K mg base (dO P w) 4 "power" ["n","a","e"] (eG C)):Callee P w K mg base aO 5 "times_to_one" ["n","a","prime"] nk:=by
 refine cO D eR (λf cdv A outer s H vs Q E hr h=>?_)
 obtain⟨n,a,q',k,rfl,n2,n9,a0,a1,q2,hk,q⟩:=h
 have nd:=eR.nd
 refine⟨_,(ae (bG (i:=3) nd ah) (ae (bG (i:=4) nd (pv 1)) (ae (bO PassesOwn.never (aA gc (pv 4) ah (aE _)) (ae (bG (i:=4) nd (cw c_power hr bC (aa (pv 0) (aa (pv 4) (aa (pv 2) ag))))) (ak (gD (i:=3) nd rfl (Or.inl rfl) ah (jW mF))))) (ak (az (pv 3)))))),?_⟩
 show bJ _ _ _ [some (.int n),some (.int a),some (.int q'),none,none] H
 k_data
 refine bQ (α:=Nat) (λt=>[some (.int n),some (.int a),some (.int q'),some (.int (t:Int)),some (.int (a^q'.toNat^t%n))]) (λt H1=>ax H H1/\t<=k/\∀ j,j<t->a^q'.toNat^j%n≠1) (λt=>k-t) 0 (by rw [Nat.pow_zero,Int.pow_one,Int.emod_eq_of_lt a0 a1];rfl) ⟨ax.refl _,Nat.zero_le _,λj hj=>absurd hj (Nat.not_lt_zero _)⟩ ?_
 rintro t H1 ⟨s1,tk,no⟩
 replace tk:t<=k:=tk
 replace no:∀ j,j<t->a^q'.toNat^j%n≠1:=no
 k_data
 refine bV (λc=>?_) (λc=>?_)
 ·have tk':t≠k:=λz=>c (z▸hk)
  refine⟨_,λ_ _ z=>z,n,_,q',rfl,by omega,by omega,λ_ H2 s2=>⟨t+1,?_,s1.trans s2,by omega,λj hj=>?_,?_⟩,λz=>absurd z (by omega)⟩
  ·have:=pow_step (n:=n) (a:=a) (M:=1) (q:=q') (j:=t) (by omega)
   rw [Nat.one_mul,Nat.one_mul] at this
   rw [this]
   rfl
  ·rcases (by omega:j<t∨j=t) with z | z
   ·exact no j z
   ·rw [z];exact c
  ·show k-(t+1)<k-t
   omega
 ·exact q t H1 tk (by simpa using c) no s1
def nq (K:PySem.W.Frag):Sp:=λvs H Q _=>∃(p:Addr) (us:List V) (ps:List (Int × Int)),vs=[.ref p]/\H p=some (.lst us)/\aF K H (ps.map dy) us/\(∀ y∈ps,2<=y.1/\0<=y.2/\y.2<=10^6)/\Num.eN ps<=10^100/\∀ H',ax H H'->Q (.int (Num.eN ps)) H'
theorem vB {ps:List (Int × Int)} (h:∀ y∈ps,2<=y.1) {i:Nat} {q k:Int} (hy:ps[i]?=some (q,k)) {j:Nat} (hj:j<=k.toNat):Num.eN (ps.take i)*q.toNat^j<=Num.eN ps/\q.toNat<=Num.eN (ps.take i)*q.toNat^k.toNat*Num.eN (ps.drop (i+1))*q.toNat:=by
 have pos:∀ l:List (Int × Int),(∀ y∈l,2<=y.1)->0<Num.eN l:=by
  intro l
  induction l with
  | nil=>intro _;exact Nat.one_pos
  | cons p r ih =>
   intro hl
   have:=hl p (List.mem_cons_self ..)
   exact Nat.mul_pos (Nat.pow_pos (by omega)) (ih λy z=>hl y (List.mem_cons_of_mem _ z))
 have q2:2<=q:=h _ (List.mem_of_getElem? hy)
 have e:ps=ps.take i++[(q,k)]++ps.drop (i+1):=by
  have h1:ps.take (i+1)=ps.take i++[(q,k)]:=by rw [List.take_add_one,hy];rfl
  rw [<- h1,List.take_append_drop]
 have p1:=pos (ps.take i) λy z=>h y (List.mem_of_mem_take z)
 have p2:=pos (ps.drop (i+1)) λy z=>h y (List.mem_of_mem_drop z)
 have e2:Num.eN ps=Num.eN (ps.take i)*q.toNat^k.toNat*Num.eN (ps.drop (i+1)):=by
  have:Num.eN ps=Num.eN (ps.take i++[(q,k)]++ps.drop (i+1)):=congrArg _ e
  rw [this,Num.cD,jz]
 have p3:0<q.toNat^k.toNat:=Nat.pow_pos (by omega)
 constructor
 ·rw [e2]
  refine Nat.le_trans (Nat.mul_le_mul_left _ (Nat.pow_le_pow_right (by omega) hj)) ?_
  exact Nat.le_mul_of_pos_right _ p2
 ·exact Nat.le_mul_of_pos_left _ (Nat.mul_pos (Nat.mul_pos p1 p3) p2)
theorem jo:av ["parting","whole","prime","many","turn"] ["parting"] (aj (top 7)):=dG
theorem wB (D:ay K mg "whole_of" (top 7)) (n_range:mg "range"=none):Callee P w K mg base aO 1 "whole_of" ["parting"] (nq K):=by
 refine cO D jo (λf cdv A outer s H vs Q E hr h=>?_)
 obtain⟨p,us,ps,rfl,hp,hd,hok,h100,q⟩:=h
 have nd:=jo.nd
 refine⟨_,(ae (bG (i:=1) nd ah) (ae (bD PassesOwn.never rfl (bo (pv 0)) (cz (n:=2) rfl (aw (aq (i:=2) nd rfl (Or.inl rfl) (.inr rfl)) (aw (aq (i:=3) nd rfl (Or.inl rfl) (.inr rfl)) aP))) (ak (bD PassesOwn.never rfl (bZ rfl n_range (aa (pv 3) ag)) (aq (i:=4) nd rfl (Or.inl rfl) (.inr rfl)) (ak (gD (i:=1) nd rfl (Or.inl rfl) (pv 2) (jW oo)))))) (ak (az (pv 1))))),?_⟩
 show bJ _ _ _ [some (.ref p),none,none,none,none] H
 have ul:us.length=ps.length:=by rw [hd.length,List.length_map]
 k_data
 refine⟨⟨_,aM.of hp⟩,?_⟩
 refine df (xs:=us) (λi σ' H'=>ax H H'/\∃ o4 o5 o6,σ'=[some (.ref p),some (.int (Num.eN (ps.take i))),o4,o5,o6]) ⟨ax.refl _,none,none,none,rfl⟩ (λi σ' H' _ h=>aM.of (h.1 _ _ hp)) ?_ ?_
 ·rintro i x σ' H' hx ⟨s',o4,o5,o6,rfl⟩
  obtain⟨d,hd',hv⟩:=hd.get hx
  rw [List.getElem?_map] at hd'
  obtain⟨⟨q',k'⟩,hy,rfl⟩:=Option.map_eq_some_iff.mp hd'
  obtain⟨q2,k0,k6⟩:=hok _ (List.mem_of_getElem? hy)
  replace q2:2<=q':=q2
  replace k0:0<=k':=k0
  replace k6:k'<=10^6:=k6
  obtain⟨pt,rfl,tt⟩:=iI hv
  refine⟨pt,_,rfl,tt.same s',rfl,?_⟩
  k_data
  refine⟨by omega,by omega,?_⟩
  refine bB (λj σ2 H2=>H2=H'/\∃ o6,σ2=[some (.ref p),some (.int ((Num.eN (ps.take i)*q'.toNat^j:Nat):Int)),some (.int q'),some (.int k'),o6]) ⟨rfl,o6,by rw [Nat.pow_zero,Nat.mul_one]⟩ ?_ ?_
  ·rintro j σ2 H2 hj ⟨rfl,o6,rfl⟩
   have g1:=(vB (λy z=>(hok y z).1) hy (j:=j) (by omega)).1
   have g2:=(vB (λy z=>(hok y z).1) hy (j:=1) (by omega)).1
   have qb:q'.toNat<=10^100:=by
    rw [Nat.pow_one] at g2
    have:0<Num.eN (ps.take i):=by
     rcases Nat.eq_zero_or_pos (Num.eN (ps.take i)) with z | z
     ·exact absurd z (vC λy z=>(hok y (List.mem_of_mem_take z)).1)
     ·exact z
    have:=Nat.le_mul_of_pos_left q'.toNat this
    omega
   k_data
   refine⟨Bd.of (by omega) (by omega),Bd.of (by omega) (by omega),?_⟩
   rw [Nat.pow_succ,<- Nat.mul_assoc,Int.natCast_mul _ q'.toNat,show (q'.toNat:Int)=q' by omega]
  ·rintro σ2 H2 ⟨rfl,o6,rfl⟩
   refine⟨s',some (.int q'),some (.int k'),o6,?_⟩
   rw [List.take_add_one,hy]
   show _=[_,some (V.int (Num.eN (ps.take i++[(q',k')]):Nat)),_,_,_]
   rw [jz]
 ·rintro σ' H' ⟨s',o4,o5,o6,rfl⟩
  rw [ul,List.take_length]
  k_data
  exact q H' s'
theorem aF.AN {H:Hp}:∀(m:Nat) {ds:List PyData} {us:List V},aF K H ds us->aF K H (ds.take m) (us.take m)/\aF K H (ds.drop m) (us.drop m)
 | 0,ds,us,h=>⟨by simp only [List.take_zero];exact rfl,by simpa using h⟩
 | m+1,[],us,h=>by cases h;exact⟨rfl,rfl⟩
 | m+1,d::ds,us,h=>by
  obtain⟨x,r,rfl,h1,h2⟩:=h
  have ih:=AN m h2
  exact⟨⟨x,_,rfl,h1,ih.1⟩,ih.2⟩
theorem vh {us:List V} {m:Nat} (h:m<=us.length):dP us none (some (m:Int))=us.take m:=by
 unfold dP
 have e1:HT.cK us.length 0 none=0:=rfl
 have e2:HT.cK us.length us.length (some (m:Int))=m:=by
  simp only [HT.cK]
  split<;>omega
 rw [e1,e2,List.drop_zero,Nat.sub_zero]
theorem vf {us:List V} {m:Nat} (h:m<=us.length):dP us (some (m:Int)) none=us.drop m:=by
 unfold dP
 have e1:HT.cK us.length us.length none=us.length:=rfl
 have e2:HT.cK us.length 0 (some (m:Int))=m:=by
  simp only [HT.cK]
  split<;>omega
 rw [e1,e2]
 exact List.take_of_length_le (by rw [List.length_drop];omega)
def iu (K:PySem.W.Frag) (L:Nat):Sp:=λvs H Q _=>∃(n a:Int) (p:Addr) (us:List V) (ps:List (Int × Int)),vs=[.int n,.int a,.ref p]/\(1<=L/\ps.length<=2^(L-1))/\ps.length<=10^6/\2<=n/\n<=10^60/\0<=a/\a<n/\H p=some (.lst us)/\aF K H (ps.map dy) us/\(∀ y∈ps,Num.Pm y.1/\0<=y.2/\y.2<=10^6)/\ps.Pairwise (λx y=>y.1≠x.1)/\a^Num.eN ps%n=1 /\
 ∀ pt ts H',Num.TO n a ps ts->ax H H'->H pt=none->H' pt=some (.lst (ts.map V.int))->Q (.ref pt) H'
theorem cI:av ["n","a","parting","half","ahead","behind"] ["n","a","parting"] (aj (top 20)):=dG
theorem uu (D:ay K mg "times_in_order" (top 20)):Callee P w K mg base aO 6 "times_in_order" ["n","a","parting"] (iu K 0):=by
 refine cO D cI (λf cdv A outer s H vs Q E hr h=>?_)
 obtain⟨n,a,p,us,ps,rfl,hL,_⟩:=h
 exact absurd hL.1 (by decide)
theorem uv {L:Nat} (D:ay K mg "times_in_order" (top 20)) (c_raised:Callee P w K mg base aO 5 "raised" ["n","a","parting"] (ir K)) (c_times_to_one:Callee P w K mg base aO 5 "times_to_one" ["n","a","prime"] nk) (c_times_in_order:Callee P w K mg base aO (L+6) "times_in_order" ["n","a","parting"] (iu K L)) (n_len:mg "len"=none):Callee P w K mg base aO (L+7) "times_in_order" ["n","a","parting"] (iu K (L+1)):=by
 refine cO D cI (λf cdv A outer s H vs Q E hr h=>?_)
 obtain⟨n,a,p,us,ps,rfl,hL,h6,n2,n9,a0,a1,hp,hd,hok,pw,h1,q⟩:=h
 have nd:=cI.nd
 refine⟨_,(ae (bp (aA fq (aD aU rfl n_len PySem.boot_len (aa (pv 2) ag)) ah (aE _)) (ak (az (dt ag))) aK) (ae (bp (aA fq (aD aU rfl n_len PySem.boot_len (aa (pv 2) ag)) ah (aE _)) (ak (az (dt (aa (bN c_times_to_one (hr.mono (by omega)) rfl aC (aa (pv 0) (aa (pv 1) (aa (aB aV (aB aJ (pv 2) ah (λ_ _=>rfl)) ah (λ_ _=>rfl)) ag)))) ag)))) aK) (ae (bG (i:=3) nd (au cp (aD aU rfl n_len PySem.boot_len (aa (pv 2) ag)) ah)) (ae (bG (i:=4) nd (gX m8 (pv 2) mS (eF (pv 3)))) (ae (bG (i:=5) nd (gX m8 (pv 2) (eF (pv 3)) mS)) (ak (az (au wC (bN c_times_in_order (hr.mono (by omega)) rfl aC (aa (pv 0) (aa (bN c_raised (hr.mono (by omega)) rfl aC (aa (pv 0) (aa (pv 1) (aa (pv 5) ag)))) (aa (pv 4) ag)))) (bN c_times_in_order (hr.mono (by omega)) rfl aC (aa (pv 0) (aa (bN c_raised (hr.mono (by omega)) rfl aC (aa (pv 0) (aa (pv 1) (aa (pv 4) ag)))) (aa (pv 5) ag)))))))))))),?_⟩
 show bJ _ _ _ [some (.int n),some (.int a),some (.ref p),none,none,none] H
 have ul:us.length=ps.length:=by rw [hd.length,List.length_map]
 k_data
 refine cH (aM.of hp) ⟨rfl,?_⟩
 refine bV (λc=>?_) (λc=>?_)
 ·have e0:ps=[]:=List.eq_nil_of_length_eq_zero (by injection c;omega)
  subst e0
  refine⟨by show 0<=sizeLine;decide,λp1 hp1=>q p1 [] _ (.none ?_) (ai hp1) hp1 af⟩
  have:a^1%n=1:=h1
  rw [Int.pow_one] at this
  exact Num.Al.iff.mpr (by rw [this];exact (Int.emod_eq_of_lt (by omega) (by omega)).symm)
 refine cH (aM.of hp) ⟨rfl,?_⟩
 refine bV (λc1=>?_) (λc1=>?_)
 ·have l1:ps.length=1:=by injection c1;omega
  obtain⟨⟨q',k'⟩,rfl⟩:∃ y,ps=[y]:=by
   cases ps with
   | nil=>cases l1
   | cons y r=>cases r with
    | nil=>exact⟨y,rfl⟩
    | cons _ _=>simp at l1
  obtain⟨pq,k0,k6⟩:=hok (q',k') (List.mem_singleton.mpr rfl)
  replace pq:Num.Pm q':=pq
  obtain⟨u,r,rfl,hv,z⟩:=hd
  cases z
  obtain⟨pt,rfl,tt⟩:=iI hv
  refine jI (aM.of hp) (by omega) (by show (0:Int)<1;decide) λv hv=>?_
  have ev:v=V.ref pt:=List.mem_singleton.mp hv
  subst ev
  have h1':a^q'.toNat^k'.toNat%n=1:=by
   have:a^(q'.toNat^k'.toNat*1)%n=1:=h1
   rwa [Nat.mul_one] at this
  refine br tt jx ⟨n,a,q',k'.toNat,rfl,n2,n9,a0,a1,pq.two,h1',λt H1 _ t1 t2 s1=>⟨by show 1<=sizeLine;decide,λp2 hp2=>?_⟩⟩
  refine q p2 [(t:Int)] _ (.one pq ((eh n2).mp t1) λj hj z=>t2 j hj ((eh n2).mpr z)) (s1.trans (ai hp2)) (s1.free hp2) af
 have l2:2<=ps.length:=by
  have h0:us.length≠0:=λz=>c (by rw [z];rfl)
  have h1:us.length≠1:=λz=>c1 (by rw [z];rfl)
  omega
 refine cH (aM.of hp) ⟨_,rfl,Bd.of (by omega) (by omega),?_⟩
 obtain⟨m,em,m1,m2⟩:∃ m:Nat,(us.length:Int)/2=m/\1<=m/\m=ps.length/2:=⟨us.length/2,by omega,by omega,by omega⟩
 rw [em]
 refine⟨p,us,rfl,aM.of hp,λpa hpa=>?_⟩
 rw [vh (by omega)]
 have s1:=ai (o:=.lst (us.take m)) hpa
 have ea:upd H pa (.lst (us.take m)) pa=some (.lst (us.take m)):=af
 generalize upd H pa _=H1 at *
 refine⟨p,us,rfl,aM.of (s1 _ _ hp),λpb hpb=>?_⟩
 rw [vf (by omega)]
 have s2:=ai (o:=.lst (us.drop m)) hpb
 have eb:upd H1 pb (.lst (us.drop m)) pb=some (.lst (us.drop m)):=af
 generalize upd H1 pb _=H2 at *
 have S2:=s1.trans s2
 have hT:=aF.AN m (aF.same S2 _ hd)
 rw [<- List.map_take,<- List.map_drop] at hT
 have okA:∀ y∈ps.take m,Num.Pm y.1/\0<=y.2/\y.2<=10^6:=λy z=>hok y (List.mem_of_mem_take z)
 have okB:∀ y∈ps.drop m,Num.Pm y.1/\0<=y.2/\y.2<=10^6:=λy z=>hok y (List.mem_of_mem_drop z)
 have ne:∀ x∈ps.take m,∀ y∈ps.drop m,y.1≠x.1:=by
  rw [<- List.take_append_drop m ps,List.pairwise_append] at pw
  exact pw.2.2
 have pwA:(ps.take m).Pairwise (λx y=>y.1≠x.1):=pw.sublist (List.take_sublist ..)
 have pwB:(ps.drop m).Pairwise (λx y=>y.1≠x.1):=pw.sublist (List.drop_sublist ..)
 have h1A:Num.Al n (a^(Num.eN (ps.take m)*Num.eN (ps.drop m))) 1:=by
  rw [<- Num.cD,List.take_append_drop]
  exact (eh n2).mp h1
 have lA:(ps.take m).length<=2^(L-1)/\(ps.drop m).length<=2^(L-1)/\1<=L:=by
  have hL2:ps.length<=2^L:=hL.2
  have L1:1<=L:=by
   rcases Nat.eq_zero_or_pos L with z | z
   ·subst z;simp at hL2;omega
   ·exact z
  obtain⟨L',rfl⟩:∃ L',L=L'+1:=⟨L-1,by omega⟩
  rw [Nat.pow_succ] at hL2
  rw [List.length_take,List.length_drop]
  refine⟨?_,?_,by omega⟩<;>(simp only [Nat.add_sub_cancel];omega)
 have md:∀ e:Nat,0<=a^e%n/\a^e%n<n:=λe=>⟨Int.emod_nonneg _ (by omega),Int.emod_lt_of_pos _ (by omega)⟩
 have p1:∀ e E:Nat,Num.Al n (a^(e*E)) 1->(a^e%n)^E%n=1:=λe E z=>by
  rw [Num.Al.iff.mp ((Num.Al.rest n (a^e)).pow E),Num.bL]
  exact (eh n2).mpr z
 refine⟨n,a,pb,_,ps.drop m,rfl,by omega,n9,a0,a1,eb,hT.2,λy z=>⟨(okB y z).1.two,(okB y z).2⟩,λH3 s3=>?_⟩
 refine⟨n,_,pa,_,ps.take m,rfl,⟨lA.2.2,lA.1⟩,by rw [List.length_take];omega,n2,n9,(md _).1,(md _).2,s3 _ _ (s2 _ _ ea),aF.same s3 _ hT.1,okA,pwA,p1 _ _ (by rw [Nat.mul_comm];exact h1A),λpt ts H4 hTO s4 f4 e4=>?_⟩
 have S4:=s3.trans s4
 refine⟨n,a,pa,_,ps.take m,rfl,by omega,n9,a0,a1,S4 _ _ (s2 _ _ ea),aF.same S4 _ hT.1,λy z=>⟨(okA y z).1.two,(okA y z).2⟩,λH5 s5=>?_⟩
 refine⟨n,_,pb,_,ps.drop m,rfl,⟨lA.2.2,lA.2.1⟩,by rw [List.length_drop];omega,n2,n9,(md _).1,(md _).2,s5 _ _ (S4 _ _ eb),aF.same (S4.trans s5) _ hT.2,okB,pwB,p1 _ _ h1A,λpt2 ts2 H6 hTO2 s6 f6 e6=>?_⟩
 have tl:(ts.map V.int).length+(ts2.map V.int).length<=10^6:=by
  rw [List.length_map,List.length_map,hTO.len,hTO2.len,List.length_take,List.length_drop]
  omega
 refine⟨pt,pt2,_,_,rfl,rfl,s6 _ _ (s5 _ _ e4),e6,Nat.le_trans tl (by decide),λpl hpl=>?_⟩
 have S6:=((S2.trans S4).trans s5).trans s6
 have:=Num.TO.two (λy z=>(okA y z).1) (λy z=>(okB y z).1) ne (by rw [Num.cD];exact h1A) (hTO.al (Num.Al.rest n _)) (hTO2.al (Num.Al.rest n _))
 rw [List.take_append_drop] at this
 refine q pl (ts++ts2) _ this (S6.trans (ai hpl)) (S6.free hpl) ?_
 rw [List.map_append]
 exact af
theorem oN (D:ay K mg "times_in_order" (top 20)) (c_raised:Callee P w K mg base aO 5 "raised" ["n","a","parting"] (ir K)) (c_times_to_one:Callee P w K mg base aO 5 "times_to_one" ["n","a","prime"] nk) (n_len:mg "len"=none):∀ L:Nat,Callee P w K mg base aO (L+6) "times_in_order" ["n","a","parting"] (iu K L)
 | 0=>uu D
 | L+1=>uv D c_raised c_times_to_one (oN D c_raised c_times_to_one n_len L) n_len
def sH (K:PySem.W.Frag):Sp:=λvs H Q _=>∃(p:Addr) (xs:List V) (rows:List PyData) (ps:List (Int × Int)),vs=[.ref p]/\H p=some (.lst xs)/\aF K H rows xs/\yd rows ps/\rows.length<=10^6/\∀ p us H',ax H H'->H p=none->H' p=some (.lst us)->aF K H' (ps.map dy) us->Q (.ref p) H'
theorem wq (D:ay K mg "parting_in" (top 13)):Callee P w K mg base aO 1 "parting_in" ["parts"] (sH K):=by
 refine cO D bS (λf cdv A outer s H vs Q E hr h=>?_)
 obtain⟨p,xs,rows,ps,rfl,hS,ht,hh,h6,q⟩:=h
 have nd:=bS.nd
 refine⟨_,(ak (az (gf rfl (nP (N':=["row"]) (js:=[none]) rfl rfl) (bo (pv 0)) (λ_ _ _ _=>(aq (i:=0) (show List.Nodup [("row":Str)] from by decide +kernel) rfl (Or.inl rfl) (.inr rfl))) (λ_ _ _ _=>aS) (λ_ _ _ _=>(aG (aa (aB (bw K rfl) (aB (bw K rfl) (pv 0) ah (λ_ _=>rfl)) ah (λ_ _=>rfl)) (aa (aB (bw K rfl) (pv 0) ah (λ_ _=>rfl)) ag))))))),?_⟩
 show pX _ _ [some (.ref p)] H
 have xl:=ht.length
 have rl:=hh.1
 k_data
 refine⟨⟨_,aM.of hS⟩,?_⟩
 refine bA (xs:=xs) (λi zs H3=>ax H H3/\aF K H3 ((ps.take i).map dy) zs) ⟨ax.refl _,rfl⟩ (Nat.le_trans (by omega) (show 10^6<=sizeLine by decide)) (λi zs H3 hi ⟨e1,e2⟩=>⟨aM.of (e1 _ _ hS),by rw [e2.length,List.length_map,List.length_take];omega⟩) ?_ ?_
 ·rintro i x zs H3 hx ⟨s3,hz⟩
  obtain⟨q',k',pt,pq,r,hy,rfl,t1,t2⟩:=vK ht hh hx
  show b8 0 _ [none] _ _
  k_data
  refine⟨True.intro,br (t1.same s3) jx (br (t2.same s3) jx (br (t1.same s3) rfl ⟨by show 2<=sizeLine;decide,λp4 hp4=>?_⟩))⟩
  have s4:=ai (o:=.tup [V.int q',V.int k']) hp4
  refine⟨s3.trans s4,?_⟩
  rw [List.take_add_one,hy,List.map_append]
  exact aF.append (aF.same s4 _ hz) (.one (dv.tup af ⟨_,_,rfl,rfl,.one rfl⟩))
 ·rintro zs H3 p3 ⟨s3,hz⟩ hp3
  rw [show xs.length=ps.length by omega,List.take_length] at hz
  exact q p3 zs _ (s3.trans (ai hp3)) (s3.free hp3) af (aF.same (ai hp3) _ hz)
def j8 (p a e:Int) (y:PyData × Int × Int):PyData:=.tuple [y.1,.int y.2.2,.int (a^(e/y.2.1).toNat%p)]
def kf (ps:List (Int × Int)) (ds:Nat->PyData) (ts:List Int) (i:Nat):Option (PyData × Int × Int):=match ps[i]?,ts[i]? with
 | some y,some t=>if 0<t then some (ds i,y.1,t) else none
 | _,_=>none
def bT (ps:List (Int × Int)) (ds:Nat->PyData) (ts:List Int) (n:Nat):List (PyData × Int × Int):=(List.range n).filterMap (kf ps ds ts)
def fe (ps:List (Int × Int)) (ds:Nat->PyData) (ts:List Int):List (PyData × Int × Int):=bT ps ds ts ps.length
theorem fg {ps:List (Int × Int)} {ds:Nat->PyData} {ts:List Int} {i:Nat} {q k t:Int} (hp:ps[i]?=some (q,k)) (ht:ts[i]?=some t):bT ps ds ts (i+1)=bT ps ds ts i++(if 0<t then [(ds i,q,t)] else []):=by
 unfold bT
 rw [List.range_succ,List.filterMap_append]
 congr 1
 have:kf ps ds ts i=if 0<t then some (ds i,q,t) else none:=by unfold kf;rw [hp,ht]
 by_cases c:0<t
 ·rw [if_pos c] at this ⊢
  simp [this]
 ·rw [if_neg c] at this ⊢
  simp [this]
theorem gv {ps:List (Int × Int)} {ds:Nat->PyData} {ts:List Int} {n:Nat} {y:PyData × Int × Int} (h:y∈bT ps ds ts n):∃ i k,ps[i]?=some (y.2.1,k)/\ts[i]?=some y.2.2/\0<y.2.2/\y.1=ds i:=by
 unfold bT at h
 obtain⟨i,_,e⟩:=List.mem_filterMap.mp h
 unfold kf at e
 cases hp:ps[i]? with
 | none=>rw [hp] at e;cases e
 | some z =>
  cases ht:ts[i]? with
  | none=>rw [hp,ht] at e;cases e
  | some t =>
   rw [hp,ht] at e
   by_cases c:0<t
   ·have e':(if 0<t then some (ds i,z.1,t) else none)=some y:=e
    rw [if_pos c] at e'
    cases e'
    exact⟨i,z.2,hp,ht,c,rfl⟩
   ·have e':(if 0<t then some (ds i,z.1,t) else none)=some y:=e
    rw [if_neg c] at e'
    cases e'
theorem jY {ps:List (Int × Int)} {ds:Nat->PyData} {ts:List Int} {n:Nat}:(bT ps ds ts n).length<=n:=by
 unfold bT
 exact Nat.le_trans (List.length_filterMap_le ..) (by rw [List.length_range];exact Nat.le_refl _)
def kp (y:PyData × Int × Int):Int × Int:=(y.2.1,y.2.2)
def kD (y:PyData × Int × Int):PyData:=.tuple [y.1,.int y.2.2]
theorem iN {ps:List (Int × Int)} {ds:Nat->PyData} {ts:List Int} (hl:ts.length=ps.length) (h0:∀ t∈ts,0<=t):∀ n,n<=ps.length->Num.eN ((bT ps ds ts n).map kp)=Num.eN (((ps.map (·.1)).zip ts).take n)
 | 0,_=>rfl
 | n+1,h=>by
  have ih:=iN (ds:=ds) hl h0 n (by omega)
  have hp:ps[n]?=some (ps[n].1,ps[n].2):=List.getElem?_eq_getElem (by omega)
  have ht:ts[n]?=some ts[n]:=List.getElem?_eq_getElem (by omega)
  have hz:((ps.map (·.1)).zip ts)[n]?=some (ps[n].1,ts[n]):=by
   rw [List.getElem?_zip_eq_some]
   exact⟨by rw [List.getElem?_map,hp];rfl,ht⟩
  rw [fg hp ht,List.take_add_one,hz,List.map_append,Num.cD,ih]
  show _=Num.eN (((ps.map (·.1)).zip ts).take n++[(ps[n].1,ts[n])])
  rw [jz]
  have t0:=h0 ts[n] (List.getElem_mem _)
  by_cases c:0<ts[n]
  ·rw [if_pos c]
   show _*(ps[n].1.toNat^ts[n].toNat*1)=_
   rw [Nat.mul_one]
  ·rw [if_neg c,show ts[n].toNat=0 by omega,Nat.pow_zero]
   rfl
theorem Cy {ps:List (Int × Int)} {ds:Nat->PyData} (h:∀ i q k,ps[i]?=some (q,k)->Num.i5 q (ds i)):yd (Num.rowsOf ps ds) ps:=by
 refine⟨Num.cU,λi row hr=>?_⟩
 have hi:=(List.getElem?_eq_some_iff.mp hr).1
 rw [Num.cU] at hi
 have hg:ps[i]?=some (ps[i].1,ps[i].2):=List.getElem?_eq_getElem hi
 rw [Num.kB hg] at hr
 cases hr
 obtain⟨g,rows,e⟩:=(h i _ _ hg).head
 exact⟨_,hg,_,by rw [e]⟩
theorem zK {H:Hp} {ps:List (Int × Int)} {ds:Nat->PyData} {xs:List V} (hd:aF K H (Num.rowsOf ps ds) xs) {i:Nat} {x:V} (hx:xs[i]?=some x):∃ q k pt u,ps[i]?=some (q,k)/\x=.ref pt/\bE K H pt [u,.int k]/\dv K H (ds i) u:=by
 obtain⟨d,hd',hv⟩:=hd.get hx
 have hi:=(List.getElem?_eq_some_iff.mp hd').1
 rw [Num.cU] at hi
 have hg:=List.getElem?_eq_getElem hi
 rw [Num.kB hg] at hd'
 cases hd'
 obtain⟨pt,ys,rfl,h1,x1,r1,rfl,e1,x2,r2,rfl,e2,z⟩:=hv
 cases z
 cases e2
 exact⟨ps[i].1,ps[i].2,pt,x1,hg,rfl,h1,e1⟩
def xD (K:PySem.W.Frag):Sp:=λvs H Q _=>∃(v:V) (p a g:Int) (ps:List (Int × Int)) (ds:Nat->PyData),vs=[.int p,.int a,v]/\dv K H (.tuple (Num.rowsOf ps ds)) v/\Num.i5 p (.tuple [.int p,.int g,.tuple (Num.rowsOf ps ds)])/\Num.Part (p-1) ps/\ps.length<=29/\(∀ i q k,ps[i]?=some (q,k)->Num.i5 q (ds i))/\¬p∣a /\ -(10^60)<=a/\a<=10^60 /\
 ∀(e:Int) (ts:List Int) (u:V) (H':Hp),1<=e->e<p->Num.Ord p a e.toNat->Num.TO p a ps ts->ax H H'->dv K H' (.tuple [.int e,.tuple ((fe ps ds ts).map (j8 p a e))]) u->Q u H'
theorem gp:av ["n","a","parts","parting","times","kept","e"] ["n","a","parts"] (aj (top 17)):=dG
theorem mM {C:Addr} (D:ay K mg "order_from" (top 17)) (c_parting_in:Callee P w K mg base aO 1 "parting_in" ["parts"] (sI K)) (c_parting_inL:Callee P w K mg base aO 1 "parting_in" ["parts"] (sH K)) (c_most_times:Callee P w K mg base aO 1 "most_times" ["n","prime"] xA) (c_raised:Callee P w K mg base aO 5 "raised" ["n","a","parting"] (ir K)) (c_times_in_order:Callee P w K mg base aO 12 "times_in_order" ["n","a","parting"] (iu K 6)) (c_whole_of:Callee P w K mg base aO 1 "whole_of" ["parting"] (nq K)) (c_power:Callee P w K mg base (dO P w) 4 "power" ["n","a","e"] (eG C)) (n_min:mg "min"=none) (n_zip:mg "zip"=none) (n_tuple:mg "tuple"=none):Callee P w K mg base aO 13 "order_from" ["n","a","parts"] (xD K):=by
 refine cO D gp (λf cdv A outer s H vs Q E hr h=>?_)
 obtain⟨v,p,a,g,ps,ds,rfl,hd,hp,hP,hl29,hds,na,a0,a1,q⟩:=h
 obtain⟨pm,p9⟩:=j9 hp
 have p2:=pm.two
 have nd:=gp.nd
 refine⟨_,(ae (hZ (i0:=3) nd rfl (Or.inl rfl) rfl (nP (N':=["prime","many","n"]) (js:=[none,none,some 0]) rfl rfl) (bo (cw c_parting_in hr aC (aa (pv 2) ag))) (λ_ _ _ _=>(dD K rfl (n:=2) rfl (aw (aq (i:=0) (show List.Nodup [("prime":Str),("many":Str),("n":Str)] from by decide +kernel) rfl (Or.inl rfl) (.inr rfl)) (aw (aq (i:=1) (show List.Nodup [("prime":Str),("many":Str),("n":Str)] from by decide +kernel) rfl (Or.inl rfl) (.inr rfl)) aP)))) (λ_ _ _ _=>aS) (λ_ _ _ _=>(aG (aa (pv 0) (aa (aD (tE rfl) rfl n_min L2.boot_min (aa (pv 1) (aa (cw c_most_times hr aC (aa (pv 2) (aa (pv 0) ag))) ag))) ag)))) (by rfl) (by first | exact .inl rfl | exact .inr rfl)) (ae (bp (aA gc (cw c_raised hr aC (aa (pv 0) (aa (au aL (pv 1) (pv 0)) (aa (pv 3) ag)))) ah (aE _)) xc aK) (iD.lL (ae (bG (i:=4) nd (cw c_times_in_order hr aC (aa (pv 0) (aa (au aL (pv 1) (pv 0)) (aa (pv 3) ag))))) (ae (hZ (i0:=5) nd rfl (Or.inl rfl) rfl (nP (N':=["row","many"]) (js:=[none,none]) rfl rfl) (wU .t .l rfl n_zip (aa (pv 2) (aa (pv 4) ag))) (λ_ _ _ _=>(dD K rfl (n:=2) rfl (aw (aq (i:=0) (show List.Nodup [("row":Str),("many":Str)] from by decide +kernel) rfl (Or.inl rfl) (.inr rfl)) (aw (aq (i:=1) (show List.Nodup [("row":Str),("many":Str)] from by decide +kernel) rfl (Or.inl rfl) (.inr rfl)) aP)))) (λ_ _ _ _=>(wW (aA jf (pv 1) ah (aE _)))) (λ_ _ _ _=>(aG (aa (aB (bw K rfl) (pv 0) ah (λ_ _=>rfl)) (aa (pv 1) ag)))) (by rfl) (by first | exact .inl rfl | exact .inr rfl)) (ae (iU (i:=6) nd rfl (Or.inr rfl) (cw c_whole_of hr aC (aa (cw c_parting_inL hr aC (aa (pv 5) ag)) ag))) (ak (az (aG (aa (pv 6) (aa (bY bR rfl n_tuple L2.boot_tuple (aa (gf rfl (nP (N':=["paper","many","n","a","e"]) (js:=[none,none,some 0,some 1,some 6]) rfl rfl) (bo (pv 5)) (λ_ _ _ _=>(dD K rfl (n:=2) rfl (aw (aq (i:=0) (show List.Nodup [("paper":Str),("many":Str),("n":Str),("a":Str),("e":Str)] from by decide +kernel) rfl (Or.inl rfl) (.inr rfl)) (aw (aq (i:=1) (show List.Nodup [("paper":Str),("many":Str),("n":Str),("a":Str),("e":Str)] from by decide +kernel) rfl (Or.inl rfl) (.inr rfl)) aP)))) (λ_ _ _ _=>aS) (λ_ _ _ _=>(aG (aa (pv 0) (aa (pv 1) (aa (cw c_power hr bC (aa (pv 2) (aa (pv 3) (aa (au cp (pv 4) (aB (bw K rfl) (pv 0) ah (λ_ _=>rfl))) ag)))) ag)))))) ag)) ag))))))))))),?_⟩
 show bJ _ _ _ [some (.int p),some (.int a),some v,none,none,none,none] H
 obtain⟨pr,xs,rfl,hSr,hdr⟩:=hd
 have xl:xs.length=ps.length:=by rw [hdr.length,Num.cU]
 have eE:Num.eN ps=(p-1).toNat:=by
  have:=Num.fP ps λy z=>(hP.ok y z).1
  rw [hP.prod] at this
  omega
 have big:∀{zs:List (Int × Int)},(∀ y∈zs,2<=y.1)->Num.eN zs<=(p-1).toNat->∀{i:Nat} {q k:Int},zs[i]?=some (q,k)->q.toNat^k.toNat<=(p-1).toNat/\k<=29:=by
  intro zs h2 hz i q k hy
  have g1:=(vB h2 hy (j:=k.toNat) (Nat.le_refl _)).1
  have e0:Num.eN (zs.take i)≠0:=vC λy z=>h2 y (List.mem_of_mem_take z)
  have g2:q.toNat^k.toNat<=(p-1).toNat:=Nat.le_trans (Nat.le_mul_of_pos_left _ (Nat.pos_of_ne_zero e0)) (Nat.le_trans g1 hz)
  have q2:2<=q:=h2 _ (List.mem_of_getElem? hy)
  have g3:(2:Int)^k.toNat<=q^k.toNat:=Num.two_pow_le q2 _
  have g4:q^k.toNat=((q.toNat^k.toNat:Nat):Int):=by rw [Int.natCast_pow,show (q.toNat:Int)=q by omega]
  have g5:k.toNat<=29:=Num.two_le (by omega)
  exact⟨g2,by omega⟩
 have okP:∀ y∈ps,Num.Pm y.1/\0<=y.2/\y.2<=10^6:=λy hy=>by
  obtain⟨o1,o2,_⟩:=hP.ok y hy
  obtain⟨i,hi⟩:=List.mem_iff_getElem?.mp hy
  have:=(big (λy z=>(hP.ok y z).1.two) (Nat.le_of_eq eE) hi).2
  exact⟨o1,by omega,by omega⟩
 have pwP:ps.Pairwise (λx y=>y.1≠x.1):=hP.rise.imp λh=>by omega
 k_data
 refine⟨.ref pr,_,ps,rfl,⟨pr,xs,rfl,hSr,hdr⟩,Cy hds,by rw [Num.cU];omega,λp1 us1 H1 s1 f1 e1 d1=>?_⟩
 refine⟨p1,rfl,⟨_,aM.of e1⟩,?_⟩
 have ul:us1.length=ps.length:=by rw [d1.length,List.length_map]
 refine bA (xs:=us1) (λi zs H3=>ax H1 H3/\aF K H3 ((ps.take i).map dy) zs) ⟨ax.refl _,rfl⟩ (by rw [ul];exact Nat.le_trans hl29 (by decide)) (λi zs H3 hi ⟨z1,z2⟩=>⟨aM.of (z1 _ _ e1),by rw [z2.length,List.length_map,List.length_take];omega⟩) ?_ ?_
 ·rintro i x zs H3 hx ⟨s3,hz⟩
  obtain⟨d,hd',hv⟩:=d1.get hx
  rw [List.getElem?_map] at hd'
  obtain⟨⟨q',k'⟩,hy,rfl⟩:=Option.map_eq_some_iff.mp hd'
  obtain⟨pq,k0,k6⟩:=okP _ (List.mem_of_getElem? hy)
  replace pq:Num.Pm q':=pq
  replace k0:0<=k':=k0
  have q2:=pq.two
  obtain⟨pt,rfl,tt⟩:=iI hv
  have qb:=(big (λy z=>(okP y z).1.two) (Nat.le_of_eq eE) hy).1
  have q9:q'<=10^9:=by
   have:=(zw hP (by omega) q' (List.mem_map.mpr ⟨_,List.mem_of_getElem? hy,rfl⟩)).2
   omega
  show oa K 2 _ _ [none,none,some (.int p)] _ _
  refine⟨pt,_,rfl,tt.same s3,rfl,?_⟩
  k_data
  refine⟨⟨rfl,True.intro⟩,p,q',rfl,by omega,by omega,q2,by omega,λt ht=>⟨(t:Int),rfl,by show 2<=sizeLine;decide,λp4 hp4=>?_⟩⟩
  have em:(if (t:Int)<k' then (t:Int) else k')=k':=by
   rw [if_neg]
   intro z
   have g4:q'^(t+1)=((q'.toNat^(t+1):Nat):Int):=by rw [Int.natCast_pow,show (q'.toNat:Int)=q' by omega]
   have g5:q'.toNat^(t+1)<=q'.toNat^k'.toNat:=Nat.pow_le_pow_right (by omega) (by omega)
   omega
  rw [em]
  have s4:=ai (o:=.tup [V.int q',V.int k']) hp4
  refine⟨s3.trans s4,?_⟩
  rw [List.take_add_one,hy,List.map_append]
  exact aF.append (aF.same s4 _ hz) (.one (dv.tup af ⟨_,_,rfl,rfl,.one rfl⟩))
 ·rintro zs H3 p3 ⟨s3,hz⟩ hp3
  rw [ul,List.take_length] at hz
  have s4:=ai (o:=.lst zs) hp3
  have e4:upd H3 p3 (.lst zs) p3=some (.lst zs):=af
  generalize upd H3 p3 _=H4 at *
  have S4:=(s1.trans s3).trans s4
  have d4:=aF.same s4 _ hz
  have r0:=Int.emod_nonneg a (show p≠0 by omega)
  have r1:=Int.emod_lt_of_pos a (show 0<p by omega)
  have one:(a%p)^Num.eN ps%p=1:=by
   rw [eE]
   exact (eh p2).mpr (((Num.Al.rest p a).pow _).trans (Num.mx pm na))
  refine⟨by omega,p,a%p,p3,zs,ps,rfl,by omega,by omega,r0,r1,e4,d4,λy z=>⟨(okP y z).1.two,(okP y z).2⟩,λH5 s5=>⟨rfl,?_⟩⟩
  rw [one,if_neg (by intro z;exact z rfl)]
  refine⟨by omega,p,a%p,p3,zs,ps,rfl,⟨by decide,by show ps.length<=32;omega⟩,by omega,p2,by omega,r0,r1,s5 _ _ e4,aF.same s5 _ d4,okP,pwP,one,λp6 ts H6 hTO s6 f6 e6=>?_⟩
  have hTO':=hTO.al (Num.Al.rest p a)
  have S6:=(S4.trans s5).trans s6
  have tl:ts.length=ps.length:=hTO.len
  have eZ:Num.eN ((bT ps ds ts ps.length).map kp)=Num.eN ((ps.map (·.1)).zip ts):=by
   rw [iN tl hTO.nn _ (Nat.le_refl _),List.take_of_length_le]
   rw [List.length_zip,List.length_map]
   omega
  have oE:=hTO'.ord
  rw [<- eZ] at oE
  have eP:0<Num.eN ((bT ps ds ts ps.length).map kp)/\Num.eN ((bT ps ds ts ps.length).map kp)<=(p-1).toNat:=by
   refine⟨oE.pos,Nat.le_of_dvd (by omega) (oE.dv _ (Num.mx pm na))⟩
  k_data
  refine⟨⟨xs,hSr.same S6⟩,⟨_,aM.of e6⟩,?_⟩
  refine lj (xs:=xs) (ys:=ts.map V.int) (λi zs H7=>ax H6 H7/\aF K H7 ((bT ps ds ts i).map kD) zs) ⟨ax.refl _,rfl⟩ (by rw [List.length_map,tl,xl]) (by rw [xl];exact Nat.le_trans hl29 (by decide)) (λi zs H7 hi ⟨z1,z2⟩=>⟨hSr.same (S6.trans z1),aM.of (z1 _ _ e6),by rw [z2.length,List.length_map];exact jY⟩) ?_ ?_
  ·rintro i x y zs H7 p7 hx hy ⟨s7,hz7⟩ hp7
   obtain⟨q',k',pt,u,hpi,rfl,t1,t2⟩:=zK hdr hx
   rw [List.getElem?_map] at hy
   obtain⟨t,ht,rfl⟩:=Option.map_eq_some_iff.mp hy
   have s8:=ai (o:=.tup [V.ref pt,V.int t]) hp7
   show oa K 2 _ _ [none,none] _ _
   refine⟨p7,_,rfl,bE.of af,rfl,?_⟩
   generalize upd H7 p7 _=H8 at *
   have S8:=(S6.trans s7).trans s8
   rw [fg hpi ht]
   k_data
   refine⟨True.intro,bV (λc=>?_) (λc=>?_)⟩
   ·rw [if_pos c]
    refine br (t1.same S8) jx ⟨by show 2<=sizeLine;decide,λp9 hp9=>?_⟩
    have s9:=ai (o:=.tup [u,V.int t]) hp9
    refine⟨(s7.trans s8).trans s9,?_⟩
    rw [List.map_append]
    exact aF.append (aF.same (s8.trans s9) _ hz7) (.one (dv.tup af ⟨_,_,rfl,dv.same (S8.trans s9) _ t2,.one rfl⟩))
   ·rw [if_neg c,List.append_nil]
    exact⟨s7.trans s8,aF.same s8 _ hz7⟩
  ·rintro zs H7 p7 ⟨s7,hz7⟩ hp7
   rw [xl] at hz7
   have s8:=ai (o:=.lst zs) hp7
   have e8:upd H7 p7 (.lst zs) p7=some (.lst zs):=af
   generalize upd H7 p7 _=H8 at *
   have S8:=(S6.trans s7).trans s8
   have d8:=aF.same s8 _ hz7
   have kl:(bT ps ds ts ps.length).length<=29:=Nat.le_trans jY hl29
   have kmem:∀ y∈bT ps ds ts ps.length,Num.Pm y.2.1/\0<y.2.2/\y.2.2<=29/\Num.i5 y.2.1 y.1:=λy hy=>by
    obtain⟨i,k,h1,h2,h3,h4⟩:=gv hy
    have hz:((ps.map (·.1)).zip ts)[i]?=some (y.2.1,y.2.2):=by
     rw [List.getElem?_zip_eq_some]
     exact⟨by rw [List.getElem?_map,h1];rfl,h2⟩
    have h5:=(big (zs:=(ps.map (·.1)).zip ts) (λz hz=>by
     have:=(List.of_mem_zip (show (z.1,z.2)∈_ from hz)).1
     obtain⟨w',hw',e⟩:=List.mem_map.mp this
     rw [<- e]
     exact (okP w' hw').1.two) (by rw [<- eZ];exact eP.2) hz).2
    exact⟨(okP _ (List.mem_of_getElem? h1)).1,h3,h5,by rw [h4];exact hds i _ _ h1⟩
   obtain⟨ks,hks⟩:∃ ks,bT ps ds ts ps.length=ks:=⟨_,rfl⟩
   rw [hks] at eZ oE eP kl kmem d8
   have zl:zs.length=ks.length:=by rw [d8.length,List.length_map]
   refine⟨p7,zs,ks.map kD,ks.map kp,rfl,e8,d8,⟨by rw [List.length_map,List.length_map],λi row hr=>?_⟩,by rw [List.length_map];omega,λp9 us9 H9 s9 f9 e9 d9=>?_⟩
   ·rw [List.getElem?_map] at hr
    obtain⟨y,hy,rfl⟩:=Option.map_eq_some_iff.mp hr
    obtain⟨g',rows',e'⟩:=(kmem y (List.mem_of_getElem? hy)).2.2.2.head
    exact⟨kp y,by rw [List.getElem?_map,hy];rfl,_,by show PyData.tuple [y.1,.int y.2.2]=_;rw [e'];rfl⟩
   refine⟨p9,us9,_,rfl,e9,d9,λy hy=>?_,by omega,λH10 s10=>?_⟩
   ·obtain⟨z,hz,rfl⟩:=List.mem_map.mp hy
    obtain⟨m1,m2,m3,_⟩:=kmem z hz
    exact⟨m1.two,by show 0<=z.2.2;omega,by show z.2.2<=10^6;omega⟩
   have S10:=s9.trans s10
   refine⟨p7,rfl,⟨_,aM.of (S10 _ _ e8)⟩,?_⟩
   have eb:(1:Int)<=(Num.eN (ks.map kp):Int)/\(Num.eN (ks.map kp):Int)<p:=by omega
   have oE':Num.Ord p a ((Num.eN (ks.map kp):Int)).toNat:=by rw [Int.toNat_natCast];exact oE
   generalize (Num.eN (ks.map kp):Int)=e at *
   refine bA (xs:=zs) (λi rs H11=>ax H10 H11/\aF K H11 ((ks.take i).map (j8 p a e)) rs) ⟨ax.refl _,rfl⟩ (by rw [zl];exact Nat.le_trans kl (by decide)) (λi rs H11 hi ⟨z1,z2⟩=>⟨aM.of (z1 _ _ (S10 _ _ e8)),by rw [z2.length,List.length_map,List.length_take];omega⟩) ?_ ?_
   ·rintro i x rs H11 hx ⟨s11,hr⟩
    obtain⟨d,hd',hv⟩:=(aF.same (S10.trans s11) _ d8).get hx
    rw [List.getElem?_map] at hd'
    obtain⟨y,hy,rfl⟩:=Option.map_eq_some_iff.mp hd'
    obtain⟨m1,m2,m3,m4⟩:=kmem y (List.mem_of_getElem? hy)
    obtain⟨pt,ys,rfl,h1,x1,r1,rfl,e1',x2,r2,rfl,e2',z⟩:=hv
    cases z
    cases e2'
    have e1d:=e1'
    obtain⟨g',rows',e'⟩:=m4.head
    rw [e'] at e1'
    obtain⟨pq,zs',rfl,h2,y1,r3,rfl,f1',f2⟩:=e1'
    cases f1'
    have q2:=m1.two
    have q9:=(j9 m4).2
    show oa K 2 _ _ [none,none,some (.int p),some (.int a),some (.int e)] _ _
    refine⟨pt,_,rfl,h1,rfl,?_⟩
    k_data
    refine⟨⟨rfl,rfl,rfl,True.intro⟩,br h2 jx ⟨y.2.1,rfl,by omega,Bd.of (by omega) (by omega),p,a,e/y.2.1,rfl,by omega,by omega,λ_ H12 s12=>⟨by show 3<=sizeLine;decide,λp13 hp13=>?_⟩,λz=>absurd z (by have:=Int.ediv_nonneg (show 0<=e by omega) (show 0<=y.2.1 by omega);omega)⟩⟩
    have s13:=ai (o:=.tup [V.ref pq,V.int y.2.2,V.int (a^(e/y.2.1).toNat%p)]) hp13
    refine⟨(s11.trans s12).trans s13,?_⟩
    rw [List.take_add_one,hy,List.map_append]
    exact aF.append (aF.same (s12.trans s13) _ hr) (.one (dv.tup af ⟨_,_,rfl,dv.same (s12.trans s13) _ e1d,_,_,rfl,rfl,.one rfl⟩))
   ·rintro rs H11 p11 ⟨s11,hr⟩ hp11
    rw [zl,List.take_length] at hr
    have s12:=ai (o:=.lst rs) hp11
    refine⟨p11,rfl,rs,.inl ⟨aM.of af,λl hl'=>⟨by show 2<=sizeLine;decide,λp13 hp13=>?_⟩⟩⟩
    generalize upd H11 p11 _=H12 at *
    have s13:=ai (o:=.tup rs) hl'
    have e13:upd H12 l (.tup rs) l=some (.tup rs):=af
    generalize upd H12 l _=H13 at *
    have s14:=ai (o:=.tup [V.int e,V.ref l]) hp13
    have ek:fe ps ds ts=ks:=hks
    refine q e ts _ _ eb.1 eb.2 oE' hTO' (((((S8.trans S10).trans s11).trans s12).trans s13).trans s14) ?_
    rw [ek]
    exact dv.tup af ⟨_,_,rfl,rfl,.one (dv.tup (s14 _ _ e13) (aF.same ((s12.trans s13).trans s14) _ hr))⟩
def uX (p a:Int) (rows:PyData) (r:PyData):Prop:=∃(e:Int) (ps:List (Int × Int)) (ds:Nat->PyData) (ts:List Int),rows=.tuple (Num.rowsOf ps ds)/\Num.Part (p-1) ps/\ps.length<=29/\(∀ i q k,ps[i]?=some (q,k)->Num.i5 q (ds i))/\1<=e/\e<p/\Num.Ord p a e.toNat/\Num.TO p a ps ts/\r=.tuple [.int e,.tuple ((fe ps ds ts).map (j8 p a e))]
def sF (K:PySem.W.Frag) (C:Addr):Sp:=λvs H Q E=>∃(v:V) (p a g:Int) (rows:PyData),vs=[v,.int a]/\dv K H (.tuple [.int p,.int g,rows]) v/\Num.i5 p (.tuple [.int p,.int g,rows]) /\ -(10^60)<=a/\a<=10^60/\(p∣a->AS C H E) /\
 (¬p∣a->∀ r u H',uX p a rows r->ax H H'->dv K H' r u->Q u H')
theorem pK:av ["paper","a","p","full","parts"] ["paper","a"] (aj (top 22)):=dG
theorem wk {C:Addr} (D:ay K mg "order" (top 22)) (c_order_from:Callee P w K mg base aO 13 "order_from" ["n","a","parts"] (xD K)) (x_Nought:uY K mg "Nought" C):Callee P w K mg base (dO P w) 14 "order" ["paper","a"] (sF K C):=by
 refine cX D pK (λf cdv A outer s H vs Q E hr h=>?_)
 obtain⟨v,p,a,g,rows,rfl,hd,hp,a0,a1,q1,q2⟩:=h
 obtain⟨pm,p9⟩:=j9 hp
 have p2:=pm.two
 have nd:=pK.nd
 refine⟨_,(ae (fv (pv 0) (cz (n:=3) rfl (aw (aq (i:=2) nd rfl (Or.inl rfl) (.inr rfl)) (aw (aq (i:=3) nd rfl (Or.inl rfl) (.inr rfl)) (aw (aq (i:=4) nd rfl (Or.inl rfl) (.inr rfl)) aP))))) (ae (bp (aA fq (au aL (pv 1) (pv 2)) ah (aE _)) (ak (hJ (wO x_Nought rfl))) aK) (iD.lL (ak (az (cw c_order_from hr aC (aa (pv 2) (aa (pv 1) (aa (pv 4) ag))))))))),?_⟩
 show bJ _ _ _ [some v,some (.int a),none,none,none] H
 obtain⟨g',ps,ds,eq,hg,hP,hl29,hds⟩:=r8 hp
 cases eq
 obtain⟨pp,y1,y2,vr,rfl,tS,e0,eg,dr⟩:=yx hd
 cases e0
 cases eg
 k_data
 refine⟨pp,_,rfl,tS,rfl,?_⟩
 k_data
 refine⟨by omega,bV (λc=>?_) (λc=>?_)⟩
 ·exact λx hx=>lu x_Nought.cls (ax.refl _) hx (q1 (Int.dvd_of_emod_eq_zero c))
 ·have na:¬p∣a:=λz=>c (Int.emod_eq_zero_of_dvd z)
  exact⟨vr,p,a,g,ps,ds,rfl,dr,hp,hP,hl29,hds,na,a0,a1,λe ts u H' e1 e2 o t s' hu=>q2 na _ u H' ⟨e,ps,ds,ts,rfl,hP,hl29,hds,e1,e2,o,t,rfl⟩ s' hu⟩
def PW (p a k y:Int):Prop:=∃ b:Int,(0<=k/\b=a∨k<0/\p∣b*a-1)/\y=b^k.natAbs%p
theorem fO {H:Hp} {m n:Int} {v:V} (h:dv K H (dy (m,n)) v):∃ q,v=.ref q/\bE K H q [.int m,.int n]:=by
 obtain⟨q,xs,e,h1,h2⟩:=h
 obtain⟨x,r,e1,d1,h3⟩:=h2
 obtain⟨y,r',e2,d2,h4⟩:=h3
 cases h4
 cases d1
 cases d2
 subst e1
 subst e2
 exact⟨q,e,h1⟩
theorem Ck {a b g u v:Int} (ha:0<a) (z:Gcd.Cf a b g u v):Crt.G a b g:=by
 refine⟨?_,z.da,z.db,⟨u,v,z.lin⟩⟩
 have:=z.g0
 rcases (by omega:g=0∨0<g) with e | e
 ·have h:=z.da
  rw [e] at h
  have:=Int.zero_dvd.mp h
  omega
 ·exact e
theorem yU {g x:Int}:(!decide (x%g=0))=decide (¬g∣x):=by
 by_cases h:g∣x
 ·rw [Int.emod_eq_zero_of_dvd h];simp [h]
 ·have:¬x%g=0:=λz=>h (Int.dvd_of_emod_eq_zero z)
  simp [h,this]
theorem D2 {a d L:Int} (hd:0<d) (h0:-L<=a) (h1:a<=L):-L<=a/d/\a/d<=L:=by
 have L0:0<=L:=by omega
 have h2:L*1<=L*d:=Int.mul_le_mul_of_nonneg_left (show 1<=d by omega) L0
 refine⟨Int.le_ediv_of_mul_le hd (by rw [Int.neg_mul];omega),Int.ediv_le_of_le_mul hd (by omega)⟩
theorem Cj {M m g:Int} (hm:0<m) (G:Crt.G M m g):0<m/g/\m/g<=m/\Gd (m/g) (M/g) 1:=by
 have g0:=G.pos
 obtain⟨A,hA⟩:=G.da
 obtain⟨L,hL⟩:=G.db
 have e1:m/g=L:=by rw [hL];exact Int.mul_ediv_cancel_left _ (by omega)
 have e2:M/g=A:=by rw [hA];exact Int.mul_ediv_cancel_left _ (by omega)
 obtain⟨u,v,e⟩:=G.lin
 have e4:u*A+v*L=1:=Int.eq_of_mul_eq_mul_left (show g≠0 by omega) (Crt.a1 (by rw [hA,hL] at e;exact e))
 rw [e1,e2]
 have L0:0<L:=by
  rcases (by omega:L<=0∨0<L) with z | z
  ·have:=Int.mul_nonpos_of_nonneg_of_nonpos (Int.le_of_lt g0) z
   omega
  ·exact z
 refine⟨L0,?_,by decide,Int.one_dvd _,Int.one_dvd _,λd h1 h2=>?_⟩
 ·rw [hL]
  have:=Int.mul_le_mul_of_nonneg_right (show 1<=g by omega) (Int.le_of_lt L0)
  omega
 ·rw [<- e4]
  exact Int.dvd_add (Int.dvd_mul_of_dvd_right h2) (Int.dvd_mul_of_dvd_right h1)
def su (K:PySem.W.Frag):Sp:=λvs H Q _=>∃(v1 v2:V) (m n m' n':Int),vs=[v1,v2]/\dv K H (dy (m,n)) v1/\dv K H (dy (m',n')) v2/\0<m/\m<=10^20/\0<m'/\m'<=10^20/\∀ g H',Crt.G m m' g->ax H H'->Q (.bl (decide (¬g∣n-n'))) H'
theorem ig:av ["one","other"] ["one","other"] (aj (top 29)):=dG
theorem wc (D:ay K mg "are_apart" (top 29)) (c_divisor:Callee P w K mg base aO 1 "divisor" ["a","b"] fV):Callee P w K mg base aO 2 "are_apart" ["one","other"] (su K):=by
 refine cO D ig (λf cdv A outer s H vs Q E hr h=>?_)
 obtain⟨v1,v2,m,n,m',n',rfl,h1,h2,hm,hm1,hm',hm1',q⟩:=h
 obtain⟨q1,rfl,t1⟩:=fO h1
 obtain⟨q2,rfl,t2⟩:=fO h2
 have nd:=ig.nd
 refine⟨_,(ak (az (dB gc (au aL (au c6 (aB aV (pv 0) ah (λ_ _=>rfl)) (aB aV (pv 1) ah (λ_ _=>rfl))) (aB aV (cw c_divisor hr aC (aa (aB aV (pv 0) ah (λ_ _=>rfl)) (aa (aB aV (pv 1) ah (λ_ _=>rfl)) ag))) ah (λ_ _=>rfl))) ah (aE _)))),?_⟩
 show pX _ _ [some (.ref q1),some (.ref q2)] H
 k_data
 refine br t1 rfl (br t2 rfl ⟨n,rfl,n',rfl,br t1 rfl (br t2 rfl ?_)⟩)
 refine⟨m,m',rfl,⟨by omega,by omega⟩,⟨by omega,by omega⟩,λg u v p H1 z s1 e1=>?_⟩
 have G:=Ck hm z
 refine br (bE.of e1) rfl ⟨g,rfl,G.pos,?_⟩
 rw [yU]
 exact q g H1 G s1
def xx (K:PySem.W.Frag):Sp:=λvs H Q _=>∃(v1 v2:V) (M N m n:Int),vs=[v1,v2]/\dv K H (dy (M,N)) v1/\dv K H (dy (m,n)) v2/\0<M/\M<=10^220/\0<=N/\N<M/\0<m/\m<=10^20 /\ -(10^80)<=n/\n<=10^80/\(∀ g,Crt.G M m g->g∣n-N) /\
 ∀ p W x H',Crt.AQ M N m n W x->W<=M*m->ax H H'->H p=none->H' p=some (.tup [.int W,.int x])->Q (.ref p) H'
theorem d5:av ["one","other","modulus","number","other_modulus","other_number","g","left","times","whole"] ["one","other"] (aj (top 30)):=dG
theorem yY {C:Addr} (D:ay K mg "both_together" (top 30)) (c_divisor:Callee P w K mg base aO 1 "divisor" ["a","b"] fV) (c_inverse:Callee P w K mg base (dO P w) 3 "inverse" ["n","a"] (fW C)):Callee P w K mg base aO 4 "both_together" ["one","other"] (xx K):=by
 refine cO D d5 (λf cdv A outer s H vs Q E hr h=>?_)
 obtain⟨v1,v2,M,N,m,n,rfl,h1,h2,hM,hM1,hN,hN1,hm,hm1,hn,hn1,hd,q⟩:=h
 obtain⟨q1,rfl,t1⟩:=fO h1
 obtain⟨q2,rfl,t2⟩:=fO h2
 have nd:=d5.nd
 refine⟨_,(ae (fv (pv 0) (cz (n:=2) rfl (aw (aq (i:=2) nd rfl (Or.inl rfl) (.inr rfl)) (aw (aq (i:=3) nd rfl (Or.inl rfl) (.inr rfl)) aP)))) (ae (fv (pv 1) (cz (n:=2) rfl (aw (aq (i:=4) nd rfl (Or.inl rfl) (.inr rfl)) (aw (aq (i:=5) nd rfl (Or.inl rfl) (.inr rfl)) aP)))) (ae (bG (i:=6) nd (aB aV (cw c_divisor hr aC (aa (pv 2) (aa (pv 4) ag))) ah (λ_ _=>rfl))) (ae (bG (i:=7) nd (au cp (pv 4) (pv 6))) (ae (bG (i:=8) nd (au aL (au aI (au cp (au c6 (pv 5) (pv 3)) (pv 6)) (cw c_inverse hr bC (aa (pv 7) (aa (au cp (pv 2) (pv 6)) ag)))) (pv 7))) (ae (bG (i:=9) nd (au aI (pv 2) (pv 7))) (ak (az (aG (aa (pv 9) (aa (au aL (au b7 (pv 3) (au aI (pv 2) (pv 8))) (pv 9)) ag))))))))))),?_⟩
 show bJ _ _ _ [some (.ref q1),some (.ref q2),none,none,none,none,none,none,none,none] H
 k_data
 refine⟨q1,_,rfl,t1,rfl,?_⟩
 k_data
 refine⟨q2,_,rfl,t2,rfl,?_⟩
 k_data
 refine⟨M,m,rfl,⟨by omega,by omega⟩,⟨by omega,by omega⟩,λg u v p H1 z s1 e1=>?_⟩
 have G:=Ck hM z
 have g0:=G.pos
 have gm:g<=m:=Int.le_of_dvd hm G.db
 refine br (bE.of e1) rfl ?_
 k_data
 obtain⟨L0,L1,GD⟩:=Cj hm G
 have qb:=D2 (a:=n-N) (d:=g) (L:=10^221) g0 (by omega) (by omega)
 have bg:Bd g:=Bd.of (by omega) (by omega)
 refine⟨g0,bg,g0,bg,g0,bg,m/g,M/g,rfl,L0,by omega,λg' G'=>⟨λ_ r H2 r0 r1 r2 s2=>?_,λz=>absurd z (by have:=GD.one G';omega)⟩⟩
 have B:=Crt.both (N:=N) (n:=n) (r:=r) hM hm G (hd g G) r2
 have W1:M*(m/g)<=M*m:=Int.mul_le_mul_of_nonneg_left L1 (Int.le_of_lt hM)
 have t0:=Int.emod_nonneg ((n-N)/g*r) (show m/g≠0 by omega)
 have t1':=Int.emod_lt_of_pos ((n-N)/g*r) L0
 refine⟨r,rfl,Bd.of (by omega) (by omega),Bd.of (by omega) (by omega),L0,Bd.of (by omega) (by omega),Bd.of (by omega) (by omega),Bd.of (by omega) (by omega),Bd.of (by omega) (by omega),B.pos,by show 2<=sizeLine;decide,λp3 hp3=>?_⟩
 exact q p3 _ _ _ B W1 ((s1.trans s2).B1 hp3) ((s1.trans s2).free hp3) af
def Ap (pls:List (Int × Int)) (i j:Nat):Prop:=∃ p q g,pls[i]?=some p/\pls[j]?=some q/\Crt.G p.1 q.1 g/\¬g∣p.2-q.2
def yX (p:Int × Int):Prop:=0<p.1/\p.1<=10^18 /\ -(10^80)<=p.2/\p.2<=10^80
def sA (K:PySem.W.Frag):Sp:=λvs H Q _=>∃(a:Addr) (us:List V) (pls:List (Int × Int)),vs=[.ref a]/\aM K H a us/\aF K H (pls.map dy) us/\(∀ p∈pls,yX p)/\pls.length<=20 /\
 (∀ i j p H',i<j->Ap pls i j->(∀ i' j',i'<j'->(i'<i∨(i'=i/\j'<j))->¬Ap pls i' j')->ax H H'->H p=none->H' p=some (.tup [.int (i:Nat),.int (j:Nat)])->Q (.ref p) H') /\
 (∀ H',(∀ i j,i<j->¬Ap pls i j)->ax H H'->Q .non H')
theorem fI:av ["places","i","one","j","other"] ["places"] (aj (top 28)):=dG
theorem wd (D:ay K mg "first_apart" (top 28)) (c_are_apart:Callee P w K mg base aO 2 "are_apart" ["one","other"] (su K)) (n_enumerate:mg "enumerate"=none):Callee P w K mg base aO 3 "first_apart" ["places"] (sA K):=by
 refine cO D fI (λf cdv A outer s H vs Q E hr h=>?_)
 obtain⟨a,us,pls,rfl,hS,hd,hok,hlen,q1,q2⟩:=h
 have nd:=fI.nd
 refine⟨_,(ae (bD PassesOwn.never rfl (mQ rfl n_enumerate (aa (pv 0) ag)) (cz (n:=2) rfl (aw (aq (i:=1) nd rfl (Or.inl rfl) (.inr rfl)) (aw (aq (i:=2) nd rfl (Or.inl rfl) (.inr rfl)) aP))) (ak (bD PassesOwn.never rfl (mQ rfl n_enumerate (aa (pv 0) ag)) (cz (n:=2) rfl (aw (aq (i:=3) nd rfl (Or.inl rfl) (.inr rfl)) (aw (aq (i:=4) nd rfl (Or.inl rfl) (.inr rfl)) aP))) (ak (bp (PW.pt (rm (aA gb (pv 1) (pv 3) (aE _)) (mU (b9 (cw c_are_apart hr aC (aa (pv 2) (aa (pv 4) ag))) (λ_=>rfl))))) (ak (az (aG (aa (pv 1) (aa (pv 3) ag))))) aK))))) (ak (az dQ))),?_⟩
 show bJ _ _ _ [some (.ref a),none,none,none,none] H
 k_data
 have hul:us.length=pls.length:=by rw [hd.length,List.length_map]
 have at_:∀{k:Nat} {x:V},us[k]?=some x->∃ p,pls[k]?=some p/\yX p/\dv K H (dy p) x:=by
  intro k x hx
  obtain⟨d,e,hv⟩:=hd.get hx
  rw [List.getElem?_map] at e
  obtain⟨p,e1,e2⟩:=Option.map_eq_some_iff.mp e
  subst e2
  exact⟨p,e1,hok p (List.mem_of_getElem? e1),hv⟩
 refine⟨⟨_,hS⟩,?_⟩
 refine iQ (xs:=us) (λi σ' H'=>(∃ o1 o2 o3 o4:Option V,σ'=[some (.ref a),o1,o2,o3,o4])/\ax H H'/\∀ i' j',i'<j'->i'<i->¬Ap pls i' j') ⟨⟨_,_,_,_,rfl⟩,ax.refl _,λ_ _ _ z=>absurd z (by omega)⟩ (λi σ' H' _ h=>hS.same h.2.1) ?_ ?_
 ·rintro i x σ' H' p hx ⟨⟨o1,o2,o3,o4,rfl⟩,hs,hno⟩ hp
  have s1:=hs.trans (ai (o:=.tup [.int i,x]) hp)
  refine⟨p,_,rfl,bE.of af,rfl,?_⟩
  generalize upd H' p _=H1 at *
  k_data
  refine⟨⟨_,hS.same s1⟩,?_⟩
  refine iQ (xs:=us) (λj σ' H2=>(∃ o3 o4:Option V,σ'=[some (.ref a),some (.int (i:Int)),some x,o3,o4])/\ax H H2/\∀ j',j'<j->i<j'->¬Ap pls i j') ⟨⟨_,_,rfl⟩,s1,λ_ z=>absurd z (by omega)⟩ (λj σ' H2 _ h=>hS.same h.2.1) ?_ ?_
  ·rintro j y σ' H2 p2 hy ⟨⟨o3,o4,rfl⟩,hs2,hno2⟩ hp2
   have s3:=hs2.trans (ai (o:=.tup [.int j,y]) hp2)
   refine⟨p2,_,rfl,bE.of af,rfl,?_⟩
   generalize upd H2 p2 _=H3 at *
   k_data
   refine bV (λc=>?_) (λc=>?_)
   ·obtain⟨pi,ei,oi,di⟩:=at_ hx
    obtain⟨pj,ej,oj,dj⟩:=at_ hy
    refine⟨x,y,pi.1,pi.2,pj.1,pj.2,rfl,dv.same s3 _ di,dv.same s3 _ dj,oi.1,Int.le_trans oi.2.1 (by decide),oj.1,Int.le_trans oj.2.1 (by decide),λg H4 G s4=>⟨_,dI.mpr rfl,?_⟩⟩
    by_cases dvd:g∣pi.2-pj.2
    ·rw [if_neg (by simp [dvd])]
     refine⟨s3.trans s4,λj' z1 z2=>?_⟩
     rcases (by omega:j'<j∨j'=j) with z | z
     ·exact hno2 j' z z2
     ·subst z
      rintro⟨p',q',g',e1,e2,e3,e4⟩
      rw [ei] at e1;cases e1
      rw [ej] at e2;cases e2
      obtain rfl:=G.one e3
      exact e4 dvd
    ·rw [if_pos (by simp [dvd])]
     refine⟨by show 2<=sizeLine;decide,λp3 hp3=>?_⟩
     refine q1 i j p3 _ (by omega) ⟨pi,pj,g,ei,ej,G,dvd⟩ (λi' j' z1 z2=>?_) ((s3.trans s4).B1 hp3) ((s3.trans s4).free hp3) af
     rcases z2 with z2 | ⟨z2,z3⟩
     ·exact hno i' j' z1 z2
     ·subst z2
      exact hno2 j' z3 z1
   ·refine⟨s3,λj' z1 z2=>?_⟩
    rcases (by omega:j'<j∨j'=j) with z | z
    ·exact hno2 j' z z2
    ·omega
  ·rintro σ' H2 ⟨⟨o3,o4,rfl⟩,hs2,hno2⟩
   refine⟨⟨_,_,_,_,rfl⟩,hs2,λi' j' z1 z2=>?_⟩
   rcases (by omega:i'<i∨i'=i) with z | z
   ·exact hno i' j' z1 z
   ·subst z
    by_cases z3:j'<us.length
    ·exact hno2 j' z3 z1
    ·rintro⟨p',q',g',e1,e2,e3,e4⟩
     have:=(List.getElem?_eq_some_iff.mp e2).1
     omega
 ·rintro σ' H' ⟨⟨o1,o2,o3,o4,rfl⟩,hs,hno⟩
  k_data
  refine q2 H' (λi j z=>?_) hs
  by_cases z3:i<us.length
  ·exact hno i j z z3
  ·rintro⟨p',q',g',e1,e2,e3,e4⟩
   have:=(List.getElem?_eq_some_iff.mp e1).1
   omega
def xE (K:PySem.W.Frag):Sp:=λvs H Q _=>∃(a:Addr) (us:List V) (pls:List (Int × Int)),vs=[.ref a]/\aM K H a us/\aF K H (pls.map dy) us/\(∀ p∈pls,yX p)/\pls.length<=12 /\
 (∀ i j p H',i<j->Ap pls i j->(∀ i' j',i'<j'->(i'<i∨(i'=i/\j'<j))->¬Ap pls i' j')->ax H H'->H p=none->H' p=some (.tup [.str "apart",.int (i:Nat),.int (j:Nat)])->Q (.ref p) H') /\
 (∀ W x p H',(∀ i j,i<j->¬Ap pls i j)->Crt.Told pls W x->W<=10^220->ax H H'->H p=none->H' p=some (.tup [.int W,.int x])->Q (.ref p) H')
theorem eQ:av ["places","apart","told","place"] ["places"] (aj (top 27)):=dG
theorem BB (D:ay K mg "put_together" (top 27)) (c_first_apart:Callee P w K mg base aO 3 "first_apart" ["places"] (sA K)) (c_both_together:Callee P w K mg base aO 4 "both_together" ["one","other"] (xx K)):Callee P w K mg base aO 5 "put_together" ["places"] (xE K):=by
 refine cO D eQ (λf cdv A outer s H vs Q E hr h=>?_)
 obtain⟨a,us,pls,rfl,hS,hd,hok,hlen,q1,q2⟩:=h
 have nd:=eQ.nd
 refine⟨_,(ae (bG (i:=1) nd (cw c_first_apart hr aC (aa (pv 0) ag))) (ae (bp (aA zk (pv 1) dQ (aE _)) (ak (az (aG (aa bI (aa (aB aV (pv 1) ah (λ_ _=>rfl)) (aa (aB aV (pv 1) ah (λ_ _=>rfl)) ag)))))) aK) (ae (bG (i:=2) nd (aG (aa ah (aa ah ag)))) (ae (bD PassesOwn.never rfl (bo (pv 0)) (aq (i:=3) nd rfl (Or.inl rfl) (.inr rfl)) (ak (bG (i:=2) nd (cw c_both_together hr aC (aa (pv 2) (aa (pv 3) ag)))))) (ak (az (pv 2))))))),?_⟩
 show bJ _ _ _ [some (.ref a),none,none,none] H
 k_data
 have hul:us.length=pls.length:=by rw [hd.length,List.length_map]
 refine⟨a,us,pls,rfl,hS,hd,hok,by omega,λi j p H1 ij ap no s1 f1 e1=>?_,λH1 no s1=>?_⟩
 ·show ite _ _ _
  rw [if_pos (by intro z;cases z)]
  refine br (bE.of e1) rfl (br (bE.of e1) rfl ⟨by show 3<=sizeLine;decide,λp2 hp2=>?_⟩)
  exact q1 i j p2 _ ij ap no (s1.B1 hp2) (s1.free hp2) af
 show ite _ _ _
 rw [if_neg (by simp)]
 refine⟨by show 2<=sizeLine;decide,λp hp=>?_⟩
 have s2:=s1.trans (ai (o:=.tup [V.int 1,V.int 0]) hp)
 refine⟨⟨_,hS.same s2⟩,?_⟩
 have pw:∀ i:Nat,i<=12->(10:Int)^(18*i)<=10^216:=by decide
 refine df (xs:=us) (λi σ' H'=>∃(r:Addr) (M N:Int) (o3:Option V),σ'=[some (.ref a),some .non,some (.ref r),o3]/\ax H H'/\H r=none/\H' r=some (.tup [.int M,.int N])/\Crt.Told (pls.take i) M N/\M<=10^(18*i))
  ⟨p,1,0,none,rfl,s2,s1.free hp,af,by rw [List.take_zero];exact .nil,by decide⟩ (λi σ' H' _ h=>by obtain⟨_,_,_,_,_,s,_⟩:=h;exact hS.same s) ?_ ?_
 ·rintro i x σ' H' hx ⟨r,M,N,o3,rfl,hs,hr',er,T,hM⟩
  obtain⟨d,ed,hv⟩:=hd.get hx
  rw [List.getElem?_map] at ed
  obtain⟨pl,e1,e2⟩:=Option.map_eq_some_iff.mp ed
  subst e2
  have ok:=hok pl (List.mem_of_getElem? e1)
  have il:i<pls.length:=(List.getElem?_eq_some_iff.mp e1).1
  have p1:=pw i (by omega)
  have p2:(10:Int)^(18*(i+1))=10^(18*i)*10^18:=by rw [Nat.mul_add,Pw.pow_add]
  have o2:=ok.2.1
  have o3':=ok.2.2
  k_data
  refine⟨.ref r,x,M,N,pl.1,pl.2,rfl,dv.tup (ds:=[.int M,.int N]) er ⟨_,_,rfl,rfl,.one rfl⟩,dv.same hs _ hv,T.pos,by omega,T.x0,T.x1,ok.1,by omega,o3'.1,o3'.2,λg G=>?_,λp3 W y H3 B hW s3 f3 e3=>?_⟩
  ·have fit:∀ p'∈pls.take i,∀ d,Crt.G p'.1 pl.1 d->d∣p'.2-pl.2:=by
    intro p' hp' d hd'
    obtain⟨i',e'⟩:=List.mem_iff_getElem?.mp hp'
    have hi':=(List.getElem?_eq_some_iff.mp e').1
    rw [List.length_take] at hi'
    rw [List.getElem?_take_of_lt (by omega)] at e'
    have na:=no i' i (by omega)
    by_cases z:d∣p'.2-pl.2
    ·exact z
    ·exact absurd ⟨p',pl,d,e',e1,hd',z⟩ na
   exact T.fits G fit λp' hp'=>Crt.uT (hok p' (List.mem_of_mem_take hp')).1 ok.1
  ·have tk:pls.take (i+1)=pls.take i++[pl]:=by rw [List.take_add_one,e1];rfl
   refine⟨p3,rfl,hs.trans s3,hs.free f3,W,y,e3,?_,?_⟩
   ·rw [tk];exact T.step B
   ·rw [p2]
    exact Int.le_trans hW (Int.mul_le_mul hM o2 (Int.le_of_lt ok.1) (by have:=T.pos;omega))
 ·rintro σ' H' ⟨r,M,N,o3,rfl,hs,hr',er,T,hM⟩
  k_data
  rw [hul,List.take_length] at T
  rw [hul] at hM
  have p1:=pw pls.length hlen
  exact q2 M N r H' no T (by omega) hs hr' er
def kH:Sp:=λvs H Q _=>∃ a b:Int,vs=[.int a,.int b]/\0<a/\0<=b/\∀ g,Gd a b g->Q (.int g) H
theorem fD:av ["_law_one","_law_other"] ["_law_one","_law_other"] (aj (top 50)):=dG
theorem uh (D:ay K mg "_law_common" (top 50)):Callee P w K mg base aO 1 "_law_common" ["_law_one","_law_other"] kH:=by
 refine cO D fD (λf cdv A outer s H vs Q E hr h=>?_)
 obtain⟨a,b,rfl,ha,hb,q⟩:=h
 have nd:=fD.nd
 refine⟨_,(ae (bO PassesOwn.never (aA gc (pv 1) ah (aE _)) (ak (mT (i:=0) (j:=1) rfl nd rfl rfl (by decide) rfl rfl (aa (pv 1) (aa (au aL (pv 0) (pv 1)) ag)) rfl))) (ak (az (pv 0)))),?_⟩
 show bJ _ _ _ [some (.int a),some (.int b)] H
 k_data
 refine bQ (α:=Int × Int) (λx=>[some (.int x.1),some (.int x.2)]) (λx H'=>H'=H/\0<x.1/\0<=x.2/\∀ d:Int,(d∣x.1/\d∣x.2)↔(d∣a/\d∣b)) (λx=>x.2.toNat) (a,b) rfl ⟨rfl,ha,hb,λ_=>Iff.rfl⟩ ?_
 rintro⟨x,y⟩ H1 ⟨rfl,hx,hy,hd⟩
 k_data
 refine bV (λc=>?_) (λc=>?_)
 ·have hy':0<y:=by have:0<=y:=hy;omega
  refine⟨_,λ_ _ z=>z,hy',(y,x%y),rfl,rfl,hy',Int.emod_nonneg _ (by omega),λd=>?_,?_⟩
  ·rw [<- hd d]
   constructor
   ·rintro⟨h1,h2⟩
    exact⟨(gO h1).mp h2,h1⟩
   ·rintro⟨h1,h2⟩
    exact⟨h2,(gO h2).mpr h1⟩
  ·have:=Int.emod_lt_of_pos x hy'
   show (x%y).toNat<y.toNat
   omega
 ·have c':y=0:=by omega
  subst c'
  refine q x ⟨hx,((hd x).mp ⟨Int.dvd_refl x,Int.dvd_zero x⟩).1,((hd x).mp ⟨Int.dvd_refl x,Int.dvd_zero x⟩).2,λd h1 h2=>((hd d).mpr ⟨h1,h2⟩).1⟩
end
end K
namespace K
open PySem PySem.Spec PyProof.Rows L2
section
variable {P:Program} {w:World} {K:PySem.W.Frag} {mg:Str->Option Value} {base:Heap} {C:Addr}
theorem ue {H:Hp} {a:Addr} {kvs:List (Key × V)} {Q:VK} (h:H a=some (.dK kvs)) (q:Q (.int kvs.length) H):xj [.ref a] H Q:=⟨a,_,rfl,.inr ⟨_,h,rfl⟩,q⟩
theorem DY {H:Hp} {a:Addr} {kvs:List (List Key × V)} {Q:VK} (h:H a=some (.dT kvs)) (q:Q (.int kvs.length) H):xj [.ref a] H Q:=⟨a,_,rfl,.inl ⟨_,h,rfl⟩,q⟩
def sL:Sp:=λvs H Q _=>∃ p q w:Int,vs=[.int p,.int q,.int w]/\2<=p/\p<=10^60/\1<=q/\q<=10^6/\0<=w/\w<p/\Num.Ord p w q.toNat/\∀ t H',ax H H'->H t=none->H' t=some (.dK (c7 p w (rt q.toNat)))->Q (.ref t) H'
theorem fJ:av ["p","q","w","table","rest"] ["p","q","w"] (aj (top 25)):=dG
theorem wy (D:ay K mg "small_steps" (top 25)) (n_len:mg "len"=none):Callee P w K mg base aO 1 "small_steps" ["p","q","w"] sL:=by
 refine cO D fJ (λf cdv A outer s H vs Q E hr h=>?_)
 obtain⟨p,q',w',rfl,p2,p9,q1,q6,w0,w1,o,q⟩:=h
 have nd:=fJ.nd
 refine⟨_,(ae (bG (i:=3) nd oV) (ae (bG (i:=4) nd ah) (ae (bO PassesOwn.never (aA gb (au aI (aD cM rfl n_len PySem.boot_len (aa (pv 3) ag)) (aD cM rfl n_len PySem.boot_len (aa (pv 3) ag))) (pv 1) (aE _)) (ae (gZ (dh hr) (pv 3) (pv 4) (aD cM rfl n_len PySem.boot_len (aa (pv 3) ag)) rfl) (ak (bG (i:=4) nd (au aL (au aI (pv 4) (pv 2)) (pv 0)))))) (ak (az (pv 3)))))),?_⟩
 show bJ _ _ _ [some (.int p),some (.int q'),some (.int w'),none,none] H
 k_data
 intro t ht
 refine bQ (α:=Nat) (λi=>[some (.int p),some (.int q'),some (.int w'),some (.ref t),some (.int (w'^i%p))]) (λi H1=>H1=upd H t (.dK (c7 p w' i))/\∀ j,j<i->j*j<q'.toNat) (λi=>q'.toNat+1-i) 0 ?_ ⟨rfl,λj z=>absurd z (Nat.not_lt_zero _)⟩ ?_
 ·rw [Int.pow_zero,Int.emod_eq_of_lt (by decide) (by omega)]
 rintro i H1 ⟨rfl,hi⟩
 have e1:upd H t (.dK (c7 p w' i)) t=some (.dK (c7 p w' i)):=af
 k_data
 refine ue e1 (ue e1 ⟨_,rfl,_,rfl,?_⟩)
 rw [eJ]
 have q0:0<q'.toNat:=by omega
 have ii:i<=1001:=by
  rcases Nat.lt_or_ge 1001 i with z | z
  ·have:=hi 1001 z;omega
  ·exact z
 refine⟨Bd.of (by omega) (by omega),Bd.of (by omega) (by omega),bV (λc=>?_) (λc=>?_)⟩
 ·have c':i*i<q'.toNat:=by
   have:((i*i:Nat):Int)<q':=by rw [Int.natCast_mul];exact c
   omega
  have iq:i<q'.toNat:=by
   rcases Nat.eq_zero_or_pos i with z | z
   ·omega
   ·have:=Nat.le_mul_of_pos_left i z;omega
  have r0:=Int.emod_nonneg (w'^i) (show p≠0 by omega)
  have r1:=Int.emod_lt_of_pos (w'^i) (show 0<p by omega)
  have hv:bM (c7 p w' i) (Sum.inl (w'^i%p))=none:=iw λj hj e=>by
   have:=o.h7 (by omega) iq e
   omega
  refine⟨_,λ_ _ z=>z,ue e1 ⟨_,kK.k (k:=Sum.inl (w'^i%p)) e1 (by rw [eJ];exact Nat.lt_of_le_of_lt ii (by decide)),Bd.of (by omega) (by omega),Bd.of (by omega) (by omega),by omega,i+1,?_,?_,λj hj=>?_,by omega⟩⟩
  ·rw [Int.pow_succ,Int.mul_emod,Int.emod_emod,<- Int.mul_emod]
  ·rw [oZ _ hv,z0,eJ,iy]
  ·rcases (by omega:j<i∨j=i) with z | z
   ·exact hi j z
   ·rw [z];exact c'
 ·have e:rt q'.toNat=i:=C2 (by
   have:q'<=((i*i:Nat):Int):=by rw [Int.natCast_mul];omega
   omega) hi
  exact q t _ (ai ht) ht (by rw [e];exact e1)
def sD (C:Addr):Sp:=λvs H Q _=>∃(x dx:Addr) (m:Int),vs=[.ref x,.int m]/\H x=some (.ins C dx [])/\0<=m/\m<=10^6/\∀ d H',(∀ b o,b≠x->H b=some o->H' b=some o)->d≠x->H d=none->bW C ⟨x,dx,d,m,0,[]⟩ H'->Q .non H'
theorem dY:av ["self","most"] ["self","most"] (aj (inClass (top 24) 0)):=dG
theorem we (D:A1 K C "__init__" "Kept.__init__" (inClass (top 24) 0)) (cl:kU K C) (na_most:cu K C "most") (na_counted:cu K C "counted") (na_laid:cu K C "laid"):bX P w K mg base aO 1 C "__init__" ["self","most"] (sD C):=by
 refine eC D (λ_ _ _ _ _ _ us hl=>by obtain⟨_,_,rfl⟩:=rV hl;exact rfl) dY (λvs H Q E h=>by obtain⟨a,b,c,rfl,_⟩:=h;rfl) (λf cdv A outer s H vs Q E hr h=>?_)
 obtain⟨x,dx,m,rfl,hx,m0,m1,q⟩:=h
 have nd:=dY.nd
 refine⟨_,(ae (ri (pv 0) (pv 1) rfl) (ae (ri (pv 0) ah rfl) (ak (ri (pv 0) wK rfl)))),?_⟩
 show bJ _ _ _ [some (.ref x),some (.int m)] H
 k_data
 refine⟨C,dx,[],hx,cl,na_most,by decide,C,dx,_,af,cl,na_counted,by show 1<1000;decide,λd hd=>?_⟩
 have nx:d≠x:=λz=>by rw [z,af] at hd;cases hd
 refine⟨C,dx,_,by rw [ao (Ne.symm nx),af],cl,na_laid,by show 2<1000;decide,q d _ (λb o hb e=>?_) nx (by rw [ao nx,ao nx] at hd;exact hd) ⟨af,⟨[],?_,rfl,List.nodup_nil,λy v e=>by cases e⟩,m0,m1⟩⟩
 ·rw [ao hb,ao (λz=>by rw [z] at hb e;rw [ao hb,ao hb,e] at hd;cases hd),ao hb,ao hb]
  exact e
 ·rw [ao nx,af]
def xw (C:Addr):Sp:=λvs H Q _=>∃(k:KH) (n:Int),vs=[.ref k.a,.int n]/\bW C k H/\∀ H',(∀ b,b≠k.a->H' b=H b)->bW C (gJ k n) H'->Q .non H'
theorem dH:av ["self","many"] ["self","many"] (aj (inClass (top 24) 4)):=dG
theorem yZ (D:A1 K C "add_steps" "Kept.add_steps" (inClass (top 24) 4)) (cl:kU K C) (na_counted:cu K C "counted"):bX P w K mg base aO 1 C "add_steps" ["self","many"] (xw C):=by
 refine eC D (λ_ _ _ _ _ _ us hl=>by obtain⟨_,_,rfl⟩:=rV hl;exact rfl) dH (λvs H Q E h=>by obtain⟨a,b,rfl,_⟩:=h;rfl) (λf cdv A outer s H vs Q E hr h=>?_)
 obtain⟨k,n,rfl,kp,q⟩:=h
 have nd:=dH.nd
 refine⟨_,(ak (uG (pv 0) (pv 1) Bj)),?_⟩
 show mX _ _ _ _ _ _ [some (.ref k.a),some (.int n)] H
 k_data
 refine⟨C,k.dx,Bm k,kp.ins,cl,na_counted,_,rfl,k.c,n,rfl,rfl,k.dx,Bm k,kp.ins,by show 3<1000;decide,q _ (λb hb=>ao hb) (kp.DW rfl)⟩
def Bs (H:Hp) (ks:List (Int × Int × Int)) (bs:List Addr):Prop:=bs.length=ks.length/\∀(i:Nat) b,bs[i]?=some b->∃ y,ks[i]?=some y/\H b=some (.tup ((k3 y).map kV))
def pT (C:Addr):Sp:=λvs H Q _=>∃(k:KH),vs=[.ref k.a]/\bW C k H/\∀ p bs H',H p=none->ax H H'->H' p=some (.lst (bs.map V.ref))->Bs H k.ks bs->Q (.ref p) H'
theorem fC:av ["self"] ["self"] (aj (inClass (top 24) 2)):=dG
theorem qQ (D:A1 K C "tables" "Kept.tables" (inClass (top 24) 2)) (cl:kU K C) (na_laid:cu K C "laid") (n_list:mg "list"=none):bX P w K mg base aO 1 C "tables" ["self"] (pT C):=by
 refine eC D (λ_ _ _ _ _ _ us hl=>by obtain⟨_,rfl⟩:=vT hl;exact rfl) fC (λvs H Q E h=>by obtain⟨a,rfl,_⟩:=h;rfl) (λf cdv A outer s H vs Q E hr h=>?_)
 obtain⟨k,rfl,kp,q⟩:=h
 have nd:=fC.nd
 refine⟨_,(ak (az (bY (qv rfl) rfl n_list L2.boot_list (aa (gz (pv 0) rfl) ag)))),?_⟩
 show pX _ _ [some (.ref k.a)] H
 k_data
 obtain⟨kvs,kd⟩:=kp.ex
 refine⟨C,_,_,kp.ins,cl,na_laid,_,rfl,k.d,kvs,rfl,kd.dict,λp bs hl hb hp=>?_⟩
 refine q p bs _ hp (ai hp) af ⟨hl.trans kd.len,λi b e=>?_⟩
 obtain⟨ky,v,e1,e2⟩:=hb i b e
 have e3:(k.ks.map k3)[i]?=some ky:=by rw [<- kd.keys,List.getElem?_map,e1];rfl
 rw [List.getElem?_map] at e3
 obtain⟨y,e4,rfl⟩:=Option.map_eq_some_iff.mp e3
 exact⟨y,e4,e2⟩
def xF (C:Addr):Sp:=λvs H Q _=>∃(k:KH) (p q w:Int),vs=[.ref k.a,.int p,.int q,.int w]/\bW C k H/\sV k/\2<=p/\p<=10^60/\1<=q/\q<=10^6/\0<=w/\w<p/\Num.Ord p w q.toNat/\∀ t H',bW C (iZ k (p,q,w)) H'->dN k.a k.d H H'->H' t=some (.dK (c7 p w (rt q.toNat)))->Q (.ref t) H'
theorem dw:av ["self","p","q","w","key","table"] ["self","p","q","w"] (aj (inClass (top 24) 3)):=dG
theorem wg (D:A1 K C "used_table" "Kept.used_table" (inClass (top 24) 3)) (cl_Kept:kU K C) (na_laid:cu K C "laid") (na_most:cu K C "most") (n_len:mg "len"=none) (c_small_steps:Callee P w K mg base aO 1 "small_steps" ["p","q","w"] sL)
  (c_Kept_add_steps:bX P w K mg base aO 1 C "add_steps" ["self","many"] (xw C)) (c_Kept_tables:bX P w K mg base aO 1 C "tables" ["self"] (pT C)):bX P w K mg base aO 2 C "used_table" ["self","p","q","w"] (xF C):=by
 refine eC D (λ_ _ _ _ _ _ us hl=>by obtain⟨_,_,_,_,rfl⟩:=vU hl;exact rfl) dw (λvs H Q E h=>by obtain⟨a,b,c,d,rfl,_⟩:=h;rfl) (λf cdv A outer s H vs Q E hr h=>?_)
 obtain⟨k,p,q',w',rfl,kp,le,p2,p9,q1,q6,w0,w1,o,q⟩:=h
 have nd:=dw.nd
 refine⟨_,(ae (bG (i:=4) nd (aG (aa (pv 1) (aa (pv 2) (aa (pv 3) ag))))) (ae (gE (bp (xf (BD (dh hr) (pv 4) (gz (pv 0) rfl))) (ak (bG (i:=5) nd (oW (dh hr) (gz (pv 0) rfl) (pv 4) ⟨rfl,rfl,rfl,rfl⟩))) (ae (bG (i:=5) nd (cw c_small_steps hr aC (aa (pv 1) (aa (pv 2) (aa (pv 3) ag))))) (ak (dF (kh c_Kept_add_steps cl_Kept (hr.mono (by decide)) aC (pv 0) (aa (aD cM rfl n_len PySem.boot_len (aa (pv 5) ag)) ag))))))) (ae (gZ (dh hr) (gz (pv 0) rfl) (pv 4) (pv 5) rfl) (ae (gE (bp (aA jf (aD cM rfl n_len PySem.boot_len (aa (gz (pv 0) rfl) ag)) (gz (pv 0) rfl) (aE _)) (ak (dF (oW (dh hr) (gz (pv 0) rfl) (aB aJ (uA c_Kept_tables cl_Kept (hr.mono (by decide)) aC (pv 0)) ah (λ_ _=>rfl)) ⟨rfl,rfl,rfl,rfl⟩))) aK)) (ak (az (pv 5))))))),?_⟩
 show bJ _ _ _ [some (.ref k.a),some (.int p),some (.int q'),some (.int w'),none,none] H
 k_data
 refine⟨by show 3<=sizeLine;decide,λp1 hp1=>?_⟩
 have s1:=ai (o:=.tup [V.int p,V.int q',V.int w']) hp1
 have e1:upd H p1 (.tup [V.int p,V.int q',V.int w']) p1=some (.tup ((k3 (p,q',w')).map kV)):=af
 have kp1:=kp.same s1
 generalize upd H p1 _=H1 at *
 obtain⟨kvs,kd⟩:=kp1.ex
 generalize hx:((p,q',w'):Int × Int × Int)=x at *
 refine⟨λσ' H'=>∃(t:Addr) (c':Int),σ'=[some (.ref k.a),some (.int p),some (.int q'),some (.int w'),some (.ref p1),some (.ref t)]/\c'=(iZ k x).c/\H' k.a=some (.ins C k.dx (Bm { k with c:=c' }))/\H' k.d=some (.dT (bH kvs (k3 x)))/\H' t=some (.dK (c7 p w' (rt q'.toNat)))/\dN k.a k.d H1 H',?_,?_⟩
 ·k_data
  refine⟨C,_,_,kp1.ins,cl_Kept,na_laid,_,rfl,k.d,rfl,_,eS.t kd.dict e1,?_⟩
  refine bV (λc=>?_) (λc=>?_)
  ·have mem:x∈k.ks:=kd.mem.mp c
   have ec:(iZ k x).c=k.c:=if_pos mem
   obtain⟨v,hv⟩:=Option.isSome_iff_exists.mp c
   obtain⟨t,rfl,ht⟩:=kd.tab x v hv
   subst hx
   rw [ec]
   exact⟨C,_,_,kp1.ins,cl_Kept,na_laid,_,rfl,k.d,rfl,.inr ⟨_,.inl kd.dict⟩,kvs,kd.dict,_,e1,_,hv,t,rfl,by rw [ao kp1.ne];exact kp1.ins,af,by rw [ao (kp1.apart ht (by intro _ _ _ z;cases z) (by intro _ z;cases z)).2];exact ht,dN.Dt⟩
  ·have mem:x∉k.ks:=λz=>c (kd.mem.mpr z)
   have hv:bM kvs (k3 x)=none:=by
    cases e:bM kvs (k3 x) with
    | none=>rfl
    | some v=>rw [e] at c;exact absurd rfl c
   refine⟨p,q',w',rfl,p2,p9,q1,q6,w0,w1,o,λt H2 s2 ft ht=>⟨k.dx,Bm k,(kp1.same s2).ins,rfl,ue ht ⟨k,_,rfl,kp1.same s2,λH3 oth kp3=>⟨t,rfl,?_,?_,?_,λb u ba bd e=>?_⟩⟩⟩⟩
   ·have ec:(iZ k x).c=k.c+((c7 p w' (rt q'.toNat)).length:Int):=by rw [eJ,<- hx];rw [<- hx] at mem;exact if_neg mem
    rw [ec]
    exact kp3.ins
   ·rw [oth _ (Ne.symm kp1.ne),tK hv]
    exact s2 _ _ kd.dict
   ·rw [oth _ (λz=>by rw [z,(kp1.same s2).ins] at ht;cases ht)]
    exact ht
   ·rw [oth _ ba]
    exact s2 _ _ e
 ·rintro σ' H2 ⟨t,c',rfl,ec,ia,hd,ht,b2⟩
  k_data
  have ap1:=kp1.apart e1 (by intro _ _ _ z;cases z) (by intro _ z;cases z)
  have kl:kvs.length<=10^6:=by
   have h1:=kd.len
   have h2:(k.ks.length:Int)<=k.most:=le
   have h3:=kp.m1
   omega
  have tne:t≠k.d:=jc ht hd (by intro z;cases z)
  refine⟨C,_,_,ia,cl_Kept,na_laid,_,rfl,k.d,rfl,_,kK.t hd (b2 _ _ ap1.1 ap1.2 e1) ?_,?_⟩
  ·have:=nU kvs (k3 x)
   exact Nat.lt_of_le_of_lt (Nat.le_trans this kl) (by decide)
  rw [oZ _ (by rw [iA,if_pos rfl])]
  have nad:k.a≠k.d:=kp1.ne
  have b4:dN k.a k.d H1 (upd H2 k.d (.dT (bH kvs (k3 x)++[(k3 x,.ref t)]))):=b2.trans dN.Dt
  have a4:upd H2 k.d (.dT (bH kvs (k3 x)++[(k3 x,.ref t)])) k.a=some (.ins C k.dx (Bm { k with c:=c' })):=by rw [ao nad];exact ia
  have t4:upd H2 k.d (.dT (bH kvs (k3 x)++[(k3 x,.ref t)])) t=some (.dK (c7 p w' (rt q'.toNat))):=by rw [ao tne];exact ht
  have d4:upd H2 k.d (.dT (bH kvs (k3 x)++[(k3 x,.ref t)])) k.d=some (.dT (bH kvs (k3 x)++[(k3 x,.ref t)])):=af
  generalize upd H2 k.d _=H4 at *
  have kd4:=kd.use (H':=H4) (x:=x) (t:=t) (λy v ⟨t',e,z⟩=>⟨t',e,kp1.keep b4 z⟩) ⟨t,rfl,by rw [<- hx];exact t4⟩ d4
  have kp4:bW C { k with c:=c',ks:=cj k.ks x } H4:=⟨a4,⟨_,kd4.dict,kd4.keys,kd4.nd,kd4.tab⟩,kp.m0,kp.m1⟩
  have l4:=kd4.len
  refine⟨λσ' H'=>σ'=[some (.ref k.a),some (.int p),some (.int q'),some (.int w'),some (.ref p1),some (.ref t)]/\bW C (iZ k x) H'/\dN k.a k.d H1 H'/\H' t=some (.dK (c7 p w' (rt q'.toNat))),?_,?_⟩
  ·k_data
   refine⟨C,_,_,a4,cl_Kept,na_laid,_,rfl,DY d4 ⟨C,_,_,a4,cl_Kept,na_most,_,rfl,_,rfl,k.most,rfl,bV (λc=>?_) (λc=>?_)⟩⟩
   ·have c2:k.most<((cj k.ks x).length:Int):=by rw [<- show (bH kvs (k3 x)++[(k3 x,V.ref t)]).length=(cj k.ks x).length from l4];exact c
    generalize bH kvs (k3 x)++[(k3 x,V.ref t)]=kvs4 at *
    obtain⟨q0,v0,r,rfl⟩:∃ q0 v0 r,kvs4=(q0,v0)::r:=by
     cases kvs4 with
     | nil=>have:=kp.m0;simp at c;omega
     | cons y r=>exact⟨y.1,y.2,r,rfl⟩
    refine⟨C,_,_,a4,cl_Kept,na_laid,_,rfl,k.d,rfl,.inr ⟨_,.inl d4⟩,k.dx,_,a4,rfl,{ k with c:=c',ks:=cj k.ks x },rfl,kp4,λpl bs H5 fpl s5 e5 hb=>?_⟩
    obtain⟨b0,bs',rfl⟩:∃ b0 bs',bs=b0::bs':=by
     cases bs with
     | nil=>have h1:=hb.1;have h2:(0:Nat)=(cj k.ks x).length:=h1;have:=kp.m0;omega
     | cons y r=>exact⟨y,r,rfl⟩
    obtain⟨y,hy,hb0⟩:=hb.2 0 b0 rfl
    have ey:q0=k3 y:=by
     have h1:(((q0,v0)::r).map (·.1))[0]?=((cj k.ks x).map k3)[0]?:=congrArg (·[0]?) kd4.keys
     rw [List.getElem?_map (l:=cj k.ks x),show (cj k.ks x)[0]?=some y from hy] at h1
     exact Option.some.inj h1
    refine⟨pl,_,0,_,rfl,rfl,aM.of e5,jx,_,s5 _ _ d4,_,b0,rfl,by rw [ey];exact s5 _ _ hb0,_,bP rfl,?_⟩
    rw [drop_tail kd4.nodup]
    have hk:∀ b u,b≠k.d->H4 b=some u->upd H5 k.d (.dT r) b=some u:=λb u n e=>by rw [ao n];exact s5 _ _ e
    have cut:=kd4.cut hk af
    have ek:iZ k x={ k with c:=c',ks:=(cj k.ks x).tail }:=by
     rw [ec]
     unfold iZ nQ
     rw [if_pos c2]
    rw [ek]
    exact⟨⟨hk _ _ nad a4,⟨_,cut.dict,cut.keys,cut.nd,cut.tab⟩,kp.m0,kp.m1⟩,b4.trans λb u ba bd e=>hk b u bd e,hk _ _ tne t4⟩
   ·have c2:¬k.most<((cj k.ks x).length:Int):=by rw [<- show (bH kvs (k3 x)++[(k3 x,V.ref t)]).length=(cj k.ks x).length from l4];exact c
    have ek:iZ k x={ k with c:=c',ks:=cj k.ks x }:=by
     rw [ec]
     unfold iZ nQ
     rw [if_neg c2]
    rw [ek]
    exact⟨kp4,b4,t4⟩
  ·rintro σ' H5 ⟨rfl,kp5,b5,t5⟩
   k_data
   exact q t H5 kp5 ((dN.of s1).trans b5) t5
theorem vp {d m i:Nat} (m0:0<m) (h:i*m<=d) (h1:d-i*m<m):i=d/m/\d-i*m=d%m:=by
 have e:=Nat.div_add_mod d m
 have hd:d/m=i:=by
  rw [Nat.div_eq_iff m0]
  constructor
  ·exact h
  ·omega
 refine⟨hd.symm,?_⟩
 rw [hd,Nat.mul_comm] at e
 omega
def lX:Sp:=λvs H Q _=>∃(p back c w:Int) (t:Addr) (q d:Nat),vs=[.int p,.ref t,.int back,.int c]/\2<=p/\p<=10^60/\Num.Ord p w q/\q<=10^6/\H t=some (.dK (c7 p w (rt q)))/\0<=back/\back<p/\Num.Al p (back*w^rt q) 1/\d<q/\c=w^d%p/\∀ r H',ax H H'->H r=none->H' r=some (.tup [.int (d/rt q:Nat),.int (d%rt q:Nat)])->Q (.ref r) H'
theorem jj:av ["p","table","back","c","i","rest"] ["p","table","back","c"] (aj (top 36)):=dG
theorem qV (D:ay K mg "steps_to" (top 36)):Callee P w K mg base aO 1 "steps_to" ["p","table","back","c"] lX:=by
 refine cO D jj (λf cdv A outer s H vs Q E hr h=>?_)
 obtain⟨p,back,c,w',t,q',d,rfl,p2,p9,o,q6,ht,b0,b1,hb,dq,rfl,q⟩:=h
 have nd:=jj.nd
 refine⟨_,(ae (bG (i:=4) nd ah) (ae (bG (i:=5) nd (pv 3)) (ae (bO PassesOwn.never (xf (uz (dh hr) (pv 5) (pv 1))) (ae (bG (i:=5) nd (au aL (au aI (pv 5) (pv 2)) (pv 0))) (ak (gD (i:=4) nd rfl (Or.inl rfl) ah (jW mF))))) (ak (az (aG (aa (pv 4) (aa (fR (dh hr) (pv 1) (pv 5) (λ_ _=>rfl)) ag)))))))),?_⟩
 show bJ _ _ _ [some (.int p),some (.ref t),some (.int back),some (.int (w'^d%p)),none,none] H
 k_data
 have m0:=xr o.pos
 have mq:=Ay o.pos
 generalize hm:rt q'=m at *
 refine bQ (α:=Nat) (λi=>[some (.int p),some (.ref t),some (.int back),some (.int (w'^d%p)),some (.int (i:Int)),some (.int (w'^(d-i*m)%p))]) (λi H1=>H1=H/\i*m<=d) (λi=>d+1-i) 0 (by rw [Nat.zero_mul,Nat.sub_zero];rfl) ⟨rfl,by rw [Nat.zero_mul];exact Nat.zero_le _⟩ ?_
 rintro i H1 ⟨rfl,hi⟩
 replace hi:i*m<=d:=hi
 have r0:=Int.emod_nonneg (w'^(d-i*m)) (show p≠0 by omega)
 have r1:=Int.emod_lt_of_pos (w'^(d-i*m)) (show 0<p by omega)
 k_data
 by_cases lt:d-i*m<m
 ·have hv:bM (c7 p w' m) (Sum.inl (w'^(d-i*m)%p))=some (.int ((d-i*m:Nat):Int)):=xT (λi j hi hj e=>o.h7 (by omega) (by omega) e) _ lt
  have dg:=eS.k (k:=Sum.inl (w'^(d-i*m)%p)) ht
  rw [hv] at dg
  obtain⟨e1,e2⟩:=vp m0 hi lt
  refine⟨_,dg,?_⟩
  rw [if_neg (by simp)]
  refine⟨_,dg,⟨by show 2<=sizeLine;decide,λr hr'=>q r _ (ai hr') hr' ?_⟩⟩
  rw [<- e1,<- e2]
  exact af
 ·have hv:bM (c7 p w' m) (Sum.inl (w'^(d-i*m)%p))=none:=iw λj hj e=>by
   have:=o.h7 (i:=j) (j:=d-i*m) (by omega) (by omega) e
   omega
  have dg:=eS.k (k:=Sum.inl (w'^(d-i*m)%p)) ht
  rw [hv] at dg
  refine⟨_,dg,?_⟩
  rw [if_pos (by simp)]
  have i1:(i+1)*m<=d:=by rw [Nat.succ_mul];omega
  have im:i<=d:=Nat.le_trans (Nat.le_mul_of_pos_right i m0) hi
  refine⟨_,λ_ _ z=>z,Bd.of (by omega) (by omega),Bd.of (by omega) (by omega),by omega,i+1,?_,rfl,i1,by show d+1-(i+1)<d+1-i;omega⟩
  have e:w'^(d-i*m)%p*back%p=w'^(d-(i+1)*m)%p:=by
   have h1:d-i*m=(d-(i+1)*m)+m:=by rw [Nat.succ_mul] at i1 ⊢;omega
   refine Num.Al.iff.mp ?_
   have h2:=((Num.Al.rest p (w'^(d-i*m))).mul (Num.Al.refl p back))
   rw [h1,Int.pow_add,Int.mul_assoc,Int.mul_comm (w'^m) back] at h2
   rw [h1,Int.pow_add]
   have h3:=(Num.Al.refl p (w'^(d-(i+1)*m))).mul hb
   rw [Int.mul_one] at h3
   exact h2.trans h3
  rw [e]
  rfl
def xB (K:PySem.W.Frag):Sp:=λvs H Q _=>∃(q x n:Nat) (a:Addr),vs=[.int q,.ref a]/\0<q/\q<=10^60/\x%q^n<=10^60/\n<=1000/\H a=some (.lst ((Num.cR x q n).map λd=>V.int (d:Nat)))/\∀ H',ax H H'->Q (.int (x%q^n:Nat)) H'
theorem dc:av ["q","row","number","digit"] ["q","row"] (aj (top 37)):=dG
theorem y8 (D:ay K mg "number_of" (top 37)):Callee P w K mg base aO 1 "number_of" ["q","row"] (xB K):=by
 refine cO D dc (λf cdv A outer s H vs Q E hr h=>?_)
 obtain⟨q',x,n,a,rfl,q0,q9,x9,n9,ha,q⟩:=h
 have nd:=dc.nd
 refine⟨_,(ae (bG (i:=2) nd ah) (ae (bD PassesOwn.never rfl (bo (BF (pv 1) (eF (jg fL ah)))) (aq (i:=3) nd rfl (Or.inl rfl) (.inr rfl)) (ak (bG (i:=2) nd (au b7 (au aI (pv 2) (pv 0)) (pv 3))))) (ak (az (pv 2))))),?_⟩
 show bJ _ _ _ [some (.int (q':Int)),some (.ref a),none,none] H
 k_data
 have dl:=Num.gN (x:=x) (q:=q') (n:=n)
 refine⟨_,aM.of ha,λp hp=>⟨⟨_,aM.of af⟩,?_⟩⟩
 have s1:=ai (o:=.lst ((Num.cR x q' n).map λd:Nat=>V.int (d:Int)).reverse) hp
 have e1:upd H p (.lst ((Num.cR x q' n).map λd:Nat=>V.int (d:Int)).reverse) p=some (.lst ((Num.cR x q' n).map λd:Nat=>V.int (d:Int)).reverse):=af
 generalize upd H p _=H1 at *
 refine df (xs:=((Num.cR x q' n).map λd:Nat=>V.int (d:Int)).reverse) (λi σ' H'=>H'=H1/\∃ o3,σ'=[some (.int (q':Int)),some (.ref a),some (.int ((x%q'^n/q'^(n-i):Nat):Int)),o3]) ⟨rfl,none,?_⟩ (λi σ' H' _ h=>by rw [h.1];exact aM.of e1) ?_ ?_
 ·rw [Nat.sub_zero,Nat.div_eq_of_lt (Nat.mod_lt _ (Nat.pow_pos q0))]
  rfl
 ·rintro i v σ' H' hv ⟨rfl,o3,rfl⟩
  have hi:i<n:=by
   have:=(List.getElem?_eq_some_iff.mp hv).1
   rw [List.length_reverse,List.length_map,dl] at this
   exact this
  rw [List.getElem?_reverse (by rw [List.length_map,dl];exact hi),List.length_map,dl,List.getElem?_map,Num.rO (by omega)] at hv
  cases hv
  have b1:x%q'^n/q'^(n-i)<=10^60:=Nat.le_trans (Nat.div_le_self _ _) x9
  have bd:Bd ((x%q'^n/q'^(n-i):Nat):Int):=by
   generalize x%q'^n/q'^(n-i)=z at b1
   exact Bd.of (by omega) (by omega)
  k_data
  refine⟨bd,Bd.of (by omega) (by omega),?_⟩
  have e:=Num.oK (x:=x) (n:=n) q0 hi
  rw [<- Int.natCast_mul,<- Int.natCast_add,e]
 ·rintro σ' H' ⟨rfl,o3,rfl⟩
  rw [List.length_reverse,List.length_map,dl,Nat.sub_self,Nat.pow_zero,Nat.div_one]
  k_data
  exact q H' s1
def xC (K:PySem.W.Frag):Sp:=λvs H Q _=>∃(q x n:Nat) (a:Addr),vs=[.int q,.ref a]/\0<q/\q<=10^60/\x%q^n<=10^60/\n<=1000/\bE K H a ((Num.cR x q n).map λd=>V.int (d:Nat))/\∀ H',ax H H'->Q (.int (x%q^n:Nat)) H'
theorem y9 (D:ay K mg "number_of" (top 37)):Callee P w K mg base aO 1 "number_of" ["q","row"] (xC K):=by
 refine cO D dc (λf cdv A outer s H vs Q E hr h=>?_)
 obtain⟨q',x,n,a,rfl,q0,q9,x9,n9,ha,q⟩:=h
 have nd:=dc.nd
 refine⟨_,(ae (bG (i:=2) nd ah) (ae (bD PassesOwn.never rfl (iT (zD (pv 1) (eF (jg fL ah)))) (aq (i:=3) nd rfl (Or.inl rfl) (.inr rfl)) (ak (bG (i:=2) nd (au b7 (au aI (pv 2) (pv 0)) (pv 3))))) (ak (az (pv 2))))),?_⟩
 show bJ _ _ _ [some (.int (q':Int)),some (.ref a),none,none] H
 unfold AL
 k_data
 have dl:=Num.gN (x:=x) (q:=q') (n:=n)
 refine⟨_,ha,λp hp=>⟨⟨_,bE.of af⟩,?_⟩⟩
 have s1:=ai (o:=.tup ((Num.cR x q' n).map λd:Nat=>V.int (d:Int)).reverse) hp
 have e1:upd H p (.tup ((Num.cR x q' n).map λd:Nat=>V.int (d:Int)).reverse) p=some (.tup ((Num.cR x q' n).map λd:Nat=>V.int (d:Int)).reverse):=af
 generalize upd H p _=H1 at *
 refine oA (xs:=((Num.cR x q' n).map λd:Nat=>V.int (d:Int)).reverse) (λi σ' H'=>H'=H1/\∃ o3,σ'=[some (.int (q':Int)),some (.ref a),some (.int ((x%q'^n/q'^(n-i):Nat):Int)),o3]) ⟨rfl,none,?_⟩ (λi σ' H' _ h=>by rw [h.1];exact bE.of e1) ?_ ?_
 ·rw [Nat.sub_zero,Nat.div_eq_of_lt (Nat.mod_lt _ (Nat.pow_pos q0))]
  rfl
 ·rintro i v σ' H' hv ⟨rfl,o3,rfl⟩
  have hi:i<n:=by
   have:=(List.getElem?_eq_some_iff.mp hv).1
   rw [List.length_reverse,List.length_map,dl] at this
   exact this
  rw [List.getElem?_reverse (by rw [List.length_map,dl];exact hi),List.length_map,dl,List.getElem?_map,Num.rO (by omega)] at hv
  cases hv
  have b1:x%q'^n/q'^(n-i)<=10^60:=Nat.le_trans (Nat.div_le_self _ _) x9
  have bd:Bd ((x%q'^n/q'^(n-i):Nat):Int):=by
   generalize x%q'^n/q'^(n-i)=z at b1
   exact Bd.of (by omega) (by omega)
  k_data
  refine⟨bd,Bd.of (by omega) (by omega),?_⟩
  have e:=Num.oK (x:=x) (n:=n) q0 hi
  rw [<- Int.natCast_mul,<- Int.natCast_add,e]
 ·rintro σ' H' ⟨rfl,o3,rfl⟩
  rw [List.length_reverse,List.length_map,dl,Nat.sub_self,Nat.pow_zero,Nat.div_one]
  k_data
  exact q H' s1
theorem vG {p b g:Int} (h:Num.Co b p) (G:Gd p b g):g=1:=by
 obtain⟨u,v,e⟩:=h
 have g1:g∣1:=by rw [<- e];exact Int.dvd_add (Int.dvd_mul_of_dvd_right G.da) (Int.dvd_mul_of_dvd_right G.dn)
 exact Int.eq_one_of_dvd_one (by have:=G.pos;omega) g1
theorem w5 {C0:Addr} {p b:Int} {n:Nat} {H:Hp} {Q:VK} {E:XK} (p2:2<=p) (p9:p<=10^60) (co:Num.Co b p) (q:∀ r H',0<=r->r<p->Num.Al p (r*b^n) 1->ax H H'->Q (.int r) H'):eG C0 [.int p,.int b,.int (-(n:Int))] H Q E:=by
 have r0:=λz:Int=>Int.emod_nonneg z (show p≠0 by omega)
 have r1:=λz:Int=>Int.emod_lt_of_pos z (show 0<p by omega)
 refine⟨p,b,-(n:Int),rfl,by omega,by omega,λh H' s=>?_,λh g G=>⟨λ_ i H' i0 i1 i2 s=>?_,λz=>absurd z (by rw [vG co G];decide)⟩⟩
 ·have n0:n=0:=by omega
  subst n0
  exact q _ H' (r0 _) (r1 _) (((Num.Al.rest p _).mul (Num.Al.refl p _)).trans (by rw [show (-((0:Nat):Int)).toNat=0 by decide,Int.pow_zero];exact Num.Al.refl p _)) s
 ·rw [show (-(-(n:Int))).toNat=n by omega]
  refine q _ H' (r0 _) (r1 _) (((Num.Al.rest p _).mul (Num.Al.refl p _)).trans ?_) s
  rw [<- Int.mul_pow]
  have:=Num.Al.pow (show Num.Al p (i*b) 1 from i2) n
  rwa [Int.one_pow] at this
theorem nK {k k':KH} {H H':Hp} {f:Addr} (kp:bW C k' H') (ea:k'.a=k.a) (ed:k'.d=k.d) (b:dN k.a k.d H H') (hf:H' f=none):H f=none:=by
 cases z:H f with
 | none=>rfl
 | some u =>
  by_cases c1:f=k.a
  ·rw [c1,<- ea,kp.ins] at hf;cases hf
  ·by_cases c2:f=k.d
   ·obtain⟨kvs,kd⟩:=kp.ex
    rw [c2,<- ed,kd.dict] at hf;cases hf
   ·rw [b f u c1 c2 z] at hf;cases hf
theorem Br {k:KH} {H:Hp} {f:Addr} {o o':HO} (kp:bW C k H) (h:H f=some o) (h1:∀ C dx fs,o≠.ins C dx fs) (h2:∀ kvs,o≠.dT kvs) (h3:∀ kvs,o≠.dK kvs):bW C k (upd H f o'):=by
 obtain⟨na,nd⟩:=kp.apart h h1 h2
 obtain⟨kvs,kd⟩:=kp.ex
 refine⟨by rw [ao (Ne.symm na)];exact kp.ins,⟨kvs,by rw [ao (Ne.symm nd)];exact kd.dict,kd.keys,kd.nd,λx v e=>?_⟩,kp.m0,kp.m1⟩
 obtain⟨t,e1,e2⟩:=kd.tab x v e
 exact⟨t,e1,by rw [ao (jc e2 h (Ne.symm (h3 _)))];exact e2⟩
theorem dN.trans' {a d f:Addr} {H H':Hp} {o:HO} (b:dN a d H H') (hf:H f=none):dN a d H (upd H' f o):=λc u x y e=>by
 rw [ao (λz=>by rw [z,hf] at e;cases e)]
 exact b c u x y e
theorem Cr {k:KH}:gJ k 0=k:=by unfold gJ;rw [Int.add_zero]
theorem Cs {k:KH} {m n:Int}:gJ (gJ k m) n=gJ k (m+n):=by unfold gJ;rw [Int.add_assoc]
def stK (x q n:Nat):Int:=(((Num.cR x q n).map λd=>d/rt q+1).sum:Nat)
theorem xI {x q n:Nat}:stK x q (n+1)=stK x q n+((x/q^n%q/rt q:Nat)+1:Int):=by
 unfold stK
 rw [Num.lp,List.map_append,List.sum_append]
 simp
def vm (k:KH) (p b:Int) (e q x n:Nat):KH:=gJ (iZ k (p,(q:Int),b^(e/q)%p)) (stK x q n)
def pN (K:PySem.W.Frag) (C:Addr):Sp:=λvs H Q _=>∃(k:KH) (p b a:Int) (e q n x:Nat) (pt:Addr),vs=[.int p,.int b,.int a,.ref pt,.ref k.a]/\bE K H pt [.int e,.int q,.int n]/\bW C k H/\sV k/\2<=p/\p<=10^60 /\ -(10^60)<=a/\a<=10^60/\Num.Ord p b e/\e<=10^60/\x<e/\Num.Al p a (b^x)/\1<=q/\q<=10^6/\1<=n/\n<=1000/\q^n∣e /\
 ∀ t H',bW C (vm k p b e q x n) H'->dN k.a k.d H H'->H t=none->H' t=some (.tup ((Num.cR x q n).map λd=>V.int (d:Nat)))->Q (.ref t) H'
theorem lQ:av ["p","b","a","part","keeper","e","q","many","w","table","back","found","left","turn","c","i","j"] ["p","b","a","part","keeper"] (aj (top 35)):=dG
theorem ui {C0:Addr} (D:ay K mg "digits" (top 35)) (cl_Kept:kU K C) (c_power:Callee P w K mg base (dO P w) 4 "power" ["n","a","e"] (eG C0)) (c_inverse:Callee P w K mg base (dO P w) 3 "inverse" ["n","a"] (fW C0)) (c_Kept_used_table:bX P w K mg base aO 2 C "used_table" ["self","p","q","w"] (xF C)) (c_Kept_add_steps:bX P w K mg base aO 1 C "add_steps" ["self","many"] (xw C)) (c_number_of:Callee P w K mg base aO 1 "number_of" ["q","row"] (xB K)) (c_steps_to:Callee P w K mg base aO 1 "steps_to" ["p","table","back","c"] lX) (n_len:mg "len"=none) (n_range:mg "range"=none) (n_tuple:mg "tuple"=none):Callee P w K mg base aO 5 "digits" ["p","b","a","part","keeper"] (pN K C):=by
 refine cO D lQ (λf cdv A outer s H vs Q E hr h=>?_)
 obtain⟨k,p,b,a,e,q',n,x,pt,rfl,hpt,kp,le,p2,p9,a0,a1,o,e9,xe,al,q1,q6,n1,n9,dv,q⟩:=h
 have nd:=lQ.nd
 refine⟨_,(ae (fv (pv 3) (cz (n:=3) rfl (aw (aq (i:=5) nd rfl (Or.inl rfl) (.inr rfl)) (aw (aq (i:=6) nd rfl (Or.inl rfl) (.inr rfl)) (aw (aq (i:=7) nd rfl (Or.inl rfl) (.inr rfl)) aP))))) (ae (bG (i:=8) nd (cw c_power hr bC (aa (pv 0) (aa (pv 1) (aa (au cp (pv 5) (pv 6)) ag))))) (ae (bG (i:=9) nd (kh c_Kept_used_table cl_Kept (hr.mono (by decide)) aC (pv 4) (aa (pv 0) (aa (pv 6) (aa (pv 8) ag))))) (ae (bG (i:=10) nd (cw c_inverse hr bC (aa (pv 0) (aa (cw c_power hr bC (aa (pv 0) (aa (pv 8) (aa (aD cM rfl n_len PySem.boot_len (aa (pv 9) ag)) ag)))) ag)))) (ae (bG (i:=11) nd (dt ag)) (ae (bG (i:=12) nd (pv 5)) (ae (bD PassesOwn.never rfl (bZ rfl n_range (aa (pv 7) ag)) (aq (i:=13) nd rfl (Or.inl rfl) (.inr rfl)) (ae (gD (i:=12) nd rfl (Or.inl rfl) (pv 6) (jW om)) (ae (bG (i:=14) nd (cw c_power hr bC (aa (pv 0) (aa (au aI (pv 2) (cw c_power hr bC (aa (pv 0) (aa (pv 1) (aa (jg fL (cw c_number_of hr aC (aa (pv 6) (aa (pv 11) ag)))) ag))))) (aa (pv 12) ag))))) (ae (fv (cw c_steps_to hr aC (aa (pv 0) (aa (pv 9) (aa (pv 10) (aa (pv 14) ag))))) (cz (n:=2) rfl (aw (aq (i:=15) nd rfl (Or.inl rfl) (.inr rfl)) (aw (aq (i:=16) nd rfl (Or.inl rfl) (.inr rfl)) aP)))) (ae (dF (kh c_Kept_add_steps cl_Kept (hr.mono (by decide)) aC (pv 4) (aa (au b7 (pv 15) ah) ag))) (ak (dF (oU PySem.F.plainAttrs_list PySem.F.slot_list_append PySem.F.type_list_append fQ (pv 11) (aa (au b7 (au aI (pv 15) (aD cM rfl n_len PySem.boot_len (aa (pv 9) ag))) (pv 16)) ag))))))))) (ak (az (bY bR rfl n_tuple L2.boot_tuple (aa (pv 11) ag))))))))))),?_⟩
 show bJ _ _ _ [some (.int p),some (.int b),some (.int a),some (.ref pt),some (.ref k.a),none,none,none,none,none,none,none,none,none,none,none,none] H
 k_data
 refine⟨pt,_,rfl,hpt,rfl,?_⟩
 k_data
 have o0:=o.pos
 have qe:q'∣e:=Nat.dvd_trans (by obtain⟨m,rfl⟩:∃ m,n=m+1:=⟨n-1,by omega⟩;exact⟨q'^m,by rw [Nat.pow_succ,Nat.mul_comm]⟩) dv
 have em:=λz:Int=>Int.emod_nonneg z (show p≠0 by omega)
 have el:=λz:Int=>Int.emod_lt_of_pos z (show 0<p by omega)
 refine⟨by omega,Bd.of (by omega) (by omega),p,b,_,rfl,by omega,by omega,λ_ H1 s1=>?_,λz=>absurd z (by have:=Int.ediv_nonneg (a:=(e:Int)) (b:=(q':Int)) (by omega) (by omega);omega)⟩
 have ew:((e:Int)/(q':Int)).toNat=e/q':=by rw [<- Int.natCast_ediv];rfl
 rw [ew]
 have ow:Num.Ord p (b^(e/q')%p) q':=Num.qZ (Num.Al.rest p _).symm (Num.rY o qe)
 have hw:Num.Al p (b^(e/q')%p) (b^(e/q')):=Num.Al.rest p _
 have w0:=em (b^(e/q'))
 have w1:=el (b^(e/q'))
 unfold vm at q
 generalize b^(e/q')%p=w' at *
 have kp1:=kp.same s1
 refine⟨k.dx,_,kp1.ins,rfl,k,p,q',w',rfl,kp1,le,p2,p9,by omega,by omega,w0,w1,by rw [Int.toNat_natCast];exact ow,λt H2 kp2 b2 ht=>ue ht ?_⟩
 rw [Int.toNat_natCast] at ht
 rw [eJ,Int.toNat_natCast]
 have mq:=Ay (q:=q') (by omega)
 have m0:=xr (q:=q') (by omega)
 have m6:=zL q6
 refine⟨p,w',_,rfl,by omega,by omega,λ_ H3 s3=>?_,λz=>absurd z (by omega)⟩
 rw [Int.toNat_natCast]
 have cow:Num.Co (w'^rt q'%p) p:=(ow.co.pow _).Au (Num.Al.rest p _).symm
 refine⟨p,_,rfl,by omega,by omega,λg G=>⟨λ_ bk H4 bk0 bk1 bk2 s4=>?_,λz=>absurd z (by rw [vG cow G];decide)⟩⟩
 have hbk:Num.Al p (bk*w'^rt q') 1:=((Num.Al.refl p bk).mul (Num.Al.rest p _)).symm.trans bk2
 refine⟨by decide,λfo hfo=>⟨by omega,by omega,?_⟩⟩
 have S4:=s3.trans s4
 have s5:=ai (o:=.lst ([]:List V)) hfo
 have e5:upd H4 fo (.lst ([]:List V)) fo=some (.lst ((Num.cR x q' 0).map λd:Nat=>V.int (d:Int))):=af
 have ffo:H fo=none:=nK (kp2.same S4) rfl rfl ((dN.of s1).trans (b2.trans (dN.of S4))) hfo
 have kp5:=(kp2.same S4).same s5
 have t5:=s5 _ _ (S4 _ _ ht)
 have b5:dN k.a k.d H (upd H4 fo (.lst ([]:List V))):=(dN.of s1).trans (b2.trans (dN.of (S4.trans s5)))
 generalize upd H4 fo (.lst ([]:List V))=H5 at *
 refine bB (λi σ' H'=>bW C (gJ (iZ k (p,(q':Int),w')) (stK x q' i)) H'/\dN k.a k.d H H'/\H' fo=some (.lst ((Num.cR x q' i).map λd:Nat=>V.int (d:Int)))/\H' t=some (.dK (c7 p w' (rt q')))/\∃ o1 o2 o3 o4,σ'=[some (.int p),some (.int b),some (.int a),some (.ref pt),some (.ref k.a),some (.int (e:Int)),some (.int (q':Int)),some (.int (n:Int)),some (.int w'),some (.ref t),some (.int bk),some (.ref fo),some (.int ((e/q'^i:Nat):Int)),o1,o2,o3,o4]) ⟨?_,b5,e5,t5,none,none,none,none,by rw [Nat.pow_zero,Nat.div_one]⟩ ?_ ?_
 ·show bW C (gJ _ 0) H5
  rw [Cr]
  exact kp5
 ·rintro i σ' H6 hi ⟨kp6,b6,e6,t6,o1,o2,o3,o4,rfl⟩
  k_data
  have xq:x%q'^i<=10^60:=Nat.le_trans (Nat.mod_le _ _) (by omega)
  refine⟨by omega,Bd.of (by omega) (by omega),q',x,i,fo,rfl,by omega,by omega,xq,by omega,e6,λH7 s7=>⟨_,rfl,?_⟩⟩
  refine w5 p2 p9 o.co λr H8 r0 r1 hr' s8=>⟨_,rfl,Bd.of (by omega) (by omega),Bd.of (by omega) (by omega),?_⟩
  have el1:((e/q'^i:Nat):Int)/(q':Int)=((e/q'^(i+1):Nat):Int):=by rw [Nat.pow_succ,<- Nat.div_div_eq_div_mul,Int.natCast_ediv (e/q'^i)]
  rw [el1]
  refine⟨p,_,_,rfl,by omega,by omega,λ_ H9 s9=>?_,λz=>absurd z (Int.not_lt.mpr (Int.natCast_nonneg _))⟩
  rw [Int.toNat_natCast]
  have dq:q'^(i+1)∣e:=Nat.dvd_trans (Nat.pow_dvd_pow q' hi) dv
  have key:=Num.Al.iff.mp (Num.vn o dq al hr' hw)
  rw [key]
  have S9:=(s7.trans s8).trans s9
  have d0:x/q'^i%q'<q':=Nat.mod_lt _ (by omega)
  refine⟨p,bk,_,w',t,q',x/q'^i%q',rfl,p2,p9,ow,q6,S9 _ _ t6,bk0,bk1,hbk,d0,rfl,λrr H10 s10 frr hrr=>⟨rr,_,rfl,bE.of hrr,rfl,?_⟩⟩
  k_data
  have kp10:=(kp6.same S9).same s10
  have e10:=s10 _ _ (S9 _ _ e6)
  have t10:=s10 _ _ (S9 _ _ t6)
  have b10:=b6.trans (dN.of (S9.trans s10))
  refine⟨_,_,kp10.ins,rfl,gJ (iZ k (p,(q':Int),w')) (stK x q' i),_,rfl,kp10,λH11 oth kp11=>?_⟩
  have nfo:fo≠k.a:=(kp10.apart e10 (by intro _ _ _ z;cases z) (by intro _ z;cases z)).1
  have nfd:fo≠k.d:=(kp10.apart e10 (by intro _ _ _ z;cases z) (by intro _ z;cases z)).2
  have ntf:t≠fo:=jc t10 e10 (by intro z;cases z)
  have nta:t≠k.a:=(kp10.apart t10 (by intro _ _ _ z;cases z) (by intro _ z;cases z)).1
  have e11:=(oth fo nfo).trans e10
  have t11:=(oth t nta).trans t10
  have b11:dN k.a k.d H H11:=b10.trans λb u ba _ e=>by rw [oth b ba];exact e
  rw [Cs,<- xI] at kp11
  have dl:=Num.gN (x:=x) (q:=q') (n:=i)
  have dd:((x/q'^i%q' / rt q':Nat):Int)*((rt q':Nat):Int)+((x/q'^i%q'%rt q':Nat):Int)=((x/q'^i%q':Nat):Int):=by
   rw [<- Int.natCast_mul,<- Int.natCast_add,Nat.div_add_mod']
  have db:Bd ((x/q'^i%q' / rt q':Nat):Int):=by
   have h1:x/q'^i%q' / rt q'<=x/q'^i%q':=Nat.div_le_self _ _
   generalize x/q'^i%q' / rt q'=z at h1
   generalize x/q'^i%q'=z' at h1 d0
   exact Bd.of (by omega) (by omega)
  refine⟨.inl ⟨rfl,_,aM.of e11⟩,ue t11 ⟨_,rfl,db,by rw [eJ];exact Bd.of (by omega) (by omega),fo,_,_,rfl,rfl,e11,by rw [List.length_map,dl];exact uJ (by omega),?_⟩⟩
  rw [eJ,dd]
  refine⟨Br kp11 e11 (by intro _ _ _ z;cases z) (by intro _ z;cases z) (by intro _ z;cases z),dN.trans' b11 ffo,?_,by rw [ao ntf];exact t11⟩
  rw [af,Num.lp,List.map_append]
  rfl
 ·rintro σ' H6 ⟨kp6,b6,e6,t6,o1,o2,o3,o4,rfl⟩
  k_data
  refine⟨_,.inl ⟨aM.of e6,λl hl=>q l _ (kp6.same (ai hl)) (b6.trans (dN.of (ai hl))) (nK kp6 rfl rfl b6 hl) af⟩⟩
theorem Ad {x y:V} {r:List V}:qc (x::y::r) 1=some y:=by
 unfold qc vP
 simp
 rw [if_pos (by omega)]
 rfl
def ES (row:PyData) (y:Int × Int):Prop:=∃ ds r,row=.tuple (.tuple (.int y.1::ds)::.int y.2::r)
def sU (rows:List PyData) (ps:List (Int × Int)):Prop:=rows.length=ps.length/\∀(i:Nat) (row:PyData),rows[i]?=some row->∃ y,ps[i]?=some y/\ES row y
def sG (K:PySem.W.Frag):Sp:=λvs H Q _=>∃(v:V) (rows:List PyData) (ps:List (Int × Int)),vs=[v]/\dv K H (.tuple rows) v/\sU rows ps/\rows.length<=10^6/\∀ p us H',ax H H'->H p=none->H' p=some (.lst us)->aF K H' (ps.map dy) us->Q (.ref p) H'
theorem Bf {H:Hp} {rows:List PyData} {ps:List (Int × Int)} {xs:List V} (hd:aF K H rows xs) (h:sU rows ps) {i:Nat} {x:V} (hx:xs[i]?=some x):∃ q k pt pq r r',ps[i]?=some (q,k)/\x=.ref pt/\bE K H pt (.ref pq::.int k::r')/\bE K H pq (.int q::r):=by
 obtain⟨d,hd',hv⟩:=hd.get hx
 obtain⟨⟨q,k⟩,hy,ds,r0,rfl⟩:=h.2 i d hd'
 obtain⟨pt,ys,rfl,h1,x1,r1,rfl,e1,x2,r2,rfl,e2,_⟩:=hv
 obtain⟨pq,zs,rfl,h2,y1,r3,rfl,f1,f2⟩:=e1
 cases f1
 cases e2
 exact⟨q,k,pt,pq,r3,r2,hy,rfl,h1,h2⟩
theorem wm (D:ay K mg "parting_in" (top 13)):Callee P w K mg base aO 1 "parting_in" ["parts"] (sG K):=by
 refine cO D bS (λf cdv A outer s H vs Q E hr h=>?_)
 obtain⟨v,rows,ps,rfl,hd,hh,h6,q⟩:=h
 have nd:=bS.nd
 refine⟨_,(ak (az (gf rfl (nP (N':=["row"]) (js:=[none]) rfl rfl) (iT (pv 0)) (λ_ _ _ _=>(aq (i:=0) (show List.Nodup [("row":Str)] from by decide +kernel) rfl (Or.inl rfl) (.inr rfl))) (λ_ _ _ _=>aS) (λ_ _ _ _=>(aG (aa (aB (bw K rfl) (aB (bw K rfl) (pv 0) ah (λ_ _=>rfl)) ah (λ_ _=>rfl)) (aa (aB (bw K rfl) (pv 0) ah (λ_ _=>rfl)) ag))))))),?_⟩
 show pX _ _ [some v] H
 obtain⟨p,xs,rfl,hS,ht⟩:=hd
 have xl:=ht.length
 have rl:=hh.1
 k_data
 refine⟨⟨_,hS⟩,?_⟩
 refine fN (xs:=xs) (λi zs H3=>ax H H3/\aF K H3 ((ps.take i).map dy) zs) ⟨ax.refl _,rfl⟩ (Nat.le_trans (by omega) (show 10^6<=sizeLine by decide)) (λi zs H3 hi ⟨e1,e2⟩=>⟨hS.same e1,by rw [e2.length,List.length_map,List.length_take];omega⟩) ?_ ?_
 ·rintro i x zs H3 hx ⟨s3,hz⟩
  obtain⟨q',k',pt,pq,r,r',hy,rfl,t1,t2⟩:=Bf ht hh hx
  show b8 0 _ [none] _ _
  k_data
  refine⟨True.intro,br (t1.same s3) jx (br (t2.same s3) jx (br (t1.same s3) Ad ⟨by show 2<=sizeLine;decide,λp4 hp4=>?_⟩))⟩
  have s4:=ai (o:=.tup [V.int q',V.int k']) hp4
  refine⟨s3.trans s4,?_⟩
  rw [List.take_add_one,hy,List.map_append]
  exact aF.append (aF.same s4 _ hz) (.one (dv.tup af ⟨_,_,rfl,rfl,.one rfl⟩))
 ·rintro zs H3 p3 ⟨s3,hz⟩ hp3
  rw [show xs.length=ps.length by omega,List.take_length] at hz
  exact q p3 zs _ (s3.trans (ai hp3)) (s3.free hp3) af (aF.same (ai hp3) _ hz)
def AA (K:PySem.W.Frag) (CF:Addr):Sp:=λvs H Q E=>∃(a:Addr) (ns:List Int),vs=[.ref a]/\aM K H a (ns.map V.int)/\ns.length<=10^6/\((∀ n∈ns,n<=10^6)->Q .non H)/\(∀ m∈ns,(∀ n∈ns,n<=m)->10^6<m->Ef CF "part" (.int m) H E)
theorem gq:av ["primes"] ["primes"] (aj (top 33)):=dG
theorem Bz {CF:Addr} (D:ay K mg "refuse_far" (top 33)) (x_TooFar:yj P w K mg base "TooFar" CF "part") (g_FARTHEST:∃ t,mg "FARTHEST"=some (.int 1000000 t)) (n_max:mg "max"=none):Callee P w K mg base (dO P w) 3 "refuse_far" ["primes"] (AA K CF):=by
 refine cX D gq (λf cdv A outer s H vs Q E hr h=>?_)
 obtain⟨a,ns,rfl,hS,n6,q1,q2⟩:=h
 obtain⟨gt,g_FARTHEST⟩:=g_FARTHEST
 have nd:=gq.nd
 refine⟨_,(ak (bp (PW.pt (rm (b9 (pv 0) (λ_=>rfl)) (mU (aA jf (aD (lg rfl) rfl n_max L2.boot_max (aa (pv 0) ag)) (zA (v:=.int 1000000) rfl g_FARTHEST ⟨_,rfl⟩) (aE _))))) (ak (hJ (wQ x_TooFar (hr.mono (by decide)) rfl (aa (aD (lg rfl) rfl n_max L2.boot_max (aa (pv 0) ag)) ag)))) aK)),?_⟩
 show BS _ _ _ _ [some (.ref a)] H
 k_data
 refine⟨!(ns.map V.int).isEmpty,.inl ⟨_,hS,rfl⟩,bV (λc=>?_) (λc=>?_)⟩
 ·have ne:ns≠[]:=λz=>by rw [z] at c;cases c
  refine⟨a,ns,rfl,hS,ne,λm hm hM=>⟨m,rfl,bV (λc1=>⟨a,ns,rfl,hS,ne,λm' hm' hM' x dx hx hdx nx=>?_⟩) (λc1=>q1 λn hn=>by have:=hM n hn;omega)⟩⟩
  have:m'=m:=by have h1:=hM m' hm';have h2:=hM' m hm;omega
  subst this
  exact tM x_TooFar.cls (ax.refl _) hx hdx nx (q2 m' hm hM (by omega))
 ·refine q1 λn hn=>?_
  cases ns with
  | nil=>cases hn
  | cons y r=>exact absurd rfl c
end
end K
namespace L2
open PySem PySem.Spec PyProof.Rows
theorem qu {X:Cx} (K:PySem.W.Frag) (h:X.K=K):cL X (.builtin "len") (zJ K):=h▸aU
end L2
namespace K
open PySem PySem.Spec PyProof.Rows L2
section
variable {P:Program} {w:World} {K:PySem.W.Frag} {mg:Str->Option Value} {base:Heap} {C:Addr}
structure A3 (e:Nat) (ps:List (Int × Int)):Prop where
 ok:∀ y∈ps,Num.Pm y.1/\y.1<=10^6/\1<=y.2/\y.2<=1000
 ne:ps.Pairwise (λx y=>x.1≠y.1)
 eq:Num.eN ps=e
 len:ps.length<=12
theorem iJ:∀{ps:List (Int × Int)} {y:Int × Int},y∈ps->y.1.toNat^y.2.toNat∣Num.eN ps
 | p::r,y,h=>by
  show _∣p.1.toNat^p.2.toNat*Num.eN r
  rcases List.mem_cons.mp h with rfl | h
  ·exact Nat.dvd_mul_right _ _
  ·exact Nat.dvd_trans (iJ h) (Nat.dvd_mul_left _ _)
theorem vz {z:Nat}:∀{ps:List (Int × Int)},(∀ y∈ps,Num.Pm y.1)->ps.Pairwise (λx y=>x.1≠y.1)->(∀ y∈ps,y.1.toNat^y.2.toNat∣z)->Num.eN ps∣z
 | [],_,_,_=>Nat.one_dvd _
 | p::r,h,ne,hd=>by
  show p.1.toNat^p.2.toNat*Num.eN r∣z
  obtain⟨n1,n2⟩:=List.pairwise_cons.mp ne
  have co:=Num.vA (b:=r) (λy hy=>h y (List.mem_cons_of_mem _ hy)) [p] (λy hy=>by rw [List.mem_singleton.mp hy];exact h p (List.mem_cons_self ..)) λx hx y hy=>by rw [List.mem_singleton.mp hx];exact (n1 y hy).symm
  have e1:Num.eN [p]=p.1.toNat^p.2.toNat:=Nat.mul_one _
  rw [e1] at co
  exact co.mul_dvd_of_dvd_of_dvd (hd p (List.mem_cons_self ..)) (vz (λy hy=>h y (List.mem_cons_of_mem _ hy)) n2 λy hy=>hd y (List.mem_cons_of_mem _ hy))
def uQ (x:Nat) (y:Int × Int):Int × Int:=(((y.1.toNat^y.2.toNat:Nat):Int),((x%y.1.toNat^y.2.toNat:Nat):Int))
theorem rg {x:Nat} {y:Int × Int}:(uQ x y).1∣(x:Int)-(uQ x y).2:=by
 show ((y.1.toNat^y.2.toNat:Nat):Int)∣(x:Int)-((x%y.1.toNat^y.2.toNat:Nat):Int)
 have h:=Nat.div_add_mod x (y.1.toNat^y.2.toNat)
 refine⟨((x/y.1.toNat^y.2.toNat:Nat):Int),?_⟩
 rw [<- Int.natCast_mul]
 omega
theorem zY {e x:Nat} {ps:List (Int × Int)} (h:A3 e ps) (hx:x<e):Crt.Told (ps.map (uQ x)) e x where
 pos:=by omega
 x0:=by omega
 x1:=by omega
 dv:=λp hp=>by
  obtain⟨y,hy,rfl⟩:=List.mem_map.mp hp
  rw [<- h.eq]
  exact Int.natCast_dvd_natCast.mpr (iJ hy)
 le:=λz hz=>by
  rw [<- h.eq]
  refine Int.ofNat_dvd_left.mpr (vz (λy hy=>(h.ok y hy).1) h.ne λy hy=>?_)
  exact Int.ofNat_dvd_left.mp (hz _ (List.mem_map.mpr ⟨y,hy,rfl⟩))
 al:=λp hp=>by
  obtain⟨y,hy,rfl⟩:=List.mem_map.mp hp
  exact rg
theorem v9 {x:Nat} {ps:List (Int × Int)} {i j:Nat}:¬Ap (ps.map (uQ x)) i j:=fun⟨p,q,g,e1,e2,G,nd⟩=>by
 rw [List.getElem?_map] at e1 e2
 obtain⟨y,_,rfl⟩:=Option.map_eq_some_iff.mp e1
 obtain⟨y',_,rfl⟩:=Option.map_eq_some_iff.mp e2
 have h1:=Int.dvd_trans G.da (rg (x:=x) (y:=y))
 have h2:=Int.dvd_trans G.db (rg (x:=x) (y:=y'))
 have:=Int.dvd_sub h2 h1
 rw [show (x:Int)-(uQ x y').2-((x:Int)-(uQ x y).2)=(uQ x y).2-(uQ x y').2 by omega] at this
 exact nd this
def BN (x:Nat) (y:Int × Int):PyData:=.tuple [.int y.1,.tuple (((Num.cR x y.1.toNat y.2.toNat).map λd:Nat=>(d:Int)).map PyData.int)]
theorem v7:∀ ns:List Int,eV (ns.map PyData.int)=true:=fk λ_=>rfl
theorem v8 {x:Nat} {y:Int × Int}:v5 (BN x y)=true:=by
 show eV [.int y.1,.tuple (((Num.cR x y.1.toNat y.2.toNat).map λd:Nat=>(d:Int)).map PyData.int)]=true
 have:=v7 ((Num.cR x y.1.toNat y.2.toNat).map λd:Nat=>(d:Int))
 show (true && (eV (((Num.cR x y.1.toNat y.2.toNat).map λd:Nat=>(d:Int)).map PyData.int) && true))=true
 rw [this]
 rfl
def iV (k:KH) (p b:Int) (e x:Nat) (ps:List (Int × Int)):KH:=ps.foldl (λk y=>vm k p b e y.1.toNat x y.2.toNat) k
theorem oh {H:Hp}:∀{ns:List Int} {ds:List V},aF K H (ns.map PyData.int) ds->ds=ns.map V.int
 | [],_,h=>h
 | n::ns,_,⟨x,r,e,h,t⟩=>by
  subst e
  rw [oh t,show x=V.int n from h]
  rfl
theorem mZ {p b:Int} {e x:Nat}:∀(ps:List (Int × Int)) (k:KH),(iV k p b e x ps).a=k.a/\(iV k p b e x ps).d=k.d/\(iV k p b e x ps).most=k.most
 | [],k=>⟨rfl,rfl,rfl⟩
 | y::r,k=>mZ r (vm k p b e y.1.toNat x y.2.toNat)
theorem lV {k:KH} {p b:Int} {e x:Nat} {ps:List (Int × Int)} {y:Int × Int}:iV k p b e x (ps++[y])=vm (iV k p b e x ps) p b e y.1.toNat x y.2.toNat:=by
 unfold iV
 rw [List.foldl_append]
 rfl
def DI (C:Addr) (ko:Option KH) (v:V) (H:Hp):Prop:=match ko with
 | none=>v=.non
 | some k=>v=.ref k.a/\bW C k H/\sV k
def Ab (C:Addr) (ko:Option KH) (f:KH->KH) (H H':Hp):Prop:=match ko with
 | none=>ax H H'
 | some k=>dN k.a k.d H H'/\bW C (f k) H'/\sV (f k)
def D9 (x e:Nat) (ps:List (Int × Int)):PyData:=.tuple [.int x,.tuple [.str "is",.int e,.tuple (ps.map (BN x))]]
def pS (K:PySem.W.Frag) (C:Addr):Sp:=λvs H Q _=>∃(p b a:Int) (e x:Nat) (vo vk:V) (rows:List PyData) (ps:List (Int × Int)) (ko:Option KH),vs=[.int p,.int b,.int a,vo,vk]/\dv K H (.tuple [.int e,.tuple rows]) vo/\sU rows ps/\A3 e ps/\DI C ko vk H/\2<=p/\p<=10^60 /\ -(10^60)<=a/\a<=10^60/\Num.Ord p b e/\e<=10^18/\x<e/\Num.Al p a (b^x) /\
 ∀ u H',Ab C ko (λk=>iV k p b e x ps) H H'->dv K H' (D9 x e ps) u->Q u H'
def EL (K:PySem.W.Frag) (C:Addr) (k:KH) (p b:Int) (e x:Nat) (ps:List (Int × Int)) (H1:Hp) (i:Nat) (zs:List V) (H3:Hp):Prop:=dN k.a k.d H1 H3/\bW C (iV k p b e x (ps.take i)) H3/\sV (iV k p b e x (ps.take i))/\aF K H3 ((ps.take i).map (BN x)) zs
theorem lU:av ["p","b","a","order_paper","kept","e","parts","keeper","rows","places"] ["p","b","a","order_paper","kept"] (aj (top 34)):=dG
theorem ur (D:ay K mg "sought" (top 34)) (cl_Kept:kU K C) (o_Kept:B8 K mg "Kept" C) (c_Kept___init__:bX P w K mg base aO 1 C "__init__" ["self","most"] (sD C)) (c_digits:Callee P w K mg base aO 5 "digits" ["p","b","a","part","keeper"] (pN K C)) (c_parting_inG:Callee P w K mg base aO 1 "parting_in" ["parts"] (sG K)) (c_whole_of:Callee P w K mg base aO 1 "whole_of" ["parting"] (nq K)) (c_number_ofT:Callee P w K mg base aO 1 "number_of" ["q","row"] (xC K)) (c_put_together:Callee P w K mg base aO 5 "put_together" ["places"] (xE K)) (n_len:mg "len"=none) (n_tuple:mg "tuple"=none):Callee P w K mg base aO 6 "sought" ["p","b","a","order_paper","kept"] (pS K C):=by
 refine cO D lU (λf cdv A outer s H vs Q E hr h=>?_)
 obtain⟨p,b,a,e,x,vo,vk,rows,ps,ko,rfl,hvo,hds,oR,pre,p2,p9,a0,a1,o,e18,xe,al,q⟩:=h
 have nd:=lU.nd
 refine⟨_,(ae (fv (pv 3) (cz (n:=2) rfl (aw (aq (i:=5) nd rfl (Or.inr rfl) (.inl rfl)) (aw (aq (i:=6) nd rfl (Or.inl rfl) (.inr rfl)) aP)))) (ae (gE (iU (i:=7) nd rfl (Or.inr rfl) (kg (aA qX (pv 4) dQ (aE _)) (wL o_Kept c_Kept___init__ (hr.mono (by decide)) rfl aC (aa ah ag)) (pv 4)))) (ae (bG (i:=8) nd (bY bR rfl n_tuple L2.boot_tuple (aa (gf rfl (nP (N':=["q","many","p","b","a","keeper","e"]) (js:=[none,none,some 0,some 1,some 2,some 7,some 5]) rfl rfl) (bo (cw c_parting_inG hr aC (aa (pv 6) ag))) (λ_ _ _ _=>(dD K rfl (n:=2) rfl (aw (aq (i:=0) (show List.Nodup [("q":Str),("many":Str),("p":Str),("b":Str),("a":Str),("keeper":Str),("e":Str)] from by decide +kernel) rfl (Or.inl rfl) (.inr rfl)) (aw (aq (i:=1) (show List.Nodup [("q":Str),("many":Str),("p":Str),("b":Str),("a":Str),("keeper":Str),("e":Str)] from by decide +kernel) rfl (Or.inl rfl) (.inr rfl)) aP)))) (λ_ _ _ _=>aS) (λ_ _ _ _=>(aG (aa (pv 0) (aa (cw c_digits hr aC (aa (pv 2) (aa (pv 3) (aa (pv 4) (aa (aG (aa (pv 6) (aa (pv 0) (aa (pv 1) ag)))) (aa (pv 5) ag)))))) ag))))) ag))) (ae (hZ (i0:=9) nd rfl (Or.inl rfl) rfl (nP (N':=["q","row"]) (js:=[none,none]) rfl rfl) (iT (pv 8)) (λ_ _ _ _=>(dD K rfl (n:=2) rfl (aw (aq (i:=0) (show List.Nodup [("q":Str),("row":Str)] from by decide +kernel) rfl (Or.inl rfl) (.inr rfl)) (aw (aq (i:=1) (show List.Nodup [("q":Str),("row":Str)] from by decide +kernel) rfl (Or.inl rfl) (.inr rfl)) aP)))) (λ_ _ _ _=>aS) (λ_ _ _ _=>(aG (aa (cw c_whole_of hr aC (aa (dt (aa (aG (aa (pv 0) (aa (aD (qu K rfl) rfl n_len PySem.boot_len (aa (pv 1) ag)) ag))) ag)) ag)) (aa (cw c_number_ofT hr aC (aa (pv 0) (aa (pv 1) ag))) ag)))) (by rfl) (by first | exact .inl rfl | exact .inr rfl)) (ak (az (aG (aa (aB aV (cw c_put_together hr aC (aa (pv 9) ag)) ah (λ_ _=>rfl)) (aa (aG (aa bI (aa (pv 5) (aa (pv 8) ag)))) ag))))))))),?_⟩
 show bJ _ _ _ [some (.int p),some (.int b),some (.int a),some vo,some vk,none,none,none,none,none] H
 obtain⟨po,ys,rfl,hSo,ve,r1,rfl,h1,vr,r2,rfl,hvr,z⟩:=hvo
 cases z
 cases h1
 k_data
 refine⟨po,_,rfl,hSo,rfl,?_⟩
 k_data
 refine⟨λσ' H'=>∃ k:KH,σ'=[some (.int p),some (.int b),some (.int a),some (.ref po),some vk,some (.int (e:Int)),some vr,some (.ref k.a),none,none]/\bW C k H'/\sV k/\ax H H'/\∀ H2,dN k.a k.d H' H2->bW C (iV k p b e x ps) H2->sV (iV k p b e x ps)->Ab C ko (λk=>iV k p b e x ps) H H2,?_,?_⟩
 ·k_data
  cases ko with
  | none =>
   have pre':vk=.non:=pre
   rw [if_pos pre']
   intro x' dx hx hdx ne
   have S:ax H (upd (upd H dx (.own x')) x' (.ins C dx [])):=(ai hdx).upd hx
   refine⟨x',dx,1,rfl,af,by decide,by decide,λd H2 keep ndx fd kp=>?_⟩
   have S2:ax H H2:=λb o eb=>keep b o (λz=>by rw [z,hx] at eb;cases eb) (S b o eb)
   have hd:H d=none:=by
    rw [ao ndx] at fd
    by_cases z:d=dx
    ·rw [z];exact hdx
    ·rw [ao z] at fd;exact fd
   refine⟨rfl,⟨x',dx,d,1,0,[]⟩,rfl,kp,by show (0:Int)<=1;decide,S2,λH3 b3 _ _ b o eb=>b3 b o (λz=>by rw [z,hx] at eb;cases eb) (λz=>by rw [z,hd] at eb;cases eb) (S2 b o eb)⟩
  | some k =>
   obtain⟨rfl,kp,le⟩:=pre
   rw [if_neg (by intro z;cases z)]
   exact⟨k,rfl,kp,le,ax.refl _,λH2 b kp' le'=>⟨b,kp',le'⟩⟩
 ·rintro σ' H1 ⟨k,rfl,kp,le,s1,post⟩
  k_data
  have rl:=hds.1
  have pl12:=oR.len
  refine⟨vr,rows,ps,rfl,dv.same s1 _ hvr,hds,by omega,λpl us H2 s2 fpl epl hus=>⟨pl,rfl,⟨_,aM.of epl⟩,?_⟩⟩
  have kp2:=kp.same s2
  have ul:us.length=ps.length:=by rw [hus.length,List.length_map]
  refine bA (xs:=us) (λi zs H3=>EL K C k p b e x ps H2 i zs H3) ⟨dN.refl,kp2,le,rfl⟩ (Nat.le_trans (show us.length<=12 by omega) (by decide)) (λi zs H3 hi ⟨z1,z2,z3,z4⟩=>⟨aM.of (kp2.keep z1 epl),by rw [z4.length,List.length_map,List.length_take];omega⟩) ?_ ?_
  ·rintro i v zs H3 hx ⟨b3,kp3,le3,hz⟩
   obtain⟨d,hd',hv⟩:=hus.get hx
   rw [List.getElem?_map] at hd'
   obtain⟨⟨q',t'⟩,hy,rfl⟩:=Option.map_eq_some_iff.mp hd'
   obtain⟨pt,rfl,tt⟩:=iI hv
   obtain⟨pm,q6,t1,t9⟩:=oR.ok _ (List.mem_of_getElem? hy)
   have dE:=iJ (List.mem_of_getElem? hy)
   rw [oR.eq] at dE
   replace pm:Num.Pm q':=pm
   replace q6:q'<=10^6:=q6
   replace t1:1<=t':=t1
   replace t9:t'<=1000:=t9
   have q2:=pm.two
   obtain⟨qn,rfl⟩:∃ n:Nat,q'=n:=⟨q'.toNat,by omega⟩
   obtain⟨tn,rfl⟩:∃ n:Nat,t'=n:=⟨t'.toNat,by omega⟩
   replace dE:qn^tn∣e:=dE
   have kps:=kp2.dk b3
   obtain⟨sa,sd,sm⟩:=mZ (p:=p) (b:=b) (e:=e) (x:=x) (ps.take i) k
   refine⟨pt,_,rfl,tt.dk kps,rfl,?_⟩
   show ly (b8 0) (ly (b8 1) yI) _ [none,none,some (.int p),some (.int b),some (.int a),some (.ref k.a),some (.int (e:Int))] _ _
   k_data
   refine⟨⟨rfl,rfl,rfl,rfl,rfl,True.intro⟩,by show 3<=sizeLine;decide,λp4 hp4=>?_⟩
   have s4:=ai (o:=.tup [V.int (e:Int),V.int (qn:Int),V.int (tn:Int)]) hp4
   refine⟨iV k p b e x (ps.take i),p,b,a,e,qn,tn,x,p4,by rw [sa],bE.of af,kp3.same s4,le3,p2,p9,a0,a1,o,by omega,xe,al,by omega,by omega,by omega,by omega,dE,λt H5 kp5 b5 ft ht=>⟨by show 2<=sizeLine;decide,λp6 hp6=>?_⟩⟩
   rw [sa,sd] at b5
   have s6:=ai (o:=.tup [V.int (qn:Int),V.ref t]) hp6
   have e1:ps.take (i+1)=ps.take i++[((qn:Int),(tn:Int))]:=by rw [List.take_add_one,hy];rfl
   have bb:dN k.a k.d H3 (upd H5 p6 (.tup [V.int (qn:Int),V.ref t])):=(dN.of s4).trans (b5.trans (dN.of s6))
   refine⟨b3.trans bb,?_,?_,?_⟩
   ·rw [e1,lV]
    exact kp5.same s6
   ·rw [e1,lV]
    exact (le3.use kp3.m0).add
   ·rw [e1,List.map_append]
    have kk:∀ a xs,Rd H3 a (.tup xs)->Rd (upd H5 p6 (.tup [V.int (qn:Int),V.ref t])) a (.tup xs):=λc xs z=>kp3.dk (by rw [sa,sd];exact bb) c xs z
    refine aF.append (aF.dk kk _ (fk (λ_=>v8) _) hz) (.one (dv.tup af ⟨_,_,rfl,rfl,.one (dv.tup (s6 _ _ ht) ?_)⟩))
    have:=aF.ints (K:=K) (H:=upd H5 p6 (.tup [V.int (qn:Int),V.ref t])) ((Num.cR x qn tn).map λd:Nat=>(d:Int))
    rw [List.map_map (f:=λd:Nat=>(d:Int)) (g:=V.int)] at this
    exact this
  ·rintro zs H3 p3 ⟨b3,kp3,le3,hz⟩ hp3
   rw [show us.length=ps.length from ul,List.take_length] at hz kp3 le3
   obtain⟨sa,sd,sm⟩:=mZ (p:=p) (b:=b) (e:=e) (x:=x) ps k
   refine⟨p3,rfl,zs,.inl ⟨aM.of af,λl hl=>⟨⟨_,bE.of af⟩,?_⟩⟩⟩
   have S4:ax H3 (upd (upd H3 p3 (.lst zs)) l (.tup zs)):=(ai hp3).trans (ai hl)
   have el:upd (upd H3 p3 (.lst zs)) l (.tup zs) l=some (.tup zs):=af
   generalize upd (upd H3 p3 (.lst zs)) l (.tup zs)=H4 at *
   have hz4:=aF.same S4 _ hz
   have zl:zs.length=ps.length:=by rw [hz.length,List.length_map]
   refine fN (xs:=zs) (λi ws H5=>ax H4 H5/\aF K H5 ((ps.take i).map λy=>dy (uQ x y)) ws) ⟨ax.refl _,rfl⟩ (Nat.le_trans (show zs.length<=12 by omega) (by decide)) (λi ws H5 hi ⟨z1,z2⟩=>⟨bE.of (z1 _ _ el),by rw [z2.length,List.length_map,List.length_take];omega⟩) ?_ ?_
   ·rintro i v ws H5 hx ⟨s5,hw⟩
    obtain⟨d,hd',hv⟩:=hz4.get hx
    rw [List.getElem?_map] at hd'
    obtain⟨⟨q',t'⟩,hy,rfl⟩:=Option.map_eq_some_iff.mp hd'
    obtain⟨pm,q6,t1,t9⟩:=oR.ok _ (List.mem_of_getElem? hy)
    have dE:=iJ (List.mem_of_getElem? hy)
    rw [oR.eq] at dE
    replace pm:Num.Pm q':=pm
    replace q6:q'<=10^6:=q6
    replace t1:1<=t':=t1
    replace t9:t'<=1000:=t9
    have q2:=pm.two
    obtain⟨qn,rfl⟩:∃ n:Nat,q'=n:=⟨q'.toNat,by omega⟩
    obtain⟨tn,rfl⟩:∃ n:Nat,t'=n:=⟨t'.toNat,by omega⟩
    replace dE:qn^tn∣e:=dE
    obtain⟨pr,ys,rfl,hSr,v1,r1,rfl,f1,v2,r2,rfl,⟨pd,ds,rfl,hSd,hdd⟩,z⟩:=hv
    cases z
    cases f1
    have ed:=oh hdd
    rw [List.map_map] at ed
    replace ed:ds=(Num.cR x qn tn).map λd:Nat=>V.int (d:Int):=ed
    subst ed
    have dl:=Num.gN (x:=x) (q:=qn) (n:=tn)
    refine⟨pr,_,rfl,hSr.same s5,rfl,?_⟩
    show ly (b8 0) (ly (b8 1) yI) _ [none,none] _ _
    k_data
    refine⟨True.intro,jJ (hSd.same s5) ?_⟩
    rw [List.length_map,dl]
    refine⟨by show 2<=sizeLine;decide,λp6 hp6=>⟨by show 1<=sizeLine;decide,λp7 hp7=>?_⟩⟩
    have s6:=ai (o:=.tup [V.int (qn:Int),V.int (tn:Int)]) hp6
    have s7:=ai (o:=.lst [V.ref p6]) hp7
    have e6:=s7 _ _ (show upd H5 p6 (.tup [V.int (qn:Int),V.int (tn:Int)]) p6=_ from af)
    have e7:upd (upd H5 p6 (.tup [V.int (qn:Int),V.int (tn:Int)])) p7 (.lst [V.ref p6]) p7=some (.lst [V.ref p6]):=af
    have S7:=s6.trans s7
    generalize upd (upd H5 p6 (.tup [V.int (qn:Int),V.int (tn:Int)])) p7 (.lst [V.ref p6])=H7 at *
    have eN1:Num.eN [((qn:Int),(tn:Int))]=qn^tn:=Nat.mul_one _
    have qe:qn^tn<=e:=Nat.le_of_dvd (by omega) dE
    refine⟨p7,[V.ref p6],[((qn:Int),(tn:Int))],rfl,e7,.one (dv.tup e6 ⟨_,_,rfl,rfl,.one rfl⟩),λy hy=>by rw [List.mem_singleton.mp hy];exact⟨q2,by omega,by show (tn:Int)<=10^6;omega⟩,by rw [eN1];omega,λH8 s8=>?_⟩
    rw [eN1]
    have S8:=(s5.trans S7).trans s8
    refine⟨qn,x,tn,pd,rfl,by omega,by omega,Nat.le_trans (Nat.mod_le _ _) (by omega),by omega,hSd.same S8,λH9 s9=>⟨by show 2<=sizeLine;decide,λp9 hp9=>?_⟩⟩
    have s10:=ai (o:=.tup [V.int ((qn^tn:Nat):Int),V.int ((x%qn^tn:Nat):Int)]) hp9
    have S10:=((S7.trans s8).trans s9).trans s10
    refine⟨s5.trans S10,?_⟩
    rw [List.take_add_one,hy,List.map_append]
    exact aF.append (aF.same S10 _ hw) (.one (dv.tup af ⟨_,_,rfl,rfl,.one rfl⟩))
   ·rintro ws H5 p5 ⟨s5,hw⟩ hp5
    rw [show zs.length=ps.length from zl,List.take_length] at hw
    have s6:=ai (o:=.lst ws) hp5
    have hw6:=aF.same s6 _ hw
    rw [show (ps.map λy=>dy (uQ x y))=(ps.map (uQ x)).map dy from by rw [List.map_map];rfl] at hw6
    refine⟨p5,ws,ps.map (uQ x),rfl,aM.of af,hw6,λy hy=>?_,by rw [List.length_map];exact pl12,λi j _ _ _ ap=>absurd ap v9,λW N pw H7 _ told _ s7 fw ew=>?_⟩
    ·obtain⟨y',hy',rfl⟩:=List.mem_map.mp hy
     have dE:=iJ hy'
     rw [oR.eq] at dE
     have qe:y'.1.toNat^y'.2.toNat<=e:=Nat.le_of_dvd (by omega) dE
     have q0:0<y'.1.toNat^y'.2.toNat:=Nat.pos_of_dvd_of_pos dE (by omega)
     have xm:x%y'.1.toNat^y'.2.toNat<=x:=Nat.mod_le _ _
     show 0<((y'.1.toNat^y'.2.toNat:Nat):Int)/\((y'.1.toNat^y'.2.toNat:Nat):Int)<=10^18 /\ -(10^80)<=((x%y'.1.toNat^y'.2.toNat:Nat):Int)/\((x%y'.1.toNat^y'.2.toNat:Nat):Int)<=10^80
     generalize x%y'.1.toNat^y'.2.toNat=z1 at *
     generalize y'.1.toNat^y'.2.toNat=z2 at *
     omega
    ·obtain⟨eW,eN⟩:=told.one (zY oR xe)
     subst eW
     subst eN
     refine br (bE.of ew) Ad ⟨by show 3<=sizeLine;decide,λp8 hp8=>⟨by show 2<=sizeLine;decide,λp9 hp9=>?_⟩⟩
     have s8:=ai (o:=.tup [V.str "is",V.int (e:Int),V.ref l]) hp8
     have s9:=ai (o:=.tup [V.int (x:Int),V.ref p8]) hp9
     have SS:=(((S4.trans s5).trans s6).trans s7).trans (s8.trans s9)
     have S5:=((s5.trans s6).trans s7).trans (s8.trans s9)
     refine q _ _ (post _ ((dN.of s2).trans (b3.trans (dN.of SS))) (kp3.same SS) le3) (dv.tup af ⟨_,_,rfl,rfl,.one (dv.tup (s9 _ _ af) ⟨_,_,rfl,rfl,_,_,rfl,rfl,.one (dv.tup (S5 _ _ el) (aF.same S5 _ hz4))⟩)⟩)
theorem lE {ps:List (Int × Int)} {ds:Nat->PyData} {ts:List Int} (hr:ps.Pairwise λa b=>a.1<b.1) (hl:ts.length=ps.length):∀ n,n<=ps.length->((bT ps ds ts n).map kp).Pairwise (λa b=>a.1<b.1)/\∀ y∈(bT ps ds ts n).map kp,∃ i,i<n/\(ps[i]?).map (·.1)=some y.1
 | 0,_=>⟨.nil,λy hy=>by cases hy⟩
 | n+1,h=>by
  obtain⟨r,m⟩:=lE (ds:=ds) hr hl n (by omega)
  have hp:ps[n]?=some (ps[n].1,ps[n].2):=List.getElem?_eq_getElem (by omega)
  have ht:ts[n]?=some ts[n]:=List.getElem?_eq_getElem (by omega)
  rw [fg hp ht,List.map_append]
  by_cases c:0<ts[n]
  ·rw [if_pos c]
   refine⟨List.pairwise_append.mpr ⟨r,List.pairwise_singleton _ _,λa ha b hb=>?_⟩,λy hy=>?_⟩
   ·obtain⟨i,hi,ei⟩:=m a ha
    obtain⟨z,e1,e2⟩:=Option.map_eq_some_iff.mp ei
    rw [List.mem_singleton.mp hb,<- e2]
    have hz:ps[i]=z:=by rw [List.getElem?_eq_getElem (show i<ps.length by omega)] at e1;exact Option.some.inj e1
    have:=List.pairwise_iff_getElem.mp hr i n (by omega) (by omega) hi
    rw [hz] at this
    exact this
   ·rcases List.mem_append.mp hy with z | z
    ·obtain⟨i,hi,e⟩:=m y z
     exact⟨i,by omega,e⟩
    ·rw [List.mem_singleton.mp z]
     exact⟨n,by omega,by rw [hp];rfl⟩
  ·rw [if_neg c,List.map_nil,List.append_nil]
   exact⟨r,λy hy=>let ⟨i,hi,e⟩:=m y hy;⟨i,by omega,e⟩⟩
theorem tY {p a:Int} {e:Nat} {ps:List (Int × Int)} {ds:Nat->PyData} {ts:List Int} (hP:Num.Part (p-1) ps) (to:Num.TO p a ps ts) (o:Num.Ord p a e) (e9:e<=10^9):Num.Part e ((fe ps ds ts).map kp):=by
 have e1:=iN (ds:=ds) to.len to.nn ps.length (Nat.le_refl _)
 rw [List.take_of_length_le (by rw [List.length_zip,List.length_map];omega),to.ord.iS o] at e1
 have hm:∀ y∈(fe ps ds ts).map kp,Num.Pm y.1/\1<=y.2:=λy hy=>by
  obtain⟨z,hz,rfl⟩:=List.mem_map.mp hy
  obtain⟨i,k,h1,h2,h3,_⟩:=gv hz
  exact⟨(hP.ok _ (List.mem_of_getElem? h1)).1,by show 1<=z.2.2;omega⟩
 refine⟨λy hy=>⟨(hm y hy).1,(hm y hy).2,?_⟩,(lE hP.rise to.len ps.length (Nat.le_refl _)).1,?_⟩
 ·have hd:=iJ hy
  have e1':Num.eN ((fe ps ds ts).map kp)=e:=e1
  rw [e1'] at hd
  have h1:=Nat.le_of_dvd o.pos hd
  have q2:=(hm y hy).1.two
  have h2:2^y.2.toNat<=y.1.toNat^y.2.toNat:=Nat.pow_le_pow_left (by omega) _
  rcases Nat.lt_or_ge 30 y.2.toNat with z | z
  ·have:=Nat.pow_le_pow_right (show 0<2 by decide) (show 31<=y.2.toNat by omega)
   have h3:(2:Nat)^31<=10^9:=Nat.le_trans this (Nat.le_trans h2 (Nat.le_trans h1 e9))
   exact absurd h3 (by decide)
  ·omega
 ·rw [<- Num.fP _ λy hy=>(hm y hy).1]
  exact congrArg _ e1
def asc:Nat->Nat->Nat
 | _,0=>1
 | lo,n+1=>lo*asc (lo+1) n
theorem oP:∀{ps:List (Int × Int)} {lo:Nat},(∀ y∈ps,(lo:Int)<=y.1/\2<=y.1/\1<=y.2)->ps.Pairwise (λa b=>a.1<b.1)->asc lo ps.length<=Num.eN ps
 | [],_,_,_=>Nat.le_refl _
 | p::r,lo,h,hr=>by
  obtain⟨h1,h2,h3⟩:=h p (List.mem_cons_self ..)
  obtain⟨r1,r2⟩:=List.pairwise_cons.mp hr
  show lo*asc (lo+1) r.length<=p.1.toNat^p.2.toNat*Num.eN r
  refine Nat.mul_le_mul ?_ (oP (λy hy=>?_) r2)
  ·exact Nat.le_trans (show lo<=p.1.toNat by omega) (Nat.le_self_pow (by omega) _)
  ·have:=h y (List.mem_cons_of_mem _ hy)
   have:=r1 y hy
   omega
theorem nE:∀(n:Nat) {m lo:Nat},0<lo->n<=m->asc lo n<=asc lo m
 | 0,m,lo,l0,_=>by
  have:∀(m lo:Nat),0<lo->1<=asc lo m:=by
   intro m
   induction m with
   | zero=>intro _ _;exact Nat.le_refl _
   | succ m ih=>intro lo l0;exact Nat.mul_pos l0 (ih (lo+1) (by omega))
  exact this m lo l0
 | n+1,0,_,_,h=>absurd h (by omega)
 | n+1,m+1,lo,l0,h=>Nat.mul_le_mul_left lo (nE n (by omega) (by omega))
theorem oQ {e:Nat} {ps:List (Int × Int)} (h:Num.Part e ps) (e9:e<=10^9):ps.length<=12:=by
 have h1:=oP (lo:=2) (λy hy=>⟨(h.ok y hy).1.two,(h.ok y hy).1.two,(h.ok y hy).2.1⟩) h.rise
 have h2:Num.eN ps=e:=by
  have:=Num.fP ps λy hy=>(h.ok y hy).1
  rw [h.prod] at this
  omega
 rcases Nat.lt_or_ge 12 ps.length with z | z
 ·have h3:asc 2 13<=asc 2 ps.length:=nE 13 (by decide) z
  exact absurd (Nat.le_trans h3 (Nat.le_trans h1 (by rw [h2];exact e9))) (by decide)
 ·exact z
theorem ux {e:Nat} {ps:List (Int × Int)} (h:Num.Part e ps) (e9:e<=10^9) (h6:∀ y∈ps,y.1<=10^6):A3 e ps where
 ok:=λy hy=>by
  obtain⟨a,b,c⟩:=h.ok y hy
  exact⟨a,h6 y hy,b,by omega⟩
 ne:=h.rise.imp λz=>by omega
 eq:=by
  have:=Num.fP ps λy hy=>(h.ok y hy).1
  rw [h.prod] at this
  omega
 len:=oQ h e9
theorem AS.pre {CN:Addr} {H H1:Hp} {E:XK} (s:ax H H1) (h:AS CN H E):AS CN H1 E:=λx H' s' f e=>h x H' (s.trans s') (s.free f) e
end
end K
namespace K
open PySem PySem.Spec PyProof.Rows L2
section
variable {P:Program} {w:World} {K:PySem.W.Frag} {mg:Str->Option Value} {base:Heap}
theorem qz {H:Hp} {d1 d2:PyData} {v:V} (h:dv K H (.tuple [d1,d2]) v):∃ p x1 x2,v=.ref p/\bE K H p [x1,x2]/\dv K H d1 x1/\dv K H d2 x2:=by
 obtain⟨p,xs,rfl,h1,x1,r1,rfl,e1,x2,r2,rfl,e2,z⟩:=h
 cases z
 exact⟨p,x1,x2,rfl,h1,e1,e2⟩
structure iH (ps:List Int) (ds:List PyData):Prop where
 len:ds.length=ps.length
 pap:∀(i:Nat) p d,ps[i]?=some p->ds[i]?=some d->Num.i5 p d
theorem iH.at {ps:List Int} {ds:List PyData} (h:iH ps ds) {H:Hp} {us:List V} (hd:aF K H ds us) {i:Nat} {x:V} (hx:us[i]?=some x):∃ p g rows,ps[i]?=some p/\Num.i5 p (.tuple [.int p,.int g,rows])/\dv K H (.tuple [.int p,.int g,rows]) x:=by
 obtain⟨d,h1,h2⟩:=hd.get hx
 have hi:=(List.getElem?_eq_some_iff.mp h1).1
 rw [h.len] at hi
 have hp:=List.getElem?_eq_getElem hi
 have hP:=h.pap i _ d hp h1
 obtain⟨g,qs,ds0,rfl,_⟩:=r8 hP
 exact⟨_,g,_,hp,hP,h2⟩
theorem iH.pm {ps:List Int} {ds:List PyData} (h:iH ps ds) {p:Int} (hp:p∈ps):Num.Pm p/\p<=10^9:=by
 obtain⟨i,hi,e⟩:=List.mem_iff_getElem.mp hp
 have hl:=h.len
 exact j9 (h.pap i p _ (by rw [<- e];exact List.getElem?_eq_getElem hi) (List.getElem?_eq_getElem (by omega)))
end
end K
namespace K
open PySem PySem.Spec PyProof.Rows L2
section
variable {P:Program} {w:World} {K:PySem.W.Frag} {mg:Str->Option Value} {base:Heap} {C:Addr}
def DP (i j:Nat) (y z:Int × Int):PyData:=.tuple [.none,.tuple [.str "apart",.int i,.int j,dy y,dy z]]
def Em (x:Int) (pls:List (Int × Int)):PyData:=.tuple [.int x,.tuple [.str "by",.tuple (pls.map dy)]]
structure B6 (pls:List (Int × Int)) (i j:Nat) (y z:Int × Int):Prop where
 lt:i<j
 ap:Ap pls i j
 no:∀ i' j',i'<j'->(i'<i∨(i'=i/\j'<j))->¬Ap pls i' j'
 Ad:pls[i]?=some y
 at2:pls[j]?=some z
def pQ (K:PySem.W.Frag):Sp:=λvs H Q _=>∃(a:Addr) (us:List V) (pls:List (Int × Int)),vs=[.ref a]/\aM K H a us/\aF K H (pls.map dy) us/\(∀ p∈pls,yX p)/\pls.length<=12/\(∀ i j y z v H',B6 pls i j y z->ax H H'->dv K H' (DP i j y z) v->Q v H')/\(∀ W x v H',(∀ i j,i<j->¬Ap pls i j)->Crt.Told pls W x->W<=10^220->ax H H'->dv K H' (Em x pls) v->Q v H')
theorem lR:av ["places","told","i","j"] ["places"] (aj (top 40)):=dG
theorem uo (D:ay K mg "placed" (top 40)) (c_put_together:Callee P w K mg base aO 5 "put_together" ["places"] (xE K)) (n_len:mg "len"=none) (n_tuple:mg "tuple"=none):Callee P w K mg base aO 6 "placed" ["places"] (pQ K):=by
 refine cO D lR (λf cdv A outer s H vs Q E hr h=>?_)
 obtain⟨a,us,pls,rfl,hS,hd,hok,hlen,q1,q2⟩:=h
 have nd:=lR.nd
 refine⟨_,(ae (bG (i:=1) nd (cw c_put_together hr aC (aa (pv 0) ag))) (ae (bp (aA fq (aD aU rfl n_len PySem.boot_len (aa (pv 1) ag)) ah (aE _)) (ae (fv (gX BQ (pv 1) (eF ah) mS) (cz (n:=2) rfl (aw (aq (i:=2) nd rfl (Or.inl rfl) (.inr rfl)) (aw (aq (i:=3) nd rfl (Or.inl rfl) (.inr rfl)) aP)))) (ak (az (aG (aa dQ (aa (aG (aa bI (aa (pv 2) (aa (pv 3) (aa (aB aJ (pv 0) (pv 2) (λ_ _=>rfl)) (aa (aB aJ (pv 0) (pv 3) (λ_ _=>rfl)) ag)))))) ag)))))) aK) (ak (az (aG (aa (aB aV (pv 1) ah (λ_ _=>rfl)) (aa (aG (aa bI (aa (bY bR rfl n_tuple L2.boot_tuple (aa (pv 0) ag)) ag))) ag))))))),?_⟩
 show bJ _ _ _ [some (.ref a),none,none,none] H
 have at_:∀{k:Nat} {y:Int × Int},pls[k]?=some y->∃ x,us[k]?=some x/\dv K H (dy y) x:=by
  intro k y hy
  have hk:=(List.getElem?_eq_some_iff.mp hy).1
  have hul:us.length=pls.length:=by rw [hd.length,List.length_map]
  have hx:=List.getElem?_eq_getElem (show k<us.length by omega)
  obtain⟨d,e,hv⟩:=hd.get hx
  rw [List.getElem?_map,hy] at e
  cases e
  exact⟨_,hx,hv⟩
 k_data
 refine⟨a,us,pls,rfl,hS,hd,hok,hlen,λi j p H1 ij ap no s1 f1 e1=>?_,λW x p H1 no T hW s1 f1 e1=>?_⟩
 ·obtain⟨y,z,g,e2,e3,G,nd'⟩:=ap
  obtain⟨x1,h1,v1⟩:=at_ e2
  obtain⟨x2,h2,v2⟩:=at_ e3
  refine jJ (bE.of e1) ⟨rfl,?_⟩
  rw [if_pos (by rfl)]
  refine⟨p,_,rfl,bE.of e1,λz=>absurd z.1 (by show ¬HT.cK 3 0 (some 1)=0;decide),λp2 hp2=>?_⟩
  have s2:=ai (o:=.tup (dP [V.str "apart",V.int (i:Nat),V.int (j:Nat)] (some 1) none)) hp2
  have S2:=s1.trans s2
  have e4:upd H1 p2 (.tup (dP [V.str "apart",V.int (i:Nat),V.int (j:Nat)] (some 1) none)) p2=some (.tup [V.int (i:Nat),V.int (j:Nat)]):=af
  generalize upd H1 p2 _=H2 at *
  refine⟨p2,_,rfl,bE.of e4,rfl,?_⟩
  k_data
  refine⟨a,us,_,x1,rfl,rfl,hS.same S2,dA h1,⟨a,us,_,x2,rfl,rfl,hS.same S2,dA h2,⟨by show 5<=sizeLine;decide,λp5 hp5=>⟨by show 2<=sizeLine;decide,λp6 hp6=>?_⟩⟩⟩⟩
  have s5:=ai (o:=.tup [V.str "apart",V.int (i:Nat),V.int (j:Nat),x1,x2]) hp5
  have s6:=ai (o:=.tup [V.non,V.ref p5]) hp6
  have S6:=S2.trans (s5.trans s6)
  exact q1 i j y z _ _ ⟨ij,⟨y,z,g,e2,e3,G,nd'⟩,no,e2,e3⟩ S6 (dv.tup af ⟨_,_,rfl,rfl,.one (dv.tup (s6 _ _ af) ⟨_,_,rfl,rfl,_,_,rfl,rfl,_,_,rfl,rfl,_,_,rfl,dv.same S6 _ v1,.one (dv.same S6 _ v2)⟩)⟩)
 ·refine jJ (bE.of e1) ⟨rfl,?_⟩
  rw [if_neg (by intro z;cases z)]
  refine br (bE.of e1) rfl ⟨us,.inl ⟨hS.same s1,λl hl'=>⟨by show 2<=sizeLine;decide,λp5 hp5=>⟨by show 2<=sizeLine;decide,λp6 hp6=>?_⟩⟩⟩⟩
  have s4:=ai (o:=.tup us) hl'
  have s5:=ai (o:=.tup [V.str "by",V.ref l]) hp5
  have s6:=ai (o:=.tup [V.int x,V.ref p5]) hp6
  have S6:=s1.trans (s4.trans (s5.trans s6))
  exact q2 W x _ _ no T hW S6 (dv.tup af ⟨_,_,rfl,rfl,.one (dv.tup (s6 _ _ af) ⟨_,_,rfl,rfl,.one (dv.tup (s6 _ _ (s5 _ _ af)) (aF.same S6 _ hd))⟩)⟩)
def A2 (p b:Int) (d:PyData):Prop:=∃(e:Nat) (pl:List (Int × Int)) (rws:List PyData),d=.tuple [.int e,.tuple rws]/\Num.Ord p b e/\(e:Int)<p/\Num.Part e pl/\sU rws pl/\DD rws (pl.map (·.1))
theorem zm {p b:Int} {rows r:PyData} (p9:p<=10^9) (h:uX p b rows r):A2 p b r:=by
 obtain⟨e',ps,ds,ts,er,hP,hl29,hds,e1,e2,o,to,rfl⟩:=h
 obtain⟨e,rfl⟩:∃ n:Nat,e'=n:=⟨e'.toNat,by omega⟩
 rw [Int.toNat_natCast] at o
 have hG:sU ((fe ps ds ts).map (j8 p b e)) ((fe ps ds ts).map kp):=by
  refine⟨by rw [List.length_map,List.length_map],λi row hrow=>?_⟩
  rw [List.getElem?_map] at hrow
  obtain⟨y,hy,rfl⟩:=Option.map_eq_some_iff.mp hrow
  obtain⟨j,k,h1,h2,h3,h4⟩:=gv (List.mem_of_getElem? hy)
  obtain⟨g',rr,eg⟩:=(hds j _ _ h1).head
  exact⟨kp y,by rw [List.getElem?_map,hy];rfl,_,_,by unfold j8;rw [h4,eg];rfl⟩
 refine⟨e,_,_,rfl,o,e2,tY (ds:=ds) hP to o (by omega),hG,?_⟩
 refine⟨by rw [List.length_map,List.length_map,List.length_map],λi row hrow=>?_⟩
 obtain⟨y,hy,d1,d2,ed⟩:=hG.2 i row hrow
 exact⟨y.1,by rw [List.getElem?_map,hy];rfl,d1,_,ed⟩
theorem sf {e:Nat} {pl:List (Int × Int)} (h:Num.Part e pl) (e1:1<=e) {y:Int × Int} (hy:y∈pl):y.1<=e:=by
 have:=Num.fc hy (h.ok y hy).2.1
 rw [h.prod] at this
 exact Int.le_of_dvd (by omega) this
structure yh (ps:List Int) (b a:Int) (pls:List (Int × Int)):Prop where
 len:pls.length=ps.length
 ok:∀(i:Nat) p y,ps[i]?=some p->pls[i]?=some y->∃ e x:Nat,y=((e:Int),(x:Int))/\x<e/\Num.Ord p b e/\(e:Int)<p/\Num.Al p a (b^x)
inductive WO where
 | no (n e:Nat) (r:Int)
 | ap (i j:Nat) (y z:Int × Int)
 | is (pls:List (Int × Int))
def nB (ps:List Int) (b a:Int):WO->Prop
 | .no n e r=>∃ p,ps[n]?=some p/\Num.Ord p b e/\¬Num.Al p (a^e) 1/\r=a^e%p/\∀(i:Nat) p' e',i<n->ps[i]?=some p'->Num.Ord p' b e'->Num.Al p' (a^e') 1
 | .ap i j y z=>∃ pls,yh ps b a pls/\B6 pls i j y z
 | .is pls=>yh ps b a pls/\∀ i j,i<j->¬Ap pls i j
def Du (x:Int):WO->PyData
 | .no n e r=>.tuple [.none,.tuple [.str "none",.int n,.int e,.int r]]
 | .ap i j y z=>DP i j y z
 | .is pls=>Em x pls
def rH (x:Int):WO->Prop
 | .is pls=>∃ W,Crt.Told pls W x
 | _=>True
def Ey (H:Hp) (ps:List Int) (a:Int) (i:Nat) (zs:List V) (H1:Hp):Prop:=H1=H/\zs=((ps.take i).map λp=>decide (a%p=0)).map V.bl
def Ez (K:PySem.W.Frag) (H:Hp) (ps:List Int) (b:Int) (i:Nat) (zs:List V) (H1:Hp):Prop:=ax H H1/\∃ os:List PyData,os.length=i/\aF K H1 os zs/\∀(j:Nat) p d,ps[j]?=some p->os[j]?=some d->¬p∣b/\A2 p b d
def EA (H2:Hp) (pa po:Addr) (ps:List Int) (b a:Int) (i:Nat) (σ':L2.St) (H3:Hp):Prop:=ax H2 H3/\(∃ o5 o6 o7 o8,σ'=[some (.ref pa),some (.int b),some (.int a),some .non,some (.ref po),o5,o6,o7,o8,none])/\∀(j:Nat) p e,j<i->ps[j]?=some p->Num.Ord p b e->Num.Al p (a^e) 1
def Eh (H:Hp) (n:Nat) (zs:List V) (H1:Hp):Prop:=ax H H1/\∃ ns:List Int,zs=ns.map V.int/\ns.length<=n/\∀ m∈ns,m<=10^6
def EC (K:PySem.W.Frag) (H:Hp) (ps:List Int) (b a:Int) (i:Nat) (zs:List V) (H1:Hp):Prop:=ax H H1/\∃ pls:List (Int × Int),pls.length=i/\aF K H1 (pls.map dy) zs/\∀(j:Nat) p y,ps[j]?=some p->pls[j]?=some y->∃ e x:Nat,y=((e:Int),(x:Int))/\x<e/\Num.Ord p b e/\(e:Int)<p/\Num.Al p a (b^x)
theorem nh {α β:Type} {R:α->β->Prop} {xs:List α} {ys:List β} {x:α} {y:β} (h:∀(j:Nat) u v,xs[j]?=some u->ys[j]?=some v->R u v) (hx:xs[ys.length]?=some x) (hr:R x y):∀(j:Nat) u v,xs[j]?=some u->(ys++[y])[j]?=some v->R u v:=by
 intro j u v h1 h2
 by_cases c:j<ys.length
 ·rw [List.getElem?_append_left c] at h2
  exact h j u v h1 h2
 ·rw [List.getElem?_append_right (by omega)] at h2
  have z:j-ys.length=0:=by
   rcases Nat.eq_zero_or_pos (j-ys.length) with y | y
   ·exact y
   ·rw [List.getElem?_eq_none (by simp;omega)] at h2;cases h2
  rw [z] at h2
  cases h2
  rw [show j=ys.length by omega,hx] at h1
  cases h1
  exact hr
def lY (K:PySem.W.Frag) (CN:Addr):Sp:=λvs H Q E=>∃(pa:Addr) (us:List V) (ps:List Int) (ds:List PyData) (b a:Int),vs=[.ref pa,.int b,.int a,.non]/\aM K H pa us/\aF K H ds us/\iH ps ds/\ps.length<=12/\(∀ p∈ps,p<=10^6) /\ -(10^60)<=b/\b<=10^60 /\ -(10^60)<=a/\a<=10^60/\((∃ p∈ps,p∣a∨p∣b)->AS CN H E) /\
 ((∀ p∈ps,¬p∣a/\¬p∣b)->∀ o x v H',nB ps b a o->rH x o->ax H H'->dv K H' (Du x o) v->Q v H')
theorem jk:av ["papers","b","a","kept","orders","n","paper","e","rest","places"] ["papers","b","a","kept"] (aj (top 39)):=dG
theorem qW {CN CF C0:Addr} (D:l7 K mg "which_of" (top 39) #[.none]) (c_order:Callee P w K mg base (dO P w) 14 "order" ["paper","a"] (sF K CN)) (c_power:Callee P w K mg base (dO P w) 4 "power" ["n","a","e"] (eG C0)) (c_refuse_far:Callee P w K mg base (dO P w) 3 "refuse_far" ["primes"] (AA K CF)) (c_primes_in:Callee P w K mg base aO 1 "primes_in" ["parts"] (kI K)) (c_sought:Callee P w K mg base aO 6 "sought" ["p","b","a","order_paper","kept"] (pS K C)) (c_placed:Callee P w K mg base aO 6 "placed" ["places"] (pQ K)) (x_Nought:uY K mg "Nought" CN) (n_any:mg "any"=none) (n_enumerate:mg "enumerate"=none) (n_zip:mg "zip"=none):jw P w K mg base (dO P w) 15 "which_of" ["papers","b","a","kept"] [.none] (lY K CN):=by
 refine nM D (λ_ _ _ _ _ _ _ us hl=>match us,(show us.length=4 by simpa using hl) with | [_,_,_,_],_=>⟨_,rfl,rfl⟩) (λ_ _ _ _ _ _ _ us hl=>match us,(show us.length=3 by simpa using hl) with | [_,_,_],_=>⟨_,rfl,rfl⟩) jk (λvs H Q E h=>by obtain⟨_,_,_,_,_,_,rfl,_⟩:=h;rfl) (λf cdv A outer s H vs Q E hr h=>?_)
 obtain⟨pa,us,ps,ds,b,a,rfl,hS,hd,hP,hl,p6,b0,b1,a0,a1,qN,q⟩:=h
 have nd:=jk.nd
 refine⟨_,(ae (bp (b9 (aD (vb rfl) rfl n_any L2.boot_any (aa (gf rfl (nP (N':=["paper","a"]) (js:=[none,some 2]) rfl rfl) (bo (pv 0)) (λ_ _ _ _=>(aq (i:=0) (show List.Nodup [("paper":Str),("a":Str)] from by decide +kernel) rfl (Or.inl rfl) (.inr rfl))) (λ_ _ _ _=>aS) (λ_ _ _ _=>(dB fq (au aL (pv 1) (aB (bw K rfl) (pv 0) ah (λ_ _=>rfl))) ah (aE _)))) ag)) (λ_=>rfl)) (ak (hJ (wO x_Nought rfl))) aK) (ae (w6 (i0:=4) nd rfl (Or.inl rfl) rfl (nP (N':=["paper","b"]) (js:=[none,some 1]) rfl rfl) (bo (pv 0)) (λ_ _ _ _ _=>(aq (i:=0) (show List.Nodup [("paper":Str),("b":Str)] from by decide +kernel) rfl (Or.inl rfl) (.inr rfl))) (λ_ _ _ _ _=>aS) (λ_ _ _ _ lc=>(cw c_order hr (uy lc) (aa (pv 0) (aa (pv 1) ag)))) (by rfl) (by first | exact .inl rfl | exact .inr rfl)) (ae (BG (bD PassesOwn.never rfl (mQ rfl n_enumerate (aa (pv 0) ag)) (cz (n:=2) rfl (aw (aq (i:=5) nd rfl (Or.inl rfl) (.inr rfl)) (aw (aq (i:=6) nd rfl (Or.inl rfl) (.inr rfl)) aP))) (ae (bG (i:=7) nd (aB aV (aB aJ (pv 4) (pv 5) (λ_ _=>rfl)) ah (λ_ _=>rfl))) (ae (bG (i:=8) nd (cw c_power hr bC (aa (aB aV (pv 6) ah (λ_ _=>rfl)) (aa (pv 2) (aa (pv 7) ag))))) (ak (bp (aA gc (pv 8) ah (aE _)) (ak (az (aG (aa dQ (aa (aG (aa bI (aa (pv 5) (aa (pv 7) (aa (pv 8) ag))))) ag))))) aK)))))) (ae (dF (cw c_refuse_far hr oS (aa (BE rfl (nP (N':=["e","parts","prime"]) (js:=[none,none,none]) rfl rfl) (bo (pv 4)) (λ_ _ _ _=>(dD K rfl (n:=2) rfl (aw (aq (i:=0) (show List.Nodup [("e":Str),("parts":Str),("prime":Str)] from by decide +kernel) rfl (Or.inl rfl) (.inr rfl)) (aw (aq (i:=1) (show List.Nodup [("e":Str),("parts":Str),("prime":Str)] from by decide +kernel) rfl (Or.inl rfl) (.inr rfl)) aP)))) (λ_ _ _ _=>aS) (λ_ _ _ _=>(wR (K:=K) rfl (cw c_primes_in hr aC (aa (pv 1) ag)))) (λ_ _ _ _=>(aq (i:=2) (show List.Nodup [("e":Str),("parts":Str),("prime":Str)] from by decide +kernel) rfl (Or.inl rfl) (.inr rfl))) (λ_ _ _ _=>aS) (λ_ _ _ _=>(pv 2))) ag))) (iD.lL (ae (hZ (i0:=9) nd rfl (Or.inl rfl) rfl (nP (N':=["paper","row","b","a","kept"]) (js:=[none,none,some 1,some 2,some 3]) rfl rfl) (wU .l .l rfl n_zip (aa (pv 0) (aa (pv 4) ag))) (λ_ _ _ _=>(dD K rfl (n:=2) rfl (aw (aq (i:=0) (show List.Nodup [("paper":Str),("row":Str),("b":Str),("a":Str),("kept":Str)] from by decide +kernel) rfl (Or.inl rfl) (.inr rfl)) (aw (aq (i:=1) (show List.Nodup [("paper":Str),("row":Str),("b":Str),("a":Str),("kept":Str)] from by decide +kernel) rfl (Or.inl rfl) (.inr rfl)) aP)))) (λ_ _ _ _=>aS) (λ_ _ _ _=>(aG (aa (aB (bw K rfl) (pv 1) ah (λ_ _=>rfl)) (aa (aB (bw K rfl) (cw c_sought hr aC (aa (aB (bw K rfl) (pv 0) ah (λ_ _=>rfl)) (aa (pv 2) (aa (pv 3) (aa (pv 1) (aa (pv 4) ag)))))) ah (λ_ _=>rfl)) ag)))) (by rfl) (by first | exact .inl rfl | exact .inr rfl)) (ak (az (cw c_placed hr aC (aa (pv 9) ag)))))))))),?_⟩
 show bJ _ _ _ [some (.ref pa),some (.int b),some (.int a),some .non,none,none,none,none,none,none] H
 have ul:us.length=ps.length:=by rw [hd.length,hP.len]
 k_data
 refine⟨⟨_,hS⟩,?_⟩
 refine bA (xs:=us) (λi zs H1=>Ey H ps a i zs H1) ⟨rfl,rfl⟩ (by rw [ul];exact Nat.le_trans hl (by decide)) (λi zs H1 hi ⟨e1,e2⟩=>⟨e1▸hS,by rw [e2,List.length_map,List.length_map,List.length_take];omega⟩) ?_ ?_
 ·rintro i x zs H1 hx ⟨eH,ez⟩
  rw [eH]
  obtain⟨p,g,rows,hp,hPap,hv⟩:=hP.at hd hx
  have p2:=(j9 hPap).1.two
  obtain⟨pp,y1,y2,vr,rfl,tS,e0,eg,dr⟩:=yx hv
  cases e0
  show b8 0 _ [none,some (.int a)] _ _
  k_data
  refine⟨⟨rfl,True.intro⟩,br tS jx ⟨p,rfl,by omega,rfl,?_⟩⟩
  rw [ez,List.take_add_one,hp,Option.toList_some,List.map_append,List.map_append]
  rfl
 rintro zs H1 pz ⟨eH,ez⟩ hpz
 rw [eH] at hpz ⊢
 rw [ul,List.take_length] at ez
 rw [ez]
 refine⟨pz,_,rfl,aM.of af,_,dI.mpr rfl,?_⟩
 have s1:=ai (o:=.lst (((ps.map λp=>decide (a%p=0)).map V.bl))) hpz
 generalize upd H pz _=H1 at *
 refine bV (λc=>?_) (λc=>?_)
 ·rw [List.any_eq_true] at c
  obtain⟨y,hy,yt⟩:=c
  obtain⟨p,hp,rfl⟩:=List.mem_map.mp hy
  exact λx hx=>lu x_Nought.cls s1 hx (qN ⟨p,hp,.inl (Int.dvd_of_emod_eq_zero (of_decide_eq_true yt))⟩)
 have na:∀ p∈ps,¬p∣a:=λp hp z=>c (List.any_eq_true.mpr ⟨_,List.mem_map.mpr ⟨p,hp,rfl⟩,decide_eq_true (Int.emod_eq_zero_of_dvd z)⟩)
 refine⟨⟨_,hS.same s1⟩,?_⟩
 refine bA (xs:=us) (λi zs H2=>Ez K H ps b i zs H2) ⟨s1,[],rfl,rfl,λj p d z1 z2=>by simp at z2⟩ (by rw [ul];exact Nat.le_trans hl (by decide)) (λi zs H2 hi ⟨e1,os,e2,e3,_⟩=>⟨hS.same e1,by rw [e3.length];omega⟩) ?_ ?_
 ·rintro i x zs H2 hx ⟨s2,os,ol,hz,ho⟩
  obtain⟨p,g,rows,hp,hPap,hv⟩:=hP.at hd hx
  have mp:=List.mem_of_getElem? hp
  show b8 0 _ [none,some (.int b)] _ _
  k_data
  refine⟨⟨rfl,True.intro⟩,x,p,b,g,rows,rfl,dv.same s2 _ hv,hPap,b0,b1,λz=>AS.pre s2 (qN ⟨p,mp,.inr z⟩),λnb r u H3 hO s3 hu=>?_⟩
  refine⟨s2.trans s3,os++[r],by simp [ol],aF.append (aF.same s3 _ hz) (.one hu),?_⟩
  exact nh (R:=λp d=>¬p∣b/\A2 p b d) ho (by rw [ol];exact hp) ⟨nb,zm (j9 hPap).2 hO⟩
 rintro zo H2 po ⟨s2,os,ol,hz,ho⟩ hpo
 have s3:=ai (o:=.lst zo) hpo
 have ol':os.length=ps.length:=by omega
 have zl:zo.length=ps.length:=by rw [hz.length];omega
 have epo:upd H2 po (.lst zo) po=some (.lst zo):=af
 have hz3:=aF.same s3 _ hz
 have S3:=s2.trans s3
 generalize upd H2 po _=H3 at *
 have nab:∀ p∈ps,¬p∣a/\¬p∣b:=λp hp=>⟨na p hp,by
  obtain⟨i,hi,e⟩:=List.mem_iff_getElem.mp hp
  exact (ho i p _ (by rw [<- e];exact List.getElem?_eq_getElem hi) (List.getElem?_eq_getElem (show i<os.length by omega))).1⟩
 replace q:=q nab
 have at_:∀{i:Nat} {x:V},zo[i]?=some x->∃ p e pl rws pq vr,ps[i]?=some p/\Num.Pm p/\p<=10^6/\x=.ref pq/\bE K H3 pq [.int (e:Nat),vr]/\dv K H3 (.tuple [.int (e:Nat),.tuple rws]) x/\dv K H3 (.tuple rws) vr/\Num.Ord p b e/\(e:Int)<p/\Num.Part e pl/\sU rws pl/\DD rws (pl.map (·.1)):=by
  intro i x hx
  obtain⟨d,hd',hv⟩:=hz3.get hx
  have hi:=(List.getElem?_eq_some_iff.mp hd').1
  have hp:=List.getElem?_eq_getElem (show i<ps.length by omega)
  obtain⟨_,e,pl,rws,rfl,o,ep,hpt,hG,hQ⟩:=ho i _ d hp hd'
  have hv':=hv
  obtain⟨pq,x1,x2,rfl,tq,f1,f2⟩:=qz hv
  cases f1
  exact⟨_,e,pl,rws,pq,x2,hp,(hP.pm (List.mem_of_getElem? hp)).1,p6 _ (List.mem_of_getElem? hp),rfl,tq,hv',f2,o,ep,hpt,hG,hQ⟩
 refine⟨⟨_,hS.same S3⟩,?_⟩
 refine iQ (xs:=us) (λi σ' H4=>EA H3 pa po ps b a i σ' H4) ⟨ax.refl _,⟨_,_,_,_,rfl⟩,λj p e z=>by omega⟩ (λi σ' H4 _ h=>hS.same (S3.trans h.1)) ?_ ?_
 ·rintro i x σ' H4 pt hx ⟨s4,⟨o5,o6,o7,o8,rfl⟩,hno⟩ hpt
  obtain⟨p,g,rows,hp,hPap,hv⟩:=hP.at hd hx
  obtain⟨pm,p9⟩:=j9 hPap
  have p2:=pm.two
  have s5:=ai (o:=.tup [.int i,x]) hpt
  refine⟨pt,_,rfl,bE.of af,rfl,?_⟩
  generalize upd H4 pt _=H5 at *
  have S5:=s4.trans s5
  have hi:=(List.getElem?_eq_some_iff.mp hp).1
  have hy:=List.getElem?_eq_getElem (show i<zo.length by omega)
  obtain⟨p',e,pl,rws,pq,vr,hp',_,_,ey,tq,_,_,o,ep,_⟩:=at_ hy
  rw [hp] at hp'
  cases hp'
  obtain⟨pp,y1,y2,vr',rfl,tS,e0,eg,dr⟩:=yx hv
  cases e0
  k_data
  refine⟨po,zo,_,_,rfl,rfl,aM.of (S5 _ _ epo),dA hy,?_⟩
  rw [ey]
  refine br (tq.same S5) jx (br (tS.same (S3.trans S5)) jx ?_)
  refine⟨p,a,_,rfl,by omega,by omega,λ_ H6 s6=>?_,λz=>absurd z (by omega)⟩
  rw [Int.toNat_natCast]
  refine⟨rfl,bV (λc1=>?_) (λc1=>?_)⟩
  ·refine⟨by show 4<=sizeLine;decide,λp7 hp7=>⟨by show 2<=sizeLine;decide,λp8 hp8=>?_⟩⟩
   have s7:=ai (o:=.tup [V.str "none",V.int (i:Int),V.int (e:Int),V.int (a^e%p)]) hp7
   have s8:=ai (o:=.tup [V.non,V.ref p7]) hp8
   refine q (.no i e (a^e%p)) 0 _ _ ⟨p,hp,o,λz=>c1 (congrArg V.int ((eh p2).mpr z)),rfl,λj p' e' ji h1 h2=>hno j p' e' ji h1 h2⟩ True.intro (S3.trans (S5.trans (s6.trans (s7.trans s8)))) (dv.tup af ⟨_,_,rfl,rfl,.one (dv.tup (s8 _ _ af) ⟨_,_,rfl,rfl,_,_,rfl,rfl,_,_,rfl,rfl,.one rfl⟩)⟩)
  ·have al1:Num.Al p (a^e) 1:=(eh p2).mp (V.int.inj (Classical.not_not.mp c1))
   refine⟨S5.trans s6,⟨_,_,_,_,rfl⟩,λj p' e' ji h1 h2=>?_⟩
   rcases (by omega:j<i∨j=i) with z | z
   ·exact hno j p' e' z h1 h2
   ·rw [z,hp] at h1
    cases h1
    rw [h2.iS o]
    exact al1
 rintro σ' H4 ⟨s4,⟨o5,o6,o7,o8,rfl⟩,hno⟩
 rw [ul] at hno
 k_data
 have S4:=S3.trans s4
 refine⟨⟨_,aM.of (s4 _ _ epo)⟩,?_⟩
 refine nO (xs:=zo) (λi ys H5=>Eh H3 (12*i) ys H5) ⟨s4,[],rfl,Nat.le_refl _,λm hm=>by simp at hm⟩ (λi ys H5 hi h=>⟨aM.of (h.1 _ _ epo),?_⟩) ?_ ?_
 ·obtain⟨_,ns,rfl,nl,_⟩:=h
  rw [List.length_map]
  exact Nat.le_trans (show ns.length<=144 by omega) (by decide)
 ·rintro i x ys H5 hx ⟨s5,ns,rfl,nl,hns⟩
  obtain⟨p,e,pl,rws,pq,vr,hp,pm,pp6,rfl,tq,_,dr,o,ep,hpt,hG,hQ⟩:=at_ hx
  have e1:=o.pos
  have pl12:=oQ hpt (by omega)
  have rl:=hG.1
  show oa K 2 _ _ [none,none,none] _ _
  refine⟨pq,_,rfl,tq.same s5,rfl,?_⟩
  k_data
  refine⟨True.intro,vr,rws,_,rfl,dv.same s5 _ dr,hQ,by omega,λpi H6 s6 f6 e6=>⟨pi,rfl,⟨_,aM.of e6⟩,?_⟩⟩
  have il:=(List.getElem?_eq_some_iff.mp hx).1
  refine qF (xs:=(pl.map (·.1)).map V.int) (λj zs H7=>ax H6 H7/\Eh H3 (12*i+j) zs H7) ⟨ax.refl _,s5.trans s6,ns,rfl,by omega,hns⟩ (λj zs H7 hj h=>⟨aM.of (h.1 _ _ e6),?_⟩) ?_ (λzs H7 h=>?_)
  ·obtain⟨_,_,ns',rfl,nl',_⟩:=h
   rw [List.length_map,List.length_map] at hj
   rw [List.length_map]
   exact Nat.lt_of_le_of_lt (show ns'.length<=156 by omega) (by decide)
  ·rintro j y zs H7 hy ⟨s7,s7',ns',rfl,nl',hns'⟩
   rw [List.getElem?_map,List.getElem?_map] at hy
   obtain⟨_,hy1,rfl⟩:=Option.map_eq_some_iff.mp hy
   obtain⟨y,hy2,rfl⟩:=Option.map_eq_some_iff.mp hy1
   have:=sf hpt (by omega) (List.mem_of_getElem? hy2)
   k_data
   refine⟨⟨rfl,rfl,True.intro⟩,s7,s7',ns'++[y.1],by rw [List.map_append];rfl,by rw [List.length_append,List.length_singleton];omega,λm hm=>?_⟩
   rcases List.mem_append.mp hm with z | z
   ·exact hns' m z
   ·rw [List.mem_singleton.mp z];omega
  ·obtain⟨_,h1,ns',rfl,nl',hns'⟩:=h
   rw [List.length_map,List.length_map] at nl'
   exact⟨h1,ns',rfl,by omega,hns'⟩
 rintro ys H5 pf ⟨s5,ns,rfl,nl,hns⟩ hpf
 have s6:=ai (o:=.lst (ns.map V.int)) hpf
 refine⟨pf,ns,rfl,aM.of af,Nat.le_trans (show ns.length<=144 by omega) (by decide),λ_=>?_,λm hm _ m6=>by have:=hns m hm;omega⟩
 generalize upd H5 pf _=H6 at *
 have S6:=s5.trans s6
 have T6:=S3.trans S6
 k_data
 refine⟨⟨_,hS.same T6⟩,⟨_,aM.of (S6 _ _ epo)⟩,?_⟩
 refine lj (k1:=.l) (k2:=.l) (xs:=us) (ys:=zo) (λi zs H7=>EC K H3 ps b a i zs H7) ⟨S6,[],rfl,rfl,λj p y z1 z2=>by simp at z2⟩ (by omega) (by rw [ul];exact Nat.le_trans hl (by decide)) (λi zs H7 hi ⟨e1,pls,e2,e3,_⟩=>⟨hS.same (S3.trans e1),aM.of (e1 _ _ epo),by rw [e3.length,List.length_map];omega⟩) ?_ ?_
 ·rintro i x y zs H7 pt hx hy ⟨s7,pls,pll,hzs,hpls⟩ hpt
  obtain⟨p,g,rows,hp,hPap,hv⟩:=hP.at hd hx
  obtain⟨p',e,pl,rws,pq,vr,hp',pm,pp6,rfl,tq,dq,dr,o,ep,hpt',hG,hQ⟩:=at_ hy
  rw [hp] at hp'
  cases hp'
  have p2:=pm.two
  have e1:=o.pos
  have il:=(List.getElem?_eq_some_iff.mp hp).1
  have al1:=hno i p e (by omega) hp o
  obtain⟨x0,xe,alx⟩:=Num.oX pm o al1
  obtain⟨pp,y1,y2,vr',rfl,tS,e0,eg,dr'⟩:=yx hv
  cases e0
  have s8:=ai (o:=.tup [V.ref pp,V.ref pq]) hpt
  show oa K 2 _ _ [none,none,some (.int b),some (.int a),some .non] _ _
  refine⟨pt,_,rfl,bE.of af,rfl,?_⟩
  generalize upd H7 pt _=H8 at *
  have S8:=s7.trans s8
  k_data
  refine⟨⟨rfl,rfl,rfl,True.intro⟩,br (tq.same S8) jx (br (tS.same (S3.trans S8)) jx ?_)⟩
  refine⟨p,b,a,e,x0,.ref pq,.non,rws,pl,none,rfl,dv.same S8 _ dq,hG,ux hpt' (by omega) (λy hy=>by have:=sf hpt' (by omega) hy;omega),rfl,p2,by omega,a0,a1,o,by omega,xe,alx,λu H9 post hu=>?_⟩
  obtain⟨pu,u1,u2,rfl,tu,d1,d2⟩:=qz hu
  cases d1
  refine br tu jx ⟨by show 2<=sizeLine;decide,λp10 hp10=>?_⟩
  have s10:=ai (o:=.tup [V.int (e:Int),V.int (x0:Int)]) hp10
  replace post:ax H8 H9:=post
  refine⟨S8.trans (post.trans s10),pls++[((e:Int),(x0:Int))],by simp [pll],?_,nh (R:=λp y=>∃ e x:Nat,y=((e:Int),(x:Int))/\x<e/\Num.Ord p b e/\(e:Int)<p/\Num.Al p a (b^x)) hpls (by rw [pll];exact hp) ⟨e,x0,rfl,xe,o,ep,alx⟩⟩
  rw [List.map_append]
  exact aF.append (aF.same (s8.trans (post.trans s10)) _ hzs) (.one (dv.tup af ⟨_,_,rfl,rfl,.one rfl⟩))
 rintro zp H7 pq ⟨s7,pls,pll,hzs,hpls⟩ hpq
 have s8:=ai (o:=.lst zp) hpq
 have S8:=S3.trans (s7.trans s8)
 k_data
 have hPl:yh ps b a pls:=⟨by omega,hpls⟩
 refine⟨pq,zp,pls,rfl,aM.of af,aF.same s8 _ hzs,λy hy=>?_,by omega,λi j y z v H9 hF s9 hv=>q (.ap i j y z) 0 v H9 ⟨pls,hPl,hF⟩ True.intro (S8.trans s9) hv,λW x v H9 no T hW s9 hv=>q (.is pls) x v H9 ⟨hPl,no⟩ ⟨W,T⟩ (S8.trans s9) hv⟩
 obtain⟨i,hi,ey⟩:=List.mem_iff_getElem.mp hy
 have hp:=List.getElem?_eq_getElem (show i<ps.length by omega)
 obtain⟨e,x,rfl,xe,o,ep,_⟩:=hpls i _ y hp (by rw [<- ey];exact List.getElem?_eq_getElem hi)
 have:=p6 _ (List.mem_of_getElem? hp)
 exact⟨by show (0:Int)<e;omega,by show (e:Int)<=10^18;omega,by show -(10^80)<=(x:Int);omega,by show (x:Int)<=10^80;omega⟩
end
end K
namespace K
open PySem PySem.Spec PyProof.Rows L2
section
variable {P:Program} {w:World} {K:PySem.W.Frag} {mg:Str->Option Value} {base:Heap}
def ub (ns:List Int):List (Key × V):=ns.map λn=>((Sum.inl n:Key),V.bl true)
theorem sR:∀{ns:List Int} (n:Int),bM (ub ns) (Sum.inl n)=if n∈ns then some (V.bl true) else none
 | [],n=>by simp [ub,bM]
 | m::ns,n=>by
  show bM (((Sum.inl m:Key),V.bl true)::ub ns) _=_
  by_cases c:m=n
  ·subst c
   rw [bP rfl,if_pos (List.mem_cons_self ..)]
  ·rw [bK (λz=>c (Sum.inl.inj z)),sR n]
   by_cases c2:n∈ns
   ·rw [if_pos c2,if_pos (List.mem_cons_of_mem _ c2)]
   ·rw [if_neg c2,if_neg (λz=>by rcases List.mem_cons.mp z with y | y;exact c y.symm;exact c2 y)]
theorem zG {ns:List Int} (n:Int):putK (ub ns) (Sum.inl n) (.bl true)=ub (if n∈ns then ns else ns++[n]):=by
 unfold putK
 rw [iz,sR]
 by_cases c:n∈ns
 ·rw [if_pos c,if_pos c,if_pos (by rfl)]
  unfold ub
  rw [List.map_map]
  refine List.map_congr_left λm hm=>?_
  show (if (Sum.inl m:Key)=Sum.inl n then _ else _)=_
  by_cases c2:(Sum.inl m:Key)=Sum.inl n
  ·rw [if_pos c2]
  ·rw [if_neg c2]
 ·rw [if_neg c,if_neg c,if_neg (by simp)]
  unfold ub
  rw [List.map_append]
  rfl
theorem vQ (ns:List Int):(ub ns).map (·.1)=ns.map Sum.inl:=by
 unfold ub
 rw [List.map_map]
 rfl
theorem yP (ns:List Int):(ub ns).length=ns.length:=by unfold ub;rw [List.length_map]
theorem CU {v:V} (hv:v∈[V.int 2,V.int 3,V.int 5,V.int 7,V.int 11,V.int 13,V.int 17,V.int 19,V.int 23,V.int 29,V.int 31,V.int 37,V.int 41,V.int 43,V.int 47,V.int 53,V.int 59,V.int 61,V.int 67]):∃ q:Int,v=.int q/\Num.Pm q/\q<=67:=by
 have key:∀ n:Nat,2<=n->n<100->(∀ k,k<n->2<=k->¬k∣n)->Num.Pm (n:Int):=λn h2 h9 h=>⟨by omega,λd d2 dn hd=>h d.toNat (by omega) (by omega) (Int.natCast_dvd_natCast.mp (by rw [show ((d.toNat:Nat):Int)=d by omega];exact hd))⟩
 simp only [List.mem_cons,List.not_mem_nil,or_false] at hv
 rcases hv with rfl | rfl | rfl | rfl | rfl | rfl | rfl | rfl | rfl | rfl | rfl | rfl | rfl | rfl | rfl | rfl | rfl | rfl | rfl
 ·exact⟨2,rfl,key 2 (by decide) (by decide) (by decide),by decide⟩
 ·exact⟨3,rfl,key 3 (by decide) (by decide) (by decide),by decide⟩
 ·exact⟨5,rfl,key 5 (by decide) (by decide) (by decide),by decide⟩
 ·exact⟨7,rfl,key 7 (by decide) (by decide) (by decide),by decide⟩
 ·exact⟨11,rfl,key 11 (by decide) (by decide) (by decide),by decide⟩
 ·exact⟨13,rfl,key 13 (by decide) (by decide) (by decide),by decide⟩
 ·exact⟨17,rfl,key 17 (by decide) (by decide) (by decide),by decide⟩
 ·exact⟨19,rfl,key 19 (by decide) (by decide) (by decide),by decide⟩
 ·exact⟨23,rfl,key 23 (by decide) (by decide) (by decide),by decide⟩
 ·exact⟨29,rfl,key 29 (by decide) (by decide) (by decide),by decide⟩
 ·exact⟨31,rfl,key 31 (by decide) (by decide) (by decide),by decide⟩
 ·exact⟨37,rfl,key 37 (by decide) (by decide) (by decide),by decide⟩
 ·exact⟨41,rfl,key 41 (by decide) (by decide) (by decide),by decide⟩
 ·exact⟨43,rfl,key 43 (by decide) (by decide) (by decide),by decide⟩
 ·exact⟨47,rfl,key 47 (by decide) (by decide) (by decide),by decide⟩
 ·exact⟨53,rfl,key 53 (by decide) (by decide) (by decide),by decide⟩
 ·exact⟨59,rfl,key 59 (by decide) (by decide) (by decide),by decide⟩
 ·exact⟨61,rfl,key 61 (by decide) (by decide) (by decide),by decide⟩
 ·exact⟨67,rfl,key 67 (by decide) (by decide) (by decide),by decide⟩
theorem uc {ns:List Int} {n:Int} (h:ns.Nodup):(if n∈ns then ns else ns++[n]).Nodup:=by
 split
 ·exact h
 ·rename_i c
  rw [List.nodup_append]
  refine⟨h,by simp,λa ha b hb=>?_⟩
  rw [List.mem_singleton.mp hb]
  exact λz=>c (z▸ha)
def pR:Sp:=λvs H Q _=>∃(p:Addr) (l:Int) (b:Bool),vs=[.ref p]/\H p=some (qf l b)/\yc l b/\∀(pl:Addr) (ls:List Int) (H':Hp),(∀ n∈ls,Num.Pm n/\n<=67)->ls.Nodup->ls.length<=5->Us p b H H'->H pl=none->H' pl=some (.lst (ls.map V.int))->Q (.ref pl) H'
def EI (p ps fd:Addr) (b:Bool) (H:Hp) (i:Nat) (σ':L2.St) (H':Hp):Prop:=∃(ns:List Int) (o3:Option V),σ'=[some (.ref p),some (.ref ps),some (.ref fd),o3]/\Us p b H H'/\H' fd=some (.dK (ub ns))/\H' ps=some (.lst [V.int 2,V.int 3,V.int 5,V.int 7,V.int 11,V.int 13,V.int 17,V.int 19,V.int 23,V.int 29,V.int 31,V.int 37,V.int 41,V.int 43,V.int 47,V.int 53,V.int 59,V.int 61,V.int 67])/\ns.length<=i/\ns.Nodup/\∀ n∈ns,Num.Pm n/\n<=67
theorem fH:av ["_law_state_here","_law_some","_law_found","_law_k"] ["_law_state_here"] (aj (top 49)):=dG
theorem qU (D:ay K mg "_law_primes" (top 49)) (c__law_take:Callee P w K mg base aO 1 "_law_take" ["_law_state_here","_law_many"] kJ) (n_range:mg "range"=none) (n_sorted:mg "sorted"=none):Callee P w K mg base aO 2 "_law_primes" ["_law_state_here"] pR:=by
 refine cO D fH (λf cdv A outer s H vs Q E hr h=>?_)
 obtain⟨p,l,b,rfl,hp,hl,q⟩:=h
 have nd:=fH.nd
 refine⟨_,(@ae _ _ _ _ _ (@iU _ _ 1 _ _ _ _ nd rfl (Or.inl rfl) (@dt _ _ _ _ (@rZ _ _ _ rfl)) (by rfl) (by first | exact .inl rfl | exact .inr rfl | assumption)) (@ae _ _ _ _ _ (@iU _ _ 2 _ _ _ _ nd rfl (Or.inl rfl) oV (by rfl) (by first | exact .inl rfl | exact .inr rfl | assumption)) (@ae _ _ _ _ _ (@bD _ _ _ _ _ _ _ _ PassesOwn.never rfl (@bZ _ _ _ _ _ _ rfl n_range (@aa _ _ _ _ _ (@au _ _ _ _ _ _ _ _ b7 ah (@bN _ _ _ _ _ _ _ _ _ _ _ _ c__law_take (hr.mono (by decide)) rfl aC (@aa _ _ _ _ _ (pv 0) (@aa _ _ _ _ _ ah ag (by rfl)) (by rfl)) (by decide) (by rfl) (by rfl))) ag (by rfl)) (by rfl)) (aq (i:=3) nd rfl (Or.inl rfl) (.inr rfl)) (@ak _ _ _ (@gZ _ _ _ _ _ _ _ _ _ (dh hr) (pv 2) (@aB _ _ _ _ _ _ _ aJ (pv 1) (@bN _ _ _ _ _ _ _ _ _ _ _ _ c__law_take (hr.mono (by decide)) rfl aC (@aa _ _ _ _ _ (pv 0) (@aa _ _ _ _ _ (@aB _ _ _ _ _ _ _ aJ (@dt _ _ _ _ (@aa _ _ _ _ _ ah (@aa _ _ _ _ _ ah ag (by rfl)) (by rfl))) (@bN _ _ _ _ _ _ _ _ _ _ _ _ c__law_take (hr.mono (by decide)) rfl aC (@aa _ _ _ _ _ (pv 0) (@aa _ _ _ _ _ ah ag (by rfl)) (by rfl)) (by decide) (by rfl) (by rfl)) (λ_ _=>rfl)) ag (by rfl)) (by rfl)) (by decide) (by rfl) (by rfl)) (λ_ _=>rfl)) gd rfl)) (by intro _;rfl)) (@ak _ _ _ (@az _ _ _ _ (@aD _ _ _ _ _ _ _ _ _ (mf rfl) rfl n_sorted PyProof.Rows.boot_sorted (@aa _ _ _ _ _ (pv 2) ag (by rfl)) (by decide) (by decide) (by rfl) (by rfl))))))),?_⟩
 show bJ _ _ _ [some (.ref p),none,none,none] H
 k_data
 refine⟨by show 19<=sizeLine;decide,λps hps=>?_⟩
 have nps:ps≠p:=λz=>by rw [z,hp] at hps;cases hps
 have u00:Us p b H (upd H ps (.lst [V.int 2,V.int 3,V.int 5,V.int 7,V.int 11,V.int 13,V.int 17,V.int 19,V.int 23,V.int 29,V.int 31,V.int 37,V.int 41,V.int 43,V.int 47,V.int 53,V.int 59,V.int 61,V.int 67])):=(Us.refl hp hl).lay hps
 have eps0:upd H ps (.lst [V.int 2,V.int 3,V.int 5,V.int 7,V.int 11,V.int 13,V.int 17,V.int 19,V.int 23,V.int 29,V.int 31,V.int 37,V.int 41,V.int 43,V.int 47,V.int 53,V.int 59,V.int 61,V.int 67]) ps=some (.lst [V.int 2,V.int 3,V.int 5,V.int 7,V.int 11,V.int 13,V.int 17,V.int 19,V.int 23,V.int 29,V.int 31,V.int 37,V.int 41,V.int 43,V.int 47,V.int 53,V.int 59,V.int 61,V.int 67]):=af
 generalize upd H ps _=H00 at *
 k_data
 intro fd hfd
 have nfd:fd≠p:=λz=>by obtain⟨_,_,e⟩:=u00.1;rw [z,e] at hfd;cases hfd
 have nfs:fd≠ps:=λz=>by rw [z,eps0] at hfd;cases hfd
 have u0:Us p b H (upd H00 fd (.dK [])):=u00.lay hfd
 have ef0:upd H00 fd (.dK []) fd=some (.dK (ub [])):=af
 have eps:upd H00 fd (.dK []) ps=some (.lst [V.int 2,V.int 3,V.int 5,V.int 7,V.int 11,V.int 13,V.int 17,V.int 19,V.int 23,V.int 29,V.int 31,V.int 37,V.int 41,V.int 43,V.int 47,V.int 53,V.int 59,V.int 61,V.int 67]):=(ao (Ne.symm nfs)).trans eps0
 have hfd0:=u00.free hfd
 generalize upd H00 fd _=H0 at *
 obtain⟨l0,k0,e0⟩:=u0.1
 refine⟨p,5,l0,b,rfl,e0,k0,by decide,by decide,λr2 H2 r20 r21 u2=>⟨_,rfl,by omega,by omega,?_⟩⟩
 have U2:=u0.trans u2.us
 have ef2:=u2.us.2 _ _ nfd ef0
 have ep2:=u2.us.2 _ _ nps eps
 refine bB (λi σ' H'=>EI p ps fd b H i σ' H') ⟨[],none,rfl,U2,ef2,ep2,Nat.le_refl _,List.nodup_nil,λn hn=>by simp at hn⟩ ?_ ?_
 ·rintro i σ' H3 hi ⟨ns,o3,rfl,U3,ef3,ep3,nl,nn,hns⟩
  obtain⟨l3,k3,e3⟩:=U3.1
  k_data
  refine⟨by show 2<=sizeLine;decide,λp4 hp4=>?_⟩
  have np4:p4≠fd:=λz=>by rw [z,ef3] at hp4;cases hp4
  have np5:p4≠ps:=λz=>by rw [z,ep3] at hp4;cases hp4
  have np4':p4≠p:=λz=>by rw [z,e3] at hp4;cases hp4
  have U4:=U3.lay (o:=.lst [V.int 6,V.int 19]) hp4
  have e4:upd H3 p4 (.lst [V.int 6,V.int 19]) p4=some (.lst [V.int 6,V.int 19]):=af
  have ef4:upd H3 p4 (.lst [V.int 6,V.int 19]) fd=_:=(ao (Ne.symm np4)).trans ef3
  have ep4:upd H3 p4 (.lst [V.int 6,V.int 19]) ps=_:=(ao (Ne.symm np5)).trans ep3
  generalize upd H3 p4 _=H4 at *
  obtain⟨l4,k4,et4⟩:=U4.1
  refine⟨p,2,l4,b,rfl,et4,k4,by decide,by decide,λr5 H5 r50 r51 u5=>?_⟩
  have e5:=u5.us.2 _ _ np4' e4
  have ef5:=u5.us.2 _ _ nfd ef4
  have ep5:=u5.us.2 _ _ nps ep4
  have U5:=U4.trans u5.us
  obtain⟨l5,k5,et5⟩:=u5.at
  refine jI (aM.of e5) r50 (by show r5<(2:Int);exact r51) λv hv=>?_
  obtain⟨m,rfl,m0,m1⟩:∃ m,v=.int m/\0<m/\m<=19:=by
   simp only [List.mem_cons,List.not_mem_nil,or_false] at hv
   rcases hv with rfl | rfl<;>exact⟨_,rfl,by omega,by omega⟩
  refine⟨p,m,l5,b,rfl,et5,k5,m0,by omega,λr6 H6 r60 r61 u6=>?_⟩
  have U6:=U5.trans u6.us
  have ef6:=u6.us.2 _ _ nfd ef5
  have ep6:=u6.us.2 _ _ nps ep5
  refine jI (aM.of ep6) r60 (by show r6<(19:Int);omega) λv hv=>?_
  obtain⟨n,rfl,pm,n67⟩:=CU hv
  refine⟨_,kK.k (k:=Sum.inl n) ef6 ?_,if n∈ns then ns else ns++[n],_,rfl,U6.set hfd0 nfd,?_,?_,?_,uc nn,?_⟩
  ·rw [yP];exact Nat.lt_of_le_of_lt (show ns.length<=5 by omega) (by decide)
  ·rw [af,zG]
  ·exact (ao (Ne.symm nfs)).trans ep6
  ·split
   ·omega
   ·rw [List.length_append,List.length_singleton];omega
  ·intro x hx
   split at hx
   ·exact hns x hx
   ·rcases List.mem_append.mp hx with z | z
    ·exact hns x z
    ·rw [List.mem_singleton.mp z];exact⟨pm,n67⟩
 ·rintro σ' H3 ⟨ns,o3,rfl,U3,ef3,ep3,nl,nn,hns⟩
  k_data
  refine⟨fd,_,ns,rfl,ef3,vQ ns,λpl ls hpm hso hpl=>?_⟩
  exact q pl ls _ (λn hn=>hns n (hpm.mem_iff.mp hn)) (hpm.nodup_iff.mpr nn) (by rw [hpm.length_eq];omega) (U3.lay hpl) (U3.free hpl) af
end
end K
namespace K
open PySem PySem.Spec PyProof.Rows L2
section
variable {P:Program} {w:World} {K:PySem.W.Frag} {mg:Str->Option Value} {base:Heap} {C:Addr}
theorem DB {a b g:Int} (ha:0<a) (hb:0<b) (h:Gd a b g):Crt.G a b g:=by
 obtain⟨g',G⟩:=Crt.uT ha hb
 have:Gd a b g':=⟨G.pos,G.da,G.db,λd h1 h2=>G.gr h1 h2⟩
 rw [h.one this]
 exact G
def pO (K:PySem.W.Frag):Sp:=λvs H Q _=>∃(a:Addr) (us:List V) (pls:List (Int × Int)),vs=[.ref a]/\aM K H a us/\aF K H (pls.map dy) us/\(∀ p∈pls,0<p.1)/\pls.length<=12/\(∀ i j y z v H',B6 pls i j y z->ax H H'->dv K H' (.tuple [.int i,.int j,dy y,dy z]) v->Q v H')/\(∀ v H',(∀ i j,i<j->¬Ap pls i j)->ax H H'->dv K H' (.tuple []) v->Q v H')
def ED (H:Hp) (a:Addr) (pls:List (Int × Int)) (i:Nat) (σ':L2.St) (H':Hp):Prop:=H'=H/\(∃ o1 o2:Option V,σ'=[some (.ref a),o1,o2])/\∀ i' j',i'<j'->i'<i->¬Ap pls i' j'
def EE (H:Hp) (a:Addr) (pls:List (Int × Int)) (i k:Nat) (σ':L2.St) (H':Hp):Prop:=H'=H/\(∃ o2:Option V,σ'=[some (.ref a),some (.int (i:Int)),o2])/\∀ j',j'<i+1+k->i<j'->¬Ap pls i j'
theorem gh:av ["_law_rows","_law_i","_law_j"] ["_law_rows"] (aj (top 52)):=dG
theorem uj (D:ay K mg "_law_apart" (top 52)) (c__law_common:Callee P w K mg base aO 1 "_law_common" ["_law_one","_law_other"] kH) (n_range:mg "range"=none) (n_len:mg "len"=none):Callee P w K mg base aO 2 "_law_apart" ["_law_rows"] (pO K):=by
 refine cO D gh (λf cdv A outer s H vs Q E hr h=>?_)
 obtain⟨a,us,pls,rfl,hS,hd,hok,hlen,q1,q2⟩:=h
 have nd:=gh.nd
 refine⟨_,(ae (bD PassesOwn.never rfl (bZ rfl n_range (aa (aD aU rfl n_len PySem.boot_len (aa (pv 0) ag)) ag)) (aq (i:=1) nd rfl (Or.inl rfl) (.inr rfl)) (ak (bD PassesOwn.never rfl (uD rfl n_range (aa (au b7 (pv 1) ah) (aa (aD aU rfl n_len PySem.boot_len (aa (pv 0) ag)) ag))) (aq (i:=2) nd rfl (Or.inl rfl) (.inr rfl)) (ak (bp (aA gc (au aL (au c6 (aB aV (aB aJ (pv 0) (pv 1) (λ_ _=>rfl)) ah (λ_ _=>rfl)) (aB aV (aB aJ (pv 0) (pv 2) (λ_ _=>rfl)) ah (λ_ _=>rfl))) (cw c__law_common hr aC (aa (aB aV (aB aJ (pv 0) (pv 1) (λ_ _=>rfl)) ah (λ_ _=>rfl)) (aa (aB aV (aB aJ (pv 0) (pv 2) (λ_ _=>rfl)) ah (λ_ _=>rfl)) ag)))) ah (aE _)) (ak (az (aG (aa (pv 1) (aa (pv 2) (aa (aB aJ (pv 0) (pv 1) (λ_ _=>rfl)) (aa (aB aJ (pv 0) (pv 2) (λ_ _=>rfl)) ag))))))) aK))))) (ak (az (aG ag)))),?_⟩
 show bJ _ _ _ [some (.ref a),none,none] H
 have hul:us.length=pls.length:=by rw [hd.length,List.length_map]
 have at_:∀{k:Nat},k<pls.length->∃ x q,us[k]?=some x/\x=.ref q/\bE K H q [.int (pls.getD k (0,0)).1,.int (pls.getD k (0,0)).2]/\pls[k]?=some (pls.getD k (0,0))/\0<(pls.getD k (0,0)).1/\dv K H (dy (pls.getD k (0,0))) x:=by
  intro k hk
  have hx:=List.getElem?_eq_getElem (show k<us.length by omega)
  have hy:=List.getElem?_eq_getElem hk
  obtain⟨d,e,hv⟩:=hd.get hx
  rw [List.getElem?_map,hy] at e
  cases e
  have eD:pls.getD k (0,0)=pls[k]:=by rw [List.getD_eq_getElem?_getD,hy];rfl
  rw [eD]
  obtain⟨q,eq,tq⟩:=fO hv
  exact⟨_,q,hx,eq,tq,hy,hok _ (List.getElem_mem hk),hv⟩
 k_data
 refine cH hS ?_
 k_data
 refine⟨by omega,by omega,?_⟩
 rw [Int.toNat_natCast,hul]
 refine bB (λi σ' H'=>ED H a pls i σ' H') ⟨rfl,⟨_,_,rfl⟩,λ_ _ _ z=>absurd z (by omega)⟩ ?_ ?_
 ·rintro i σ' H' hi ⟨eH,⟨o1,o2,rfl⟩,hno⟩
  rw [eH]
  k_data
  refine cH hS ?_
  k_data
  refine⟨by omega,by omega,by omega,by omega,?_⟩
  obtain⟨x1,c1,h1,rfl,t1,g1,m1,v1⟩:=at_ (show i<pls.length by omega)
  have ix1:∀{Q:VK},Q (V.ref c1) H->mW K (.ref a) (.int (i:Int)) H Q:=λh=>⟨a,us,_,_,rfl,rfl,hS,dA h1,h⟩
  rw [show ((us.length:Int)-((i:Int)+1)).toNat=pls.length-(i+1) by omega]
  refine bB (λk σ' H'=>EE H a pls i k σ' H') ⟨rfl,⟨_,rfl⟩,λj' z1 z2=>absurd z1 (by omega)⟩ ?_ ?_
  ·rintro k σ' H' hk ⟨eH,⟨o2,rfl⟩,hno2⟩
   rw [eH]
   obtain⟨x2,c2,h2,rfl,t2,g2,m2,v2⟩:=at_ (show i+1+k<pls.length by omega)
   have ix2:∀{Q:VK},Q (V.ref c2) H->mW K (.ref a) (.int ((i:Int)+1+(k:Int))) H Q:=λh=>⟨a,us,_,_,rfl,rfl,hS,by have:=dA h2;rwa [show ((i+1+k:Nat):Int)=(i:Int)+1+(k:Int) by omega] at this,h⟩
   k_data
   refine ix1 (br t1 rfl (ix2 (br t2 rfl ⟨_,rfl,_,rfl,ix1 (br t1 rfl (ix2 (br t2 rfl ⟨_,_,rfl,m1,Int.le_of_lt m2,λg hg=>⟨_,rfl,hg.pos,?_⟩⟩)))⟩)))
   have G:=DB m1 m2 hg
   refine bV (λc=>?_) (λc=>?_)
   ·have nd':¬g∣(pls.getD i (0,0)).2-(pls.getD (i+1+k) (0,0)).2:=λz=>c (Int.emod_eq_zero_of_dvd z)
    refine ix1 (ix2 ⟨by show 4<=sizeLine;decide,λp hp=>?_⟩)
    have s1:=ai (o:=.tup [V.int (i:Int),V.int ((i:Int)+1+(k:Int)),V.ref c1,V.ref c2]) hp
    refine q1 i (i+1+k) _ _ _ _ ⟨by omega,⟨_,_,g,g1,g2,G,nd'⟩,λi' j' z1 z2=>?_,g1,g2⟩ s1 (dv.tup af ⟨_,_,rfl,rfl,_,_,rfl,by show V.int _=V.int _;congr 1,_,_,rfl,dv.same s1 _ v1,.one (dv.same s1 _ v2)⟩)
    rcases z2 with z2 | ⟨z2,z3⟩
    ·exact hno i' j' z1 z2
    ·subst z2
     exact hno2 j' z3 z1
   ·have dd:g∣(pls.getD i (0,0)).2-(pls.getD (i+1+k) (0,0)).2:=Int.dvd_of_emod_eq_zero (Classical.not_not.mp c)
    refine⟨rfl,⟨_,rfl⟩,λj' z1 z2=>?_⟩
    rcases (by omega:j'<i+1+k∨j'=i+1+k) with z | z
    ·exact hno2 j' z z2
    ·subst z
     rintro⟨p',q',g',e1,e2,e3,e4⟩
     rw [g1] at e1;cases e1
     rw [g2] at e2;cases e2
     obtain rfl:=G.one e3
     exact e4 dd
  ·rintro σ' H' ⟨eH,⟨o2,rfl⟩,hno2⟩
   refine⟨eH,⟨_,_,rfl⟩,λi' j' z1 z2=>?_⟩
   rcases (by omega:i'<i∨i'=i) with z | z
   ·exact hno i' j' z1 z
   ·subst z
    by_cases z3:j'<pls.length
    ·exact hno2 j' (by omega) z1
    ·rintro⟨p',q',g',e1,e2,e3,e4⟩
     have:=(List.getElem?_eq_some_iff.mp e2).1
     omega
 ·rintro σ' H' ⟨eH,⟨o1,o2,rfl⟩,hno⟩
  rw [eH]
  k_data
  refine⟨by show 0<=sizeLine;decide,λp hp=>q2 _ _ (λi j ij=>?_) (ai hp) (dv.tup af rfl)⟩
  by_cases z3:i<pls.length
  ·exact hno i j ij z3
  ·rintro⟨p',q',g',e1,e2,e3,e4⟩
   have:=(List.getElem?_eq_some_iff.mp e1).1
   omega
def DT:WO->PyData
 | .no n e r=>.tuple [.none,.tuple [.str "none",.int n,.int e,.int r]]
 | .ap i j y z=>DP i j y z
 | .is pls=>.tuple [.str "is",.tuple [.str "by",.tuple (pls.map dy)]]
def xy (K:PySem.W.Frag):Sp:=λvs H Q _=>∃(pl:Addr) (ls:List Int) (b a:Int),vs=[.ref pl,.int b,.int a]/\aM K H pl (ls.map V.int)/\(∀ n∈ls,Num.Pm n/\n<=67)/\ls.length<=5/\(∀ p∈ls,¬p∣a/\¬p∣b) /\ -(10^60)<=b/\b<=10^60 /\ -(10^60)<=a/\a<=10^60/\∀ o v H',nB ls b a o->ax H H'->dv K H' (DT o) v->Q v H'
def EB (K:PySem.W.Frag) (H:Hp) (pl pr:Addr) (ls:List Int) (b a:Int) (i:Nat) (σ':L2.St) (H':Hp):Prop:=ax H H'/\H pr=none/\(∃ o4 o5 o6 o7:Option V,σ'=[some (.ref pl),some (.int b),some (.int a),some (.ref pr),o4,o5,o6,o7])/\∃(us:List V) (pls:List (Int × Int)),H' pr=some (.lst us)/\aF K H' (pls.map dy) us/\pls.length=i/\(∀(j:Nat) p y,ls[j]?=some p->pls[j]?=some y->∃ e x:Nat,y=((e:Int),(x:Int))/\x<e/\Num.Ord p b e/\(e:Int)<p/\Num.Al p a (b^x))/\∀(j:Nat) p e,j<i->ls[j]?=some p->Num.Ord p b e->Num.Al p (a^e) 1
def EK (H2:Hp) (pl pr po:Addr) (b a:Int) (i:Nat) (p:Int) (k:Nat) (σ':L2.St) (H':Hp):Prop:=H'=H2/\∃ o7:Option V,σ'=[some (V.ref pl),some (V.int b),some (V.int a),some (V.ref pr),some (V.int (i:Int)),some (V.ref po),some (.int (a^k%p)),o7]
theorem jh:av ["_law_primes_here","_law_b","_law_a","_law_rows","_law_n","_law_some","_law_rest","_law_k"] ["_law_primes_here","_law_b","_law_a"] (aj (top 53)):=dG
theorem y4 (D:ay K mg "_law_due" (top 53)) (c__law_powers:Callee P w K mg base aO 1 "_law_powers" ["_law_p","_law_b"] nj) (c__law_apart:Callee P w K mg base aO 2 "_law_apart" ["_law_rows"] (pO K)) (n_range:mg "range"=none) (n_len:mg "len"=none) (n_tuple:mg "tuple"=none):Callee P w K mg base aO 3 "_law_due" ["_law_primes_here","_law_b","_law_a"] (xy K):=by
 refine cO D jh (λf cdv A outer s H vs Q E hr h=>?_)
 obtain⟨pl,ls,b,a,rfl,hS,hls,ll,nab,b0,b1,a0,a1,q⟩:=h
 have nd:=jh.nd
 refine⟨_,(ae (bG (i:=3) nd (dt ag)) (ae (bD PassesOwn.never rfl (bZ rfl n_range (aa (aD aU rfl n_len PySem.boot_len (aa (pv 0) ag)) ag)) (aq (i:=4) nd rfl (Or.inl rfl) (.inr rfl)) (ae (bG (i:=5) nd (cw c__law_powers hr aC (aa (aB aJ (pv 0) (pv 4) (λ_ _=>rfl)) (aa (pv 1) ag)))) (ae (bp (aA gU (au aL (pv 2) (aB aJ (pv 0) (pv 4) (λ_ _=>rfl))) (pv 5) (by with_unfolding_all rfl)) (ae (bG (i:=6) nd ah) (ae (bD PassesOwn.never rfl (bZ rfl n_range (aa (aD aU rfl n_len PySem.boot_len (aa (pv 5) ag)) ag)) (aq (i:=7) nd rfl (Or.inl rfl) (.inr rfl)) (ak (bG (i:=6) nd (au aL (au aI (pv 6) (pv 2)) (aB aJ (pv 0) (pv 4) (λ_ _=>rfl)))))) (ak (az (aG (aa dQ (aa (aG (aa bI (aa (pv 4) (aa (aD aU rfl n_len PySem.boot_len (aa (pv 5) ag)) (aa (pv 6) ag))))) ag))))))) aK) (ak (dF (oU PySem.F.plainAttrs_list PySem.F.slot_list_append PySem.F.type_list_append fQ (pv 3) (aa (aG (aa (aD aU rfl n_len PySem.boot_len (aa (pv 5) ag)) (aa (oU PySem.F.plainAttrs_list PySem.F.slot_list_index PySem.F.type_list_index vW (pv 5) (aa (au aL (pv 2) (aB aJ (pv 0) (pv 4) (λ_ _=>rfl))) ag)) ag))) ag))))))) (ae (bp (aA (wF hr.units) (cw c__law_apart hr aC (aa (pv 3) ag)) (aG ag) (aE _)) (ak (az (aG (aa dQ (aa (au zi (aG (aa bI ag)) (cw c__law_apart hr aC (aa (pv 3) ag))) ag))))) aK) (ak (az (aG (aa bI (aa (aG (aa bI (aa (bY bR rfl n_tuple L2.boot_tuple (aa (pv 3) ag)) ag))) ag)))))))),?_⟩
 show bJ _ _ _ [some (.ref pl),some (.int b),some (.int a),none,none,none,none,none] H
 k_data
 refine⟨by show 0<=sizeLine;decide,λpr hpr=>cH (hS.same (ai hpr)) ⟨_,rfl,by rw [List.length_map];omega,by rw [List.length_map];omega,?_⟩⟩
 rw [Int.toNat_natCast,List.length_map]
 have s0:=ai (o:=.lst []) hpr
 have e0:upd H pr (.lst []) pr=some (.lst []):=af
 generalize upd H pr _=H0 at *
 refine bB (λi σ' H'=>EB K H pl pr ls b a i σ' H') ⟨s0,hpr,⟨_,_,_,_,rfl⟩,[],[],e0,rfl,rfl,(λj p y z1 z2=>by simp at z2),λj p e z=>by omega⟩ ?_ ?_
 ·rintro i σ' H1 hi ⟨s1,_,⟨o4,o5,o6,o7,rfl⟩,us,pls,e1,hd1,pll,hpls,hno⟩
  have hx:=List.getElem?_eq_getElem hi
  generalize ls[i]=p at *
  obtain⟨pm,p67⟩:=hls p (List.mem_of_getElem? hx)
  obtain⟨na,nb⟩:=nab p (List.mem_of_getElem? hx)
  have p2:=pm.two
  have ixp:∀{H':Hp} {Q:VK},ax H H'->Q (V.int p) H'->mW K (.ref pl) (.int (i:Int)) H' Q:=λ{H' Q} sx h=>⟨pl,_,_,_,rfl,rfl,hS.same sx,dA (by rw [List.getElem?_map,hx];rfl),h⟩
  k_data
  refine ixp s1 ⟨p,b,rfl,pm,by omega,b0,b1,nb,λe po H2 o ep s2 f2 e2=>?_⟩
  have S2:=s1.trans s2
  have e1p:=o.pos
  refine ixp S2 ⟨p,rfl,by omega,po,_,rfl,.inl (aM.of e2),rfl,pE,_,rfl,?_⟩
  cases hin:Bi (V.int (a%p)) (qd p b e) with
  | false =>
   rw [if_pos (by rfl)]
   refine cH (aM.of e2) ?_
   rw [fU]
   refine⟨_,rfl,by omega,by omega,?_⟩
   rw [Int.toNat_natCast]
   have r0:=λx:Int=>Int.emod_nonneg x (show p≠0 by omega)
   have r1:=λx:Int=>Int.emod_lt_of_pos x (show 0<p by omega)
   refine bB (λk σ' H'=>EK H2 pl pr po b a i p k σ' H') ⟨rfl,o7,?_⟩ ?_ ?_
   ·rw [Int.pow_zero,Int.emod_eq_of_lt (by decide) (by omega)]
   ·rintro k σ' H' hk ⟨eH,o7,rfl⟩
    rw [eH]
    have h0:=r0 (a^k)
    have h1:=r1 (a^k)
    k_data
    refine⟨Bd.of (by omega) (by omega),Bd.of (by omega) (by omega),ixp S2 ⟨p,rfl,by omega,rfl,_,by rw [Pw.vZ,<- Int.pow_succ]⟩⟩
   ·rintro σ' H' ⟨eH,o7,rfl⟩
    rw [eH]
    k_data
    refine cH (aM.of e2) ?_
    rw [fU]
    refine⟨by show 4<=sizeLine;decide,λp3 hp3=>⟨by show 2<=sizeLine;decide,λp4 hp4=>?_⟩⟩
    have s3:=ai (o:=.tup [V.str "none",V.int (i:Int),V.int (e:Int),V.int (a^e%p)]) hp3
    have s4:=ai (o:=.tup [V.non,V.ref p3]) hp4
    refine q (.no i e (a^e%p)) _ _ ⟨p,hx,o,λz=>?_,rfl,hno⟩ (S2.trans (s3.trans s4)) (dv.tup af ⟨_,_,rfl,rfl,.one (dv.tup (s4 _ _ af) ⟨_,_,rfl,rfl,_,_,rfl,rfl,_,_,rfl,rfl,.one rfl⟩)⟩)
    obtain⟨x,xe,al⟩:=Num.oX pm o z
    have:=xi.mpr ⟨x,xe,Num.Al.iff.mp al.symm⟩
    rw [hin] at this
    cases this
  | true =>
   rw [if_neg (by decide)]
   obtain⟨x,xe,hxp⟩:=xi.mp hin
   have al:Num.Al p a (b^x):=(Num.Al.iff.mpr hxp).symm
   have hat:(qd p b e)[x]?=some (V.int (b^x%p)):=by
    unfold qd
    rw [List.getElem?_map,List.getElem?_range xe]
    rfl
   have e12:=s2 _ _ e1
   refine⟨.inl ⟨rfl,_,aM.of e12⟩,cH (aM.of e2) ?_⟩
   rw [fU]
   refine⟨.inl ⟨rfl,_,aM.of e2⟩,ixp S2 ⟨p,rfl,by omega,po,_,_,x,rfl,rfl,e2,rfl,pE,⟨_,hat,by simp [mn,hxp]⟩,λj z hj hz=>?_,by show 2<=sizeLine;decide,λp3 hp3=>?_⟩⟩
   ·obtain⟨je,rfl⟩:=BH hz
    rcases hc:mn (V.int (b^j%p)) (V.int (a%p)) with _ | _
    ·rfl
    ·have h3:b^j%p=a%p:=by simpa [mn] using hc
     have:=o.h7 je xe (h3.trans hxp.symm)
     omega
   have s3:=ai (o:=.tup [V.int (e:Int),V.int (x:Int)]) hp3
   have e3:upd H2 p3 (.tup [V.int (e:Int),V.int (x:Int)]) p3=some (.tup [V.int (e:Int),V.int (x:Int)]):=af
   have e13:=s3 _ _ e12
   have hd3:=aF.same (s2.trans s3) _ hd1
   generalize upd H2 p3 _=H3 at *
   have S3:=S2.trans s3
   have ul:us.length=i:=by rw [hd1.length,List.length_map,pll]
   refine⟨pr,us,_,rfl,rfl,e13,by rw [ul];exact Nat.lt_of_le_of_lt (show i<=5 by omega) (by decide),?_⟩
   have np:p3≠pr:=λz=>by rw [z] at hp3;rw [e12] at hp3;cases hp3
   have kT:=tX (vs:=us++[.ref p3]) e13
   refine⟨S3.upd hpr,hpr,⟨_,_,_,_,rfl⟩,us++[.ref p3],pls++[((e:Int),(x:Int))],af,?_,by simp [pll],nh (R:=λp y=>∃ e x:Nat,y=((e:Int),(x:Int))/\x<e/\Num.Ord p b e/\(e:Int)<p/\Num.Al p a (b^x)) hpls (by rw [pll];exact hx) ⟨e,x,rfl,xe,o,ep,al⟩,λj p' e' ji h1 h2=>?_⟩
   ·rw [List.map_append]
    exact aF.append (aF.dk kT _ (fk (λ_=>rfl) pls) hd3) (.one (dv.tup ((ao np).trans e3) ⟨_,_,rfl,rfl,.one rfl⟩))
   ·rcases (by omega:j<i∨j=i) with z | z
    ·exact hno j p' e' z h1 h2
    ·rw [z,hx] at h1
     cases h1
     rw [h2.iS o]
     have h4:=al.pow e
     refine h4.trans ?_
     rw [<- Int.pow_mul,Nat.mul_comm,Int.pow_mul]
     have h5:=o.one.pow x
     rwa [Int.one_pow] at h5
 ·rintro σ' H1 ⟨s1,_,⟨o4,o5,o6,o7,rfl⟩,us,pls,e1,hd1,pll,hpls,hno⟩
  k_data
  have hPl:yh ls b a pls:=⟨pll,hpls⟩
  have okp:∀ y∈pls,0<y.1:=λy hy=>by
   obtain⟨i,hi,ey⟩:=List.mem_iff_getElem.mp hy
   obtain⟨e,x,rfl,xe,_⟩:=hpls i _ y (List.getElem?_eq_getElem (show i<ls.length by omega)) (by rw [<- ey];exact List.getElem?_eq_getElem hi)
   show (0:Int)<e
   omega
  refine⟨pr,us,pls,rfl,aM.of e1,hd1,okp,by omega,λi j y z v H2 hF s2 hv=>⟨by show 0<=sizeLine;decide,λp hp=>?_⟩,λv H2 no s2 hv=>⟨by show 0<=sizeLine;decide,λp hp=>?_⟩⟩
  ·have s3:=ai (o:=.tup []) hp
   have S3:=s1.trans (s2.trans s3)
   refine⟨_,_,dv.same s3 _ hv,dv.tup (ds:=[]) af rfl,rfl,rfl,?_,_,rfl,?_⟩
   ·exact Nat.le_trans (Nat.min_le_right _ _) (by decide)
   rw [if_pos (by rfl)]
   refine⟨by show 1<=sizeLine;decide,λp5 hp5=>?_⟩
   have s5:=ai (o:=.tup [V.str "apart"]) hp5
   have e5:upd (upd H2 p (.tup [])) p5 (.tup [V.str "apart"]) p5=some (.tup [V.str "apart"]):=af
   generalize upd (upd H2 p (.tup [])) p5 _=H5 at *
   have S5:=(s2.trans s3).trans s5
   refine⟨pr,us,pls,rfl,aM.of (S5 _ _ e1),aF.same S5 _ hd1,okp,by omega,λi' j' y' z' v' H6 hF' s6 hv'=>?_,λv' H6 no'=>absurd hF.ap (no' i j hF.lt)⟩
   obtain⟨p6,xs6,rfl,t6,hx6⟩:=hv'
   refine⟨p5,p6,_,_,rfl,rfl,bE.of (s6 _ _ e5),t6,by rw [hx6.length];exact Nat.le_trans (show 5<=5 by decide) (by decide),λp7 H7 s7 t7=>⟨by show 2<=sizeLine;decide,λp8 hp8=>?_⟩⟩
   have s8:=ai (o:=.tup [V.non,V.ref p7]) hp8
   have S8:=S5.trans (s6.trans (s7.trans s8))
   exact q (.ap i' j' y' z') _ _ ⟨pls,hPl,hF'⟩ (s1.trans S8) (dv.tup af ⟨_,_,rfl,rfl,.one ⟨p7,_,rfl,t7.same s8,⟨_,_,rfl,rfl,aF.same (s7.trans s8) _ hx6⟩⟩⟩)
  ·have s3:=ai (o:=.tup []) hp
   have S3:=s1.trans (s2.trans s3)
   refine eY (d:=.tuple []) (dv.same s3 _ hv) (dv.tup af rfl) rfl (by decide) ⟨_,rfl,?_⟩
   rw [if_neg (by decide)]
   refine⟨us,.inl ⟨aM.of (s3 _ _ (s2 _ _ e1)),λl hl'=>⟨by show 2<=sizeLine;decide,λp5 hp5=>⟨by show 2<=sizeLine;decide,λp6 hp6=>?_⟩⟩⟩⟩
   have s4:=ai (o:=.tup us) hl'
   have s5:=ai (o:=.tup [V.str "by",V.ref l]) hp5
   have s6:=ai (o:=.tup [V.str "is",V.ref p5]) hp6
   have S6:=s2.trans (s3.trans (s4.trans (s5.trans s6)))
   exact q (.is pls) _ _ ⟨hPl,no⟩ (s1.trans S6) (dv.tup af ⟨_,_,rfl,rfl,.one (dv.tup (s6 _ _ af) ⟨_,_,rfl,rfl,.one (dv.tup (s6 _ _ (s5 _ _ af)) (aF.same S6 _ hd1))⟩)⟩)
theorem yh.al {ps:List Int} {b a:Int} {pls:List (Int × Int)} (h:yh ps b a pls) {n:Nat} {p:Int} {e:Nat} (hp:ps[n]?=some p) (o:Num.Ord p b e):Num.Al p (a^e) 1:=by
 have hn:=(List.getElem?_eq_some_iff.mp hp).1
 have hl:=h.len
 obtain⟨e',x,_,_,o',_,al⟩:=h.ok n p _ hp (List.getElem?_eq_getElem (show n<pls.length by omega))
 refine (al.pow e).trans ?_
 rw [<- Int.pow_mul,Nat.mul_comm,Int.pow_mul]
 have h5:=o.one.pow x
 rwa [Int.one_pow] at h5
theorem yh.one {ps:List Int} {b a:Int} {pls pls':List (Int × Int)} (h:yh ps b a pls) (h':yh ps b a pls'):pls=pls':=by
 refine List.ext_getElem (by rw [h.len,h'.len]) λn h1 h2=>?_
 have hp:=List.getElem?_eq_getElem (show n<ps.length by rw [<- h.len];exact h1)
 obtain⟨e,x,ey,xe,o,_,al⟩:=h.ok n _ _ hp (List.getElem?_eq_getElem h1)
 obtain⟨e',x',ey',xe',o',_,al'⟩:=h'.ok n _ _ hp (List.getElem?_eq_getElem h2)
 obtain rfl:=o.iS o'
 obtain rfl:=Num.uF o xe xe' al al'
 rw [ey,ey']
theorem B6.one {pls:List (Int × Int)} {i j i' j':Nat} {y z y' z':Int × Int} (h:B6 pls i j y z) (h':B6 pls i' j' y' z'):i=i'/\j=j'/\y=y'/\z=z':=by
 have l:=h.lt
 have l':=h'.lt
 have e:i=i'/\j=j':=by
  by_cases c1:i'<i∨(i'=i/\j'<j)
  ·exact absurd h'.ap (h.no _ _ l' c1)
  by_cases c2:i<i'∨(i=i'/\j<j')
  ·exact absurd h.ap (h'.no _ _ l c2)
  omega
 obtain⟨rfl,rfl⟩:=e
 have a1:=h.Ad
 have a2:=h.at2
 rw [h'.Ad] at a1
 rw [h'.at2] at a2
 cases a1
 cases a2
 exact⟨rfl,rfl,rfl,rfl⟩
theorem nB.one {ps:List Int} {b a:Int}:∀{o o':WO},nB ps b a o->nB ps b a o'->o=o'
 | .no n e r,.no n' e' r',⟨p,hp,h1,h2,h3,h4⟩,⟨p',hp',h1',h2',h3',h4'⟩=>by
  have en:n=n':=by
   rcases (by omega:n<n'∨n=n'∨n'<n) with z | z | z
   ·exact absurd (h4' n p e z hp h1) h2
   ·exact z
   ·exact absurd (h4 n' p' e' z hp' h1') h2'
  subst en
  rw [hp] at hp'
  cases hp'
  obtain rfl:=h1.iS h1'
  rw [h3,h3']
 | .no n e r,.ap i j y z,⟨p,hp,h1,h2,_⟩,⟨pls,hP,_⟩=>absurd (hP.al hp h1) h2
 | .no n e r,.is pls,⟨p,hp,h1,h2,_⟩,⟨hP,_⟩=>absurd (hP.al hp h1) h2
 | .ap i j y z,.no n e r,⟨pls,hP,_⟩,⟨p,hp,h1,h2,_⟩=>absurd (hP.al hp h1) h2
 | .is pls,.no n e r,⟨hP,_⟩,⟨p,hp,h1,h2,_⟩=>absurd (hP.al hp h1) h2
 | .ap i j y z,.ap i' j' y' z',⟨pls,hP,hF⟩,⟨pls',hP',hF'⟩=>by
  obtain rfl:=hP.one hP'
  obtain⟨rfl,rfl,rfl,rfl⟩:=hF.one hF'
  rfl
 | .ap i j y z,.is pls',⟨pls,hP,hF⟩,⟨hP',no⟩=>by
  obtain rfl:=hP.one hP'
  exact absurd hF.ap (no _ _ hF.lt)
 | .is pls,.ap i j y z,⟨hP,no⟩,⟨pls',hP',hF⟩=>by
  obtain rfl:=hP.one hP'
  exact absurd hF.ap (no _ _ hF.lt)
 | .is pls,.is pls',⟨hP,_⟩,⟨hP',_⟩=>by rw [hP.one hP']
def rA (K:PySem.W.Frag):Sp:=λvs H Q _=>∃(pa:Addr) (us:List V) (ps:List Int) (ds:List PyData) (b a:Int),vs=[.ref pa,.int b,.int a]/\aM K H pa us/\aF K H ds us/\iH ps ds/\ps.length<=12/\(∀ p∈ps,p<=10^6) /\ -(10^60)<=b/\b<=10^60 /\ -(10^60)<=a/\a<=10^60/\((∃ p∈ps,p∣a∨p∣b)->∀ r H',ax H H'->H' r=some (.lst [.bl true,.non])->Q (.ref r) H') /\
 ((∀ p∈ps,¬p∣a/\¬p∣b)->∀ o x v r H',nB ps b a o->rH x o->ax H H'->dv K H' (Du x o) v->H' r=some (.lst [.bl false,v])->Q (.ref r) H')
theorem ic:av ["_law_papers","_law_b","_law_a","_law_refused","_law_found"] ["_law_papers","_law_b","_law_a"] (aj (top 54)):=dG
theorem zh {CN:Addr} (D:ay K mg "_law_told" (top 54)) (c_which_of:jw P w K mg base (dO P w) 15 "which_of" ["papers","b","a","kept"] [.none] (lY K CN)) (x_Nought:uY K mg "Nought" CN) (m0:PySem.W.mroIn K CN (.ref CN)=some true):Callee P w K mg base aO 16 "_law_told" ["_law_papers","_law_b","_law_a"] (rA K):=by
 refine cO D ic (λf cdv A outer s H vs Q E hr h=>?_)
 obtain⟨pa,us,ps,ds,b,a,rfl,hS,hd,hP,hl,p6,b0,b1,a0,a1,q1,q2⟩:=h
 have nd:=ic.nd
 refine⟨_,(ae (bG (i:=3) nd gd) (ae (bG (i:=4) nd dQ) (ae (xb (i:=4) c_which_of (.cons (show RelV V.non _ from rfl) .nil) (hr.mono (by decide)) rfl rfl rfl nd rfl rfl (aa (pv 0) (aa (pv 1) (aa (pv 2) ag))) (CQ x_Nought.cls rfl x_Nought.at_ (λ_=>(ak (bG (i:=3) nd gd))))) (ak (az (dt (aa (pv 3) (aa (pv 4) ag)))))))),?_⟩
 show bJ _ _ _ [some (.ref pa),some (.int b),some (.int a),none,none] H
 k_data
 refine⟨pa,us,ps,ds,b,a,rfl,hS,hd,hP,hl,p6,b0,b1,a0,a1,λhz x H4 s4 f4 e4=>?_,λna o x v H4 hO hT s4 hv=>?_⟩
 ·exact⟨CN,rfl,x,rfl,none,e4,x_Nought.cls,m0,by show 2<=sizeLine;decide,λr hr'=>q1 hz r _ (s4.trans (ai hr')) af⟩
 ·exact⟨by show 2<=sizeLine;decide,λr hr'=>q2 na o x v r _ hO hT (s4.trans (ai hr')) (dv.same (ai hr') _ hv) af⟩
def sE (K:PySem.W.Frag):Sp:=λvs H Q _=>∃(v:V) (pls:List (Int × Int)) (x W:Int),vs=[v,.int x]/\dv K H (.tuple (pls.map dy)) v/\pls.length<=5/\(∀ y∈pls,0<=y.2/\y.2<y.1/\y.1<=67)/\Crt.Told pls W x/\∀ H',ax H H'->Q (.bl true) H'
def EM (H:Hp) (p:Addr) (x:Int) (pls:List (Int × Int)) (i:Nat) (σ':L2.St) (H':Hp):Prop:=H'=H/\∃(m:Int) (o3 o4:Option V),σ'=[some (.ref p),some (.int x),some (.int m),o3,o4]/\0<m/\m<=67^i/\∀ y∈pls.take i,y.1∣m
theorem dZ:av ["_law_rows","_law_x","_law_whole","_law_e","_law_y"] ["_law_rows","_law_x"] (aj (top 55)):=dG
theorem uk (D:ay K mg "_law_is_least" (top 55)) (c__law_common:Callee P w K mg base aO 1 "_law_common" ["_law_one","_law_other"] kH) (n_isinstance:mg "isinstance"=none) (n_int:mg "int"=none) (n_bool:mg "bool"=none):Callee P w K mg base aO 2 "_law_is_least" ["_law_rows","_law_x"] (sE K):=by
 refine cO D dZ (λf cdv A outer s H vs Q E hr h=>?_)
 obtain⟨v,pls,x,W,rfl,hv,ll,hok,T,q⟩:=h
 obtain⟨p,us,rfl,hS,hd⟩:=hv
 have x0:=T.x0
 have x1:=T.x1
 have nd:=dZ.nd
 refine⟨_,(ae (bp (PW.pt (pG (rj (b9 (aD nL rfl n_isinstance PyProof.Rows.boot_isinstance (aa (pv 1) (aa (mP (v:=.ty "int") rfl n_int L2.boot_int rfl) ag))) (λ_=>rfl))) (pG (b9 (aD nL rfl n_isinstance PyProof.Rows.boot_isinstance (aa (pv 1) (aa (mP (v:=.ty "bool") rfl n_bool L2.boot_bool rfl) ag))) (λ_=>rfl)) (ro (aA gb (pv 1) ah (aE _)))))) (ak (az gd)) aK) (ae (bG (i:=2) nd ah) (ae (bD PassesOwn.never rfl (iT (pv 0)) (cz (n:=2) rfl (aw (aq (i:=3) nd rfl (Or.inl rfl) (.inr rfl)) (aw (aq (i:=4) nd rfl (Or.inl rfl) (.inr rfl)) aP))) (ae (bG (i:=2) nd (au aI (au cp (pv 2) (cw c__law_common hr aC (aa (pv 2) (aa (pv 3) ag)))) (pv 3))) (ak (bp (aA gc (au aL (pv 1) (pv 3)) (pv 4) (aE _)) (ak (az gd)) aK)))) (ak (az (dB gb (pv 1) (pv 2) (aE _))))))),?_⟩
 show bJ _ _ _ [some (.ref p),some (.int x),none,none,none] H
 k_data
 refine rR oq ?_
 k_data
 refine rR mG ⟨false,dI.mpr rfl,?_⟩
 rw [if_neg (by decide),if_neg (by omega)]
 have hul:us.length=pls.length:=by rw [hd.length,List.length_map]
 refine⟨⟨_,hS⟩,?_⟩
 refine oA (xs:=us) (λi σ' H'=>EM H p x pls i σ' H') ⟨rfl,1,_,_,rfl,by decide,by decide,λy hy=>by simp at hy⟩ (λi σ' H' _ h=>h.1▸hS) ?_ ?_
 ·rintro i u σ' H' hx ⟨eH,m,o3,o4,rfl,m0,m1,hm⟩
  rw [eH]
  obtain⟨d,ed,hv⟩:=hd.get hx
  rw [List.getElem?_map] at ed
  obtain⟨y,hy,rfl⟩:=Option.map_eq_some_iff.mp ed
  obtain⟨y0,y1,y67⟩:=hok y (List.mem_of_getElem? hy)
  have al:=T.al y (List.mem_of_getElem? hy)
  have il:=(List.getElem?_eq_some_iff.mp hy).1
  obtain⟨pq,rfl,tq⟩:=fO hv
  refine⟨pq,_,rfl,tq,rfl,?_⟩
  have p5:∀ i:Nat,i<6->(67:Int)^i<=10^20:=by decide
  have pi:=p5 i (by omega)
  k_data
  refine⟨m,y.1,rfl,m0,by omega,λg hg=>?_⟩
  have g0:=hg.pos
  have gm:=Int.le_of_dvd m0 hg.dn
  obtain⟨k,hk⟩:=hg.dn
  obtain⟨k',hk'⟩:=hg.da
  have kq:m/g=k:=by rw [hk];exact Int.mul_ediv_cancel_left _ (by omega)
  have k0:0<k:=by
   rcases (by omega:0<k∨k<=0) with z | z
   ·exact z
   ·have:g*k<=0:=Int.mul_nonpos_of_nonneg_of_nonpos (by omega) z
    omega
  have km:k<=m:=by rw [<- kq];exact Int.ediv_le_self _ (by omega)
  refine⟨_,rfl,g0,Bd.of (by omega) (by omega),?_⟩
  rw [kq]
  refine⟨Bd.of (by omega) (by omega),Bd.of (by omega) (by omega),by omega,?_⟩
  have xm:x%y.1=y.2:=by
   have h1:(x-y.2)%y.1=0:=Int.emod_eq_zero_of_dvd al
   have h2:=Int.emod_emod_of_dvd x (Int.dvd_refl y.1)
   have h3:x%y.1=y.2%y.1:=Int.emod_eq_emod_iff_emod_sub_eq_zero.mpr h1
   rw [h3,Int.emod_eq_of_lt y0 y1]
  rw [if_neg (by rw [xm];exact λz=>z rfl)]
  have pos:0<k*y.1:=Int.mul_pos k0 (by omega)
  refine⟨rfl,k*y.1,_,_,rfl,pos,?_,λz hz=>?_⟩
  ·rw [Int.pow_succ]
   exact Int.mul_le_mul (by omega) y67 (by omega) (by omega)
  ·rw [List.take_add_one,hy] at hz
   rcases List.mem_append.mp hz with c | c
   ·refine Int.dvd_trans (hm z c) ⟨k',?_⟩
    rw [hk',hk]
    grind
   ·have:z=y:=by simpa using c
    rw [this]
    exact Int.dvd_mul_left _ _
 ·rintro σ' H' ⟨eH,m,o3,o4,rfl,m0,m1,hm⟩
  rw [eH]
  rw [hul,List.take_length] at hm
  k_data
  have:=Int.le_of_dvd m0 (T.le m hm)
  rw [decide_eq_true (show x<m by omega)]
  exact q H (ax.refl _)
theorem rS:∀ pls:List (Int × Int),PyData.canLayAll0 (pls.map dy)=true/\PyData.depthAll (pls.map dy)<=3
 | []=>⟨rfl,by decide⟩
 | y::r=>by
  obtain⟨h1,h2⟩:=rS r
  have e1:(dy y).canLay0=true:=rfl
  have e2:(dy y).depth<=3:=by simp [dy,PyData.depth,PyData.depthAll]
  refine⟨by simp only [List.map_cons,PyData.canLayAll0,e1,h1,Bool.and_true],?_⟩
  simp only [List.map_cons,PyData.depthAll]
  omega
def sJ (K:PySem.W.Frag):Sp:=λvs H Q _=>∃(pl r:Addr) (ls:List Int) (b a:Int),vs=[.ref pl,.int b,.int a,.ref r]/\aM K H pl (ls.map V.int)/\(∀ n∈ls,Num.Pm n/\n<=67)/\ls.length<=5 /\ -(10^60)<=b/\b<=10^60 /\ -(10^60)<=a/\a<=10^60 /\
 (((∃ p∈ls,p∣a∨p∣b)/\H r=some (.lst [.bl true,.non]))∨((∀ p∈ls,¬p∣a/\¬p∣b)/\∃ o x v,nB ls b a o/\rH x o/\dv K H (Du x o) v/\H r=some (.lst [.bl false,v])))/\∀ H',ax H H'->Q (.bl true) H'
theorem gi:av ["_law_primes_here","_law_b","_law_a","_law_told_here","_law_due_here"] ["_law_primes_here","_law_b","_law_a","_law_told_here"] (aj (top 56)):=dG
theorem wx (D:ay K mg "_law_right" (top 56)) (c__law_due:Callee P w K mg base aO 3 "_law_due" ["_law_primes_here","_law_b","_law_a"] (xy K)) (c__law_is_least:Callee P w K mg base aO 2 "_law_is_least" ["_law_rows","_law_x"] (sE K)) (n_isinstance:mg "isinstance"=none) (n_tuple:mg "tuple"=none) (n_len:mg "len"=none):Callee P w K mg base aO 4 "_law_right" ["_law_primes_here","_law_b","_law_a","_law_told_here"] (sJ K):=by
 refine cO D gi (λf cdv A outer s H vs Q E hr h=>?_)
 obtain⟨pl,r,ls,b,a,rfl,hS,hls,ll,b0,b1,a0,a1,ht,q⟩:=h
 have nd:=gi.nd
 refine⟨_,(ae (bp (aA uw ah (gf rfl (nP (N':=["_law_p","_law_b","_law_a"]) (js:=[none,some 1,some 2]) rfl rfl) (bo (pv 0)) (λ_ _ _ _=>(aq (i:=0) (show List.Nodup [("_law_p":Str),("_law_b":Str),("_law_a":Str)] from by decide +kernel) rfl (Or.inl rfl) (.inr rfl))) (λ_ _ _ _=>aS) (λ_ _ _ _=>(au aL (au aI (pv 1) (pv 2)) (pv 0)))) (by with_unfolding_all rfl)) (ak (az (aB aJ (pv 3) ah (λ_ _=>rfl)))) aK) (ae (bp (PW.pt (pG (b9 (aB aJ (pv 3) ah (λ_ _=>rfl)) (λ_=>rfl)) (pG (rj (b9 (aD tD rfl n_isinstance PyProof.Rows.boot_isinstance (aa (aB aJ (pv 3) ah (λ_ _=>rfl)) (aa (mP (v:=.ty "tuple") rfl n_tuple L2.boot_tuple rfl) ag))) (λ_=>rfl))) (ro (aA gc (aD aU rfl n_len PySem.boot_len (aa (aB aJ (pv 3) ah (λ_ _=>rfl)) ag)) ah (aE _)))))) (ak (az gd)) aK) (ae (bG (i:=4) nd (cw c__law_due hr aC (aa (pv 0) (aa (pv 1) (aa (pv 2) ag))))) (ae (bp (aA qX (aB aV (pv 4) ah (λ_ _=>rfl)) dQ (aE _)) (ak (az (wJ (dB qX (aB aV (aB aJ (pv 3) ah (λ_ _=>rfl)) ah (λ_ _=>rfl)) dQ (aE _)) (wN (dB (wD hr.units) (aB aJ (pv 3) ah (λ_ _=>rfl)) (pv 4) (aE _)))))) aK) (ak (az (wJ (dB (wD hr.units) (aB aV (aB aJ (pv 3) ah (λ_ _=>rfl)) ah (λ_ _=>rfl)) (aB aV (pv 4) ah (λ_ _=>rfl)) (aE _)) (wN (cw c__law_is_least hr aC (aa (aB aV (aB aV (pv 4) ah (λ_ _=>rfl)) ah (λ_ _=>rfl)) (aa (aB aV (aB aJ (pv 3) ah (λ_ _=>rfl)) ah (λ_ _=>rfl)) ag))))))))))),?_⟩
 show bJ _ _ _ [some (.ref pl),some (.int b),some (.int a),some (.ref r),none] H
 k_data
 refine⟨⟨_,hS⟩,?_⟩
 refine bA (xs:=ls.map V.int) (λi zs H1=>H1=H/\zs=((ls.take i).map λp=>b*a%p).map V.int) ⟨rfl,rfl⟩ (by rw [List.length_map];exact Nat.le_trans ll (by decide)) (λi zs H1 hi ⟨e1,e2⟩=>⟨e1▸hS,by rw [e2,List.length_map,List.length_map,List.length_take];omega⟩) ?_ ?_
 ·rintro i x zs H1 hx ⟨eH,ez⟩
  rw [eH]
  rw [List.getElem?_map] at hx
  obtain⟨p,hp,rfl⟩:=Option.map_eq_some_iff.mp hx
  have p2:=(hls p (List.mem_of_getElem? hp)).1.two
  show b8 0 _ [none,some (.int b),some (.int a)] _ _
  k_data
  refine⟨⟨rfl,rfl,True.intro⟩,Bd.of (by omega) (by omega),Bd.of (by omega) (by omega),by omega,?_⟩
  rw [ez,List.take_add_one,hp,Option.toList_some,List.map_append,List.map_append]
  rfl
 rintro zs H1 pz ⟨eH,ez⟩ hpz
 rw [eH] at hpz ⊢
 rw [List.length_map,List.take_length] at ez
 have s1:=ai (o:=.lst zs) hpz
 have e1:upd H pz (.lst zs) pz=some (.lst ((ls.map λp=>b*a%p).map V.int)):=by rw [af,ez]
 generalize upd H pz _=H1 at *
 refine yJ (aM.of e1) ⟨_,rfl,?_⟩
 have iff:(0:Int)∈(ls.map λp=>b*a%p)↔∃ p∈ls,p∣a∨p∣b:=by
  rw [List.mem_map]
  constructor
  ·rintro⟨p,hp,z⟩
   refine⟨p,hp,?_⟩
   by_cases c:p∣b
   ·exact .inr c
   ·exact .inl ((hls p hp).1.or (Int.dvd_of_emod_eq_zero z) c)
  ·rintro⟨p,hp,z⟩
   refine⟨p,hp,Int.emod_eq_zero_of_dvd ?_⟩
   rcases z with z | z
   ·exact Int.dvd_trans z (Int.dvd_mul_left _ _)
   ·exact Int.dvd_trans z (Int.dvd_mul_right _ _)
 rcases ht with⟨hz,er⟩|⟨nz,o,x,v,hO,hT,hv,er⟩
 ·rw [if_pos (decide_eq_true (iff.mpr hz))]
  exact qH (aM.of (s1 _ _ er)) (by decide) rfl (q H1 s1)
 have nin:¬(0:Int)∈(ls.map λp=>b*a%p):=λz=>by
  obtain⟨p,hp,c⟩:=iff.mp z
  exact c.elim (nz p hp).1 (nz p hp).2
 rw [if_neg (by rw [decide_eq_false nin];decide)]
 have er1:=s1 _ _ er
 have hv1:=dv.same s1 _ hv
 have g0:∀{H':Hp} {Q:VK},ax H1 H'->Q (V.bl false) H'->mW K (.ref r) (.int 0) H' Q:=λsx h=>qH (aM.of (sx _ _ er1)) (by decide) rfl h
 have g1:∀{H':Hp} {Q:VK},ax H1 H'->Q v H'->mW K (.ref r) (.int 1) H' Q:=λsx h=>qH (aM.of (sx _ _ er1)) (by decide) rfl h
 have R:=ax.refl H1
 obtain⟨dd1,dd2,ew⟩:∃ d1 d2,Du x o=.tuple [d1,d2]:=by cases o<;>exact⟨_,_,rfl⟩
 rw [ew] at hv1
 refine g0 R ⟨false,dI.mpr rfl,?_⟩
 rw [if_neg (by decide)]
 refine g1 R (yL hv1 ⟨true,dI.mpr rfl,?_⟩)
 rw [if_neg (by decide)]
 obtain⟨pv,v1,v2,rfl,tv,dv1,dv2⟩:=qz hv1
 refine g1 R (jJ tv ⟨rfl,?_⟩)
 rw [if_neg (λz=>z rfl)]
 refine⟨pl,ls,b,a,rfl,hS.same s1,hls,ll,nz,b0,b1,a0,a1,λo' u H2 hO' s2 hu=>?_⟩
 obtain rfl:=hO.one hO'
 have S2:=s1.trans s2
 cases o with
 | no n e r' =>
  cases ew
  have hu':=hu
  obtain⟨pu,u1,u2,rfl,tu,du1,du2⟩:=qz hu
  cases du1
  cases dv1
  refine br tu jx ?_
  rw [if_pos rfl]
  refine g1 s2 (br (tv.same s2) jx ?_)
  rw [if_pos rfl]
  exact g1 s2 (eY (dv.same s2 _ hv1) hu' (by simp only [PyData.canLay0,PyData.canLayAll0,Bool.and_true];decide +kernel) (by simp [PyData.depth,PyData.depthAll]) (q H2 S2))
 | ap i j y z =>
  cases ew
  have hu':=hu
  obtain⟨pu,u1,u2,rfl,tu,du1,du2⟩:=qz hu
  cases du1
  cases dv1
  refine br tu jx ?_
  rw [if_pos rfl]
  refine g1 s2 (br (tv.same s2) jx ?_)
  rw [if_pos rfl]
  exact g1 s2 (eY (dv.same s2 _ hv1) hu' (by simp only [dy,PyData.canLay0,PyData.canLayAll0,Bool.and_true];decide +kernel) (by simp [dy,PyData.depth,PyData.depthAll]) (q H2 S2))
 | is pls =>
  cases ew
  obtain⟨pu,u1,u2,rfl,tu,du1,du2⟩:=qz hu
  cases du1
  cases dv1
  obtain⟨lp1,lp2⟩:=rS pls
  refine br tu jx ?_
  rw [if_neg (by intro z;cases z)]
  refine g1 s2 (br (tv.same s2) rfl (br tu rfl (eY (dv.same s2 _ dv2) du2 (by simp only [PyData.canLay0,PyData.canLayAll0,lp1,Bool.and_true];decide +kernel) (by simp only [PyData.depth,PyData.depthAll];omega) ⟨_,rfl,?_⟩)))
  rw [if_pos (by rfl)]
  obtain⟨pw,w1,w2,rfl,tw,dw1,dw2⟩:=qz du2
  refine br tu rfl (br tw rfl (g1 s2 (br (tv.same s2) jx ?_)))
  obtain⟨W,hT'⟩:=hT
  obtain⟨hPl,_⟩:=hO
  have pl':=hPl.len
  refine⟨w2,pls,x,W,rfl,dw2,by omega,λy hy=>?_,hT',λH3 s3=>q H3 (S2.trans s3)⟩
  obtain⟨i,hi,ey⟩:=List.mem_iff_getElem.mp hy
  have hp:=List.getElem?_eq_getElem (show i<ls.length by omega)
  obtain⟨e,x',rfl,xe,o',ep,_⟩:=hPl.ok i _ y hp (by rw [<- ey];exact List.getElem?_eq_getElem hi)
  have:=(hls _ (List.mem_of_getElem? hp)).2
  exact⟨by show (0:Int)<=x';omega,by show (x':Int)<e;omega,by show (e:Int)<=67;omega⟩
end
end K
namespace K
open PySem PySem.Spec PyProof.Rows L2
section
variable {P:Program} {w:World} {K:PySem.W.Frag} {mg:Str->Option Value} {base:Heap}
theorem vg {ns:List Int} {lo hi:Option Int} {x:V} (h:x∈dP (ns.map V.int) lo hi):∃ c,x=.int c:=by
 unfold dP at h
 have:=List.mem_of_mem_drop (List.mem_of_mem_take h)
 obtain⟨c,_,e⟩:=List.mem_map.mp this
 exact⟨c,e.symm⟩
theorem zH {a d L:Int} (hd:0<d) (h0:-L<=a) (h1:a<=L):-L<=a/d/\a/d<=L:=by
 have L0:0<=L:=by omega
 have h2:L*1<=L*d:=Int.mul_le_mul_of_nonneg_left (show 1<=d by omega) L0
 refine⟨Int.le_ediv_of_mul_le hd (by rw [Int.neg_mul];omega),Int.ediv_le_of_le_mul hd (by omega)⟩
def AB (K:PySem.W.Frag):Sp:=λvs H Q _=>∃(a:Addr) (ns:List Int),vs=[.ref a]/\aM K H a (ns.map V.int)/\ns.length<=63/\∀ H',Q (.bl true) H'
end
end K
namespace K
open PySem PySem.Spec PyProof.Rows L2
section
variable {P:Program} {w:World} {K:PySem.W.Frag} {mg:Str->Option Value} {base:Heap} {C:Addr}
theorem hit {p w f h:Int} (pm:Num.Pm p) (nw:¬p∣w) (h0:0<=h) (h1:h<p):∃ t:Nat,(t:Int)<p/\(f+t*w)%p=h:=by
 have p2:=pm.two
 have r0:=Int.emod_nonneg ((h-f)*w^(p-2).toNat) (show p≠0 by omega)
 have r1:=Int.emod_lt_of_pos ((h-f)*w^(p-2).toNat) (show 0<p by omega)
 refine⟨((h-f)*w^(p-2).toNat%p).toNat,by omega,?_⟩
 rw [show ((((h-f)*w^(p-2).toNat%p).toNat:Nat):Int)=(h-f)*w^(p-2).toNat%p by omega]
 have fm:=Num.mx pm nw
 rw [show (p-1).toNat=(p-2).toNat+1 by omega,Int.pow_succ] at fm
 obtain⟨c,hc⟩:=fm
 have hd:(h-f)*w^(p-2).toNat%p=(h-f)*w^(p-2).toNat-p*((h-f)*w^(p-2).toNat/p):=Int.emod_def ..
 generalize (h-f)*w^(p-2).toNat/p=d at hd
 rw [hd]
 have:f+((h-f)*w^(p-2).toNat-p*d)*w=h+p*((h-f)*c-d*w):=by grind
 rw [this,Int.add_mul_emod_self_left,Int.emod_eq_of_lt h0 h1]
def sr (K:PySem.W.Frag):Sp:=λvs H Q _=>∃(pl p:Addr) (ls:List Int) (b l:Int) (fr:Bool),vs=[.ref pl,.int b,.ref p]/\H pl=some (.lst (ls.map V.int))/\pl≠p/\(∀ n∈ls,Num.Pm n/\n<=67)/\ls.Nodup/\ls.length<=5 /\ -(10^60)<=b/\b<=10^60/\H p=some (qf l fr)/\yc l fr/\∀ x H',-(10^60)<=x->x<=10^60->Us p fr H H'->Q (.int x) H'
def EG (H2:Hp) (pl p:Addr) (b nu mo:Int) (ls:List Int) (i:Nat) (σ':L2.St) (H':Hp):Prop:=H'=H2/\∃(w f:Int) (o7 o8 o9:Option V),σ'=[some (.ref pl),some (.int b),some (.ref p),some (.int nu),some (.int mo),some (.int w),some (.int f),o7,o8,o9]/\0<w/\w<=67^i/\0<=f/\f<w/\∀ q,Num.Pm q->q∣w->q∈ls.take i
def EF (H2:Hp) (pl p:Addr) (b nu mo w f r:Int) (σ':L2.St) (H':Hp):Prop:=H'=H2/\∃(h:Int) (o9:Option V),σ'=[some (.ref pl),some (.int b),some (.ref p),some (.int nu),some (.int mo),some (.int w),some (.int f),some (.int r),some (.int h),o9]/\0<=h/\h<r
theorem gg:av ["_law_primes_here","_law_b","_law_state_here","_law_number_here","_law_more","_law_whole","_law_found","_law_p","_law_here","_law_k"] ["_law_primes_here","_law_b","_law_state_here"] (aj (top 51)):=dG
theorem wb (D:ay K mg "_law_alike" (top 51)) (c__law_take:Callee P w K mg base aO 1 "_law_take" ["_law_state_here","_law_many"] kJ) (n_range:mg "range"=none) (n_int:mg "int"=none):Callee P w K mg base aO 2 "_law_alike" ["_law_primes_here","_law_b","_law_state_here"] (sr K):=by
 refine cO D gg (λf cdv A outer s H vs Q E hr h=>?_)
 obtain⟨pl,p,ls,b,l,fr,rfl,hpl,npl,hls,nn,ll,b0,b1,hp,hl,q⟩:=h
 have nd:=gg.nd
 refine⟨_,(ae (bG (i:=3) nd (cw c__law_take hr aC (aa (pv 2) (aa (au qY ah ah) ag)))) (ae (bG (i:=4) nd (au aI (au cp (cw c__law_take hr aC (aa (pv 2) (aa ah ag))) ah) (au b7 ah (cw c__law_take hr aC (aa (pv 2) (aa ah ag)))))) (ae (bG (i:=5) nd ah) (ae (bG (i:=6) nd ah) (ae (bD PassesOwn.never rfl (bo (pv 0)) (aq (i:=7) nd rfl (Or.inl rfl) (.inr rfl)) (ae (bG (i:=8) nd ah) (ae (bD PassesOwn.never rfl (bZ rfl n_range (aa (au aL (au b7 (pv 3) (au aI (pv 4) (bY tj rfl n_int L2.boot_int (aa (dB fq (pv 7) (aB aJ (pv 0) (jg fL ah) (λ_ _=>rfl)) (aE _)) ag)))) (au c6 (pv 7) ah)) ag)) (aq (i:=9) nd rfl (Or.inl rfl) (.inr rfl)) (ak (bG (i:=8) nd (au aL (au aI (pv 8) (pv 1)) (pv 7))))) (ae (bO PassesOwn.never (aA gc (au aL (pv 6) (pv 7)) (pv 8) (aE _)) (ak (bG (i:=6) nd (au b7 (pv 6) (pv 5))))) (ak (bG (i:=5) nd (au aI (pv 5) (pv 7)))))))) (ak (az (au b7 (pv 6) (au aI (pv 5) (au c6 (cw c__law_take hr aC (aa (pv 2) (aa ah ag))) ah)))))))))),?_⟩
 show bJ _ _ _ [some (.ref pl),some (.int b),some (.ref p),none,none,none,none,none,none,none] H
 k_data
 refine⟨p,1000000,l,fr,rfl,hp,hl,by decide,by decide,λnu H1 nu0 nu1 u1=>?_⟩
 obtain⟨l1,k1,e1⟩:=u1.at
 refine⟨p,3,l1,fr,rfl,e1,k1,by decide,by decide,λr2 H2 r20 r21 u2=>⟨r2,rfl,A7 (by decide),?_⟩⟩
 obtain⟨l2,k2,e2⟩:=u2.at
 refine⟨p,6,l2,fr,rfl,e2,k2,by decide,by decide,λr3 H3 r30 r31 u3=>⟨r3,rfl,Bd.of (by omega) (by omega),Bd.of (by omega) (by omega),?_⟩⟩
 obtain⟨l3,k3,e3⟩:=u3.at
 have U3:=(u1.trans u2).trans u3
 have epl:H3 pl=some (.lst (ls.map V.int)):=U3.us.2 _ _ npl hpl
 obtain⟨mo,hmo,mo0,mo6⟩:∃ mo:Int,r2/2*(1+r3)=mo/\0<=mo/\mo<=6:=by
  rcases (by omega:r2/2=0∨r2/2=1) with z | z<;>rw [z]<;>exact⟨_,rfl,by omega,by omega⟩
 rw [hmo]
 refine⟨⟨_,aM.of epl⟩,?_⟩
 have p5:∀ i:Nat,i<6->(67:Int)^i<=10^20:=by decide
 refine df (xs:=ls.map V.int) (λi σ' H'=>EG H3 pl p b nu mo ls i σ' H') ⟨rfl,1,0,_,_,_,rfl,by decide,by decide,by decide,by decide,λq' hq hd=>?_⟩ (λi σ' H' _ h=>h.1▸aM.of epl) ?_ ?_
 ·have:=hq.two
  have:=Int.le_of_dvd (by decide) hd
  omega
 ·rintro i x σ' H' hx ⟨eH,w',f',o7,o8,o9,rfl,w0,w1,f0,f1,hq⟩
  rw [eH]
  rw [List.getElem?_map] at hx
  obtain⟨r,hr',rfl⟩:=Option.map_eq_some_iff.mp hx
  have il:=(List.getElem?_eq_some_iff.mp hr').1
  obtain⟨pm,r67⟩:=hls r (List.mem_of_getElem? hr')
  have rr:=pm.two
  have w20:=p5 i (by omega)
  have nw:¬r∣w':=λz=>by
   have h1:=hq r pm z
   obtain⟨j,hj,ej⟩:=List.mem_iff_getElem.mp h1
   have hj':j<ls.length:=by rw [List.length_take] at hj;omega
   rw [List.getElem_take] at ej
   have h2:ls[i]=r:=(List.getElem?_eq_some_iff.mp hr').2
   rw [List.length_take] at hj
   exact (List.pairwise_iff_getElem.mp nn) j i hj' il (by omega) (by rw [ej,h2])
  obtain⟨z,hz⟩:∃ z:Int,(ls.map V.int).getLast?=some (V.int z):=by
   have ne:ls.map V.int≠[]:=λc=>by
    have:=congrArg List.length c
    rw [List.length_map,List.length_nil] at this
    omega
   obtain⟨z,_,hz⟩:=List.mem_map.mp (List.getLast_mem ne)
   exact⟨z,by rw [List.getLast?_eq_some_getLast ne,hz]⟩
  k_data
  refine⟨pl,_,_,_,rfl,rfl,aM.of epl,yo hz,rfl,?_⟩
  obtain⟨c,hc,c0,c1⟩:∃ c:Int,(if V.int r=V.int z then (1:Int) else 0)=c/\0<=c/\c<=1:=⟨_,rfl,by split<;>omega,by split<;>omega⟩
  rw [hc]
  have m0:=Int.emod_nonneg (nu+mo*c) (show r-1≠0 by omega)
  have m1:=Int.emod_lt_of_pos (nu+mo*c) (show 0<r-1 by omega)
  refine⟨Bd.of (by omega) (by omega),Bd.of (by omega) (by omega),by omega,by omega,by omega,?_⟩
  generalize ((nu+mo*c)%(r-1)).toNat=cnt
  refine bB (λk σ' H'=>EF H3 pl p b nu mo w' f' r σ' H') ⟨rfl,1,_,rfl,by decide,by omega⟩ ?_ ?_
  ·rintro k σ' H' hk ⟨eH,h,o9,rfl,h0,h1⟩
   rw [eH]
   k_data
   exact⟨Bd.of (by omega) (by omega),Bd.of (by omega) (by omega),by omega,rfl,_,_,rfl,Int.emod_nonneg _ (by omega),Int.emod_lt_of_pos _ (by omega)⟩
  ·rintro σ' H' ⟨eH,h,o9,rfl,h0,h1⟩
   rw [eH]
   obtain⟨t,tr,ht⟩:=hit (f:=f') pm nw h0 h1
   k_data
   refine bQ (α:=Nat) (λk=>[some (.ref pl),some (.int b),some (.ref p),some (.int nu),some (.int mo),some (.int w'),some (.int (f'+k*w')),some (.int r),some (.int h),o9]) (λk H'=>H'=H3/\k<=t) (λk=>t-k) 0 (by rw [show f'+((0:Nat):Int)*w'=f' by simp]) ⟨rfl,Nat.zero_le _⟩ ?_
   rintro k H' ⟨eH,kt⟩
   replace kt:k<=t:=kt
   rw [eH]
   k_data
   refine⟨by omega,bV (λc2=>?_) (λc2=>?_)⟩
   ·have kt':k<t:=by
     rcases (by omega:k<t∨k=t) with z | z
     ·exact z
     ·rw [z] at c2
      exact absurd ht c2
    exact⟨_,λ_ _ z=>z,k+1,by simp only [Int.natCast_add,Int.add_mul];rw [show f'+(k:Int)*w'+w'=f'+((k:Int)*w'+((1:Nat):Int)*w') by simp;omega],rfl,kt',by show t-(k+1)<t-k;omega⟩
   ·have kw:(k:Int)*w'<=(r-1)*w':=Int.mul_le_mul_of_nonneg_right (by omega) (by omega)
    have kw0:0<=(k:Int)*w':=Int.mul_nonneg (by omega) (by omega)
    have kr:(r-1)*w'=w'*r-w':=by grind
    have wr:w'*r<=67^i*67:=Int.mul_le_mul w1 r67 (by omega) (by omega)
    have wp:0<w'*r:=Int.mul_pos w0 (by omega)
    k_data
    refine⟨Bd.of (by omega) (by omega),Bd.of (by omega) (by omega),rfl,_,_,_,_,_,rfl,wp,by rw [Int.pow_succ];exact wr,by omega,by omega,λq' hq' hd=>?_⟩
    rw [List.take_add_one,hr',Option.toList_some]
    by_cases c3:q'∣w'
    ·exact List.mem_append_left _ (hq q' hq' c3)
    ·have h3:=hq'.or hd c3
     have:q'=r:=by
      rcases (by have:=Int.le_of_dvd (by omega) h3;omega:q'=r∨q'<r) with z | z
      ·exact z
      ·exact absurd h3 (pm.no q' hq'.two z)
     rw [this]
     exact List.mem_append_right _ (List.mem_singleton.mpr rfl)
 ·rintro σ' H' ⟨eH,w',f',o7,o8,o9,rfl,w0,w1,f0,f1,hq⟩
  rw [eH]
  rw [List.length_map] at w1
  have w20:=p5 ls.length (by omega)
  k_data
  refine⟨p,2001,l3,fr,rfl,e3,k3,by decide,by decide,λr4 H4 r40 r41 u4=>⟨r4,rfl,Bd.of (by omega) (by omega),Bd.of (by omega) (by omega),?_⟩⟩
  have h1:w'*(r4-1000)<=w'*1001:=Int.mul_le_mul_of_nonneg_left (by omega) (by omega)
  have h2:w'*(-1000)<=w'*(r4-1000):=Int.mul_le_mul_of_nonneg_left (by omega) (by omega)
  exact q _ _ (by omega) (by omega) (U3.trans u4).us
theorem xn {ps:List (Int × Int)} {ds:Nat->PyData} {r:PyData} (h:r∈Num.rowsOf ps ds):∃ i q k,ps[i]?=some (q,k)/\r=.tuple [ds i,.int k]:=by
 unfold Num.rowsOf at h
 obtain⟨i,hi,e⟩:=List.mem_map.mp h
 have hi':=List.mem_range.mp hi
 have g:=List.getElem?_eq_getElem hi'
 refine⟨i,ps[i].1,ps[i].2,g,?_⟩
 rw [<- e,List.getD_eq_getElem?_getD,g]
 rfl
theorem j6:∀{ds:List PyData},(∀ d∈ds,v5 d=true)->eV ds=true
 | [],_=>rfl
 | d::ds,h=>by
  rw [eV,h d (List.mem_cons_self ..),j6 λe z=>h e (List.mem_cons_of_mem _ z)]
  rfl
theorem zu {n:Int} {d:PyData} (h:Num.i5 n d):v5 d=true:=by
 induction h with
 | mk n g ps ds h1 h2 h3 h4 h5 h6 ih =>
  simp only [v5,eV,Bool.and_true,Bool.true_and]
  refine j6 λr hr=>?_
  obtain⟨i,q,k,h,rfl⟩:=xn hr
  simp only [v5,eV,Bool.and_true]
  exact ih i q k h
theorem iH.snoc {ps:List Int} {ds:List PyData} {p:Int} {d:PyData} (h:iH ps ds) (hp:Num.i5 p d):iH (ps++[p]) (ds++[d]):=by
 have hl:=h.len
 refine⟨by simp [hl],λi p' d' e1 e2=>?_⟩
 by_cases c:i<ps.length
 ·rw [List.getElem?_append_left c] at e1
  rw [List.getElem?_append_left (by omega)] at e2
  exact h.pap i p' d' e1 e2
 ·rw [List.getElem?_append_right (by omega)] at e1 e2
  have z:i-ps.length=0:=by
   rcases Nat.eq_zero_or_pos (i-ps.length) with y | y
   ·exact y
   ·rw [List.getElem?_eq_none (by simp;omega)] at e1;cases e1
  rw [z] at e1
  rw [show i-ds.length=0 by omega] at e2
  cases e1
  cases e2
  exact hp
theorem ou:∀{ds:List PyData},(∀ d∈ds,d.canLay0=true/\d.depth<=40)->PyData.canLayAll0 ds=true/\PyData.depthAll ds<=40
 | [],_=>⟨rfl,by simp [PyData.depthAll]⟩
 | d::r,h=>by
  obtain⟨h1,h2⟩:=ou λx hx=>h x (List.mem_cons_of_mem _ hx)
  obtain⟨g1,g2⟩:=h d (List.mem_cons_self ..)
  refine⟨by simp [PyData.canLayAll0,g1,h1],?_⟩
  simp only [PyData.depthAll]
  omega
theorem wG {ps:List Int} {ds:List PyData} (h:iH ps ds) (hp:∀ p∈ps,p<=199):PyData.canLayAll0 ds=true/\PyData.depthAll ds<=40:=ou λd hd=>by
 obtain⟨i,hi,e⟩:=List.mem_iff_getElem.mp hd
 have hl:=h.len
 have hi':i<ps.length:=by omega
 obtain⟨h1,k,h2,h3⟩:=(h.pap i _ d (List.getElem?_eq_getElem hi') (by rw [<- e];exact List.getElem?_eq_getElem hi)).deep
 have:=hp _ (List.getElem_mem hi')
 have:k<10:=by
  rcases (by omega:k<10∨10<=k) with z | z
  ·exact z
  ·have h4:(2:Int)^10<=2^k:=by
    have:=Nat.pow_le_pow_right (show 0<2 by decide) z
    have h5:((2^k:Nat):Int)=2^k:=by rw [Int.natCast_pow];rfl
    omega
   omega
 exact⟨h1,by omega⟩
def DH (H2:Hp) (ls:List Int) (K:PySem.W.Frag) (i:Nat) (zs:List V) (H':Hp):Prop:=ax H2 H'/\∃ ds,aF K H' ds zs/\iH (ls.take i) ds
def EH (sc:Addr) (L:List V) (H:Hp) (pc:Addr) (σ':L2.St) (H':Hp):Prop:=∃ o1 o2 o3 o4 o5 o6 o7,σ'=[some (.ref sc),o1,o2,o3,o4,o5,o6,o7]/\ax H H'/\H' pc=some (.lst L)
def EJ (H11:Hp) (p1 sc pp pa:Addr) (c b:Int) (σ':L2.St) (H':Hp):Prop:=(∃ fr l,Us p1 fr H11 H'/\H11 p1=some (qf l fr))/\∃(a:Int) (o7:Option V),σ'=[some (.ref sc),some (.int c),some (.ref p1),some (.ref pp),some (.ref pa),some (.int b),some (.int a),o7] /\ -(10^60)<=a/\a<=10^60
theorem wH {ps:List Int} {ds:List PyData} (h:iH ps ds):eV ds=true:=j6 λd hd=>by
 obtain⟨i,hi,e⟩:=List.mem_iff_getElem.mp hd
 have hl:=h.len
 exact zu (h.pap i _ d (List.getElem?_eq_getElem (show i<ps.length by omega)) (by rw [<- e];exact List.getElem?_eq_getElem hi))
theorem BY {pa:Addr} {us:List V} {ps:List Int} {ds:List PyData} {b a:Int} {H:Hp} {Q:VK} {E:XK} (hS:aM K H pa us) (hd:aF K H ds us) (hP:iH ps ds) (hl:ps.length<=12) (p6:∀ p∈ps,p<=10^6) (b0:-(10^60)<=b) (b1:b<=10^60) (a0:-(10^60)<=a) (a1:a<=10^60)
  (h:∀ r H',ax H H'->(((∃ p∈ps,p∣a∨p∣b)/\H' r=some (.lst [.bl true,.non]))∨((∀ p∈ps,¬p∣a/\¬p∣b)/\∃ o x v,nB ps b a o/\rH x o/\dv K H' (Du x o) v/\H' r=some (.lst [.bl false,v])))->Q (.ref r) H'):rA K [.ref pa,.int b,.int a] H Q E :=
 ⟨pa,us,ps,ds,b,a,rfl,hS,hd,hP,hl,p6,b0,b1,a0,a1,λhz r H' s e=>h r H' s (.inl ⟨hz,e⟩),λna o x v r H' hO hT s hv e=>h r H' s (.inr ⟨na,o,x,v,hO,hT,hv,e⟩)⟩
theorem xu:av ["_law_script","_law_cell","_law_state_here","_law_primes_here","_law_papers","_law_b","_law_a","_law_handed"] ["_law_script"] (aj (top 57)):=dG
theorem BA {fl:Addr} {fdl:FuncData} (F:uS K "law" "law" (top 57) fl fdl) (c__law_state:Callee P w K mg base aO 1 "_law_state" ["_law_cell","_law_free"] sM) (c__law_cell_at:Callee P w K mg base aO 1 "_law_cell_at" ["_law_script","_law_k"] (pM K)) (c__law_take:Callee P w K mg base aO 1 "_law_take" ["_law_state_here","_law_many"] kJ) (c__law_primes:Callee P w K mg base aO 2 "_law_primes" ["_law_state_here"] pR) (c__law_number:Callee P w K mg base aO 2 "_law_number" ["_law_state_here"] pP) (c__law_paper:Callee P w K mg base aO 32 "_law_paper" ["_law_p"] (lW K)) (c__law_alike:Callee P w K mg base aO 2 "_law_alike" ["_law_primes_here","_law_b","_law_state_here"] (sr K)) (c__law_told:Callee P w K mg base aO 16 "_law_told" ["_law_papers","_law_b","_law_a"] (rA K)) (c__law_right:Callee P w K mg base aO 4 "_law_right" ["_law_primes_here","_law_b","_law_a","_law_told_here"] (sJ K)) (n_list:mg "list"=none):cq P w K mg base aO 33 fl fdl ["_law_script"] (AB K):=by
 refine yF F xu (λvs H Q E h=>by obtain⟨a,b,rfl,_⟩:=h;rfl) (λcdv A outer s H vs Q E hr h=>?_)
 obtain⟨sc,ns,rfl,hS,h63,q⟩:=h
 have nd:=xu.nd
 refine⟨_,(ae (bD PassesOwn.never rfl (bo (au wC (gX m8 (pv 0) (eF ah) (eF ah)) (dt (aa ah ag)))) (aq (i:=1) nd rfl (Or.inl rfl) (.inr rfl)) (ae (bG (i:=2) nd (cw c__law_state hr aC (aa (pv 1) (aa (dB fq (au aL (cw c__law_cell_at hr aC (aa (pv 0) (aa ah ag))) ah) ah (aE _)) ag)))) (ae (bG (i:=3) nd (cw c__law_primes hr aC (aa (pv 2) ag))) (ae (hZ (i0:=4) nd rfl (Or.inl rfl) rfl (nP (N':=["_law_p"]) (js:=[none]) rfl rfl) (bo (pv 3)) (λ_ _ _ _=>(aq (i:=0) (show List.Nodup [("_law_p":Str)] from by decide +kernel) rfl (Or.inl rfl) (.inr rfl))) (λ_ _ _ _=>aS) (λ_ _ _ _=>(cw c__law_paper hr aC (aa (pv 0) ag))) (by rfl) (by first | exact .inl rfl | exact .inr rfl)) (ae (iU (i:=5) nd rfl (Or.inr rfl) (cw c__law_number hr aC (aa (pv 2) ag))) (ae (bG (i:=6) nd (cw c__law_number hr aC (aa (pv 2) ag))) (ae (gE (bp (PW.pt (rm (aA fq (cw c__law_take hr aC (aa (pv 2) (aa ah ag))) ah (aE _)) (mU (aA gU ah (gf rfl (nP (N':=["_law_p","_law_b"]) (js:=[none,some 5]) rfl rfl) (bo (pv 3)) (λ_ _ _ _=>(aq (i:=0) (show List.Nodup [("_law_p":Str),("_law_b":Str)] from by decide +kernel) rfl (Or.inl rfl) (.inr rfl))) (λ_ _ _ _=>aS) (λ_ _ _ _=>(au aL (pv 1) (pv 0)))) (by with_unfolding_all rfl))))) (ak (bG (i:=6) nd (cw c__law_alike hr aC (aa (pv 3) (aa (pv 5) (aa (pv 2) ag)))))) aK)) (ae (bG (i:=7) nd (bY me rfl n_list L2.boot_list (aa (pv 4) ag))) (ak (bp (PW.pt (pG (rj (b9 (cw c__law_right hr aC (aa (pv 3) (aa (pv 5) (aa (pv 6) (aa (cw c__law_told hr aC (aa (pv 7) (aa (pv 5) (aa (pv 6) ag)))) ag))))) (λ_=>rfl))) (ro (aA (wF hr.units) (pv 7) (pv 4) (aE _))))) (ak (az gd)) aK)))))))))) (ak (az gd))),?_⟩
 show bJ _ _ _ [some (.ref sc),none,none,none,none,none,none,none] H
 k_data
 refine⟨sc,_,rfl,hS,λpc hpc=>⟨by show 1<=sizeLine;decide,λpz hpz=>?_⟩⟩
 have s4:=ai (o:=.lst (dP (ns.map V.int) (some 1) (some 21))) hpc
 have s5:=ai (o:=.lst [V.int 0]) hpz
 have e4:upd (upd H pc (.lst (dP (ns.map V.int) (some 1) (some 21)))) pz (.lst [V.int 0]) pc=some (.lst (dP (ns.map V.int) (some 1) (some 21))):=s5 _ _ af
 have e5:upd (upd H pc (.lst (dP (ns.map V.int) (some 1) (some 21)))) pz (.lst [V.int 0]) pz=some (.lst [V.int 0]):=af
 have S5:=s4.trans s5
 generalize upd (upd H pc _) pz _=H5 at *
 have cl:(dP (ns.map V.int) (some 1) (some 21)).length<=63:=Nat.le_trans (fb _ _ _) (by rw [List.length_map];exact h63)
 have hin:∀ x∈dP (ns.map V.int) (some 1) (some 21)++[V.int 0],∃ c,x=.int c:=by
  intro x hx
  rcases List.mem_append.mp hx with y | y
  ·exact vg y
  ·exact⟨0,List.mem_singleton.mp y⟩
 refine⟨pc,pz,_,_,rfl,rfl,e4,e5,Nat.le_trans (show _+1<=64 by omega) (by decide),λpl hpl=>⟨pl,rfl,⟨_,aM.of af⟩,?_⟩⟩
 generalize dP (ns.map V.int) (some 1) (some 21)++[V.int 0]=L at *
 have S6:=S5.trans (ai (o:=.lst L) hpl)
 have e6:upd H5 pl (.lst L) pl=some (.lst L):=af
 generalize upd H5 pl _=H6 at *
 refine df (xs:=L) (λi σ' H'=>EH sc L H pl σ' H') ⟨_,_,_,_,_,_,_,rfl,S6,e6⟩ (λi σ' H' _ h=>by obtain⟨_,_,_,_,_,_,_,_,_,z⟩:=h;exact aM.of z) ?_ ?_
 ·rintro i x σ' H7 hx ⟨o1,o2,o3,o4,o5,o6,o7,rfl,S7,e7⟩
  obtain⟨c,rfl⟩:=hin x (List.mem_of_getElem? hx)
  k_data
  refine⟨sc,ns,0,rfl,hS.same S7,λc0=>⟨c0,rfl,c,_,rfl,λp1 l1 H8 s8 f8 e8 k8=>?_⟩⟩
  refine⟨p1,l1,_,rfl,e8,k8,λpp ls H9 hls nn ll u9 f9 e9=>?_⟩
  obtain⟨l9,k9,et9⟩:=u9.1
  have npp:pp≠p1:=λz=>by rw [z,et9] at e9;cases e9
  refine⟨pp,rfl,⟨_,aM.of e9⟩,?_⟩
  refine bA (xs:=ls.map V.int) (λi zs H'=>DH H9 ls K i zs H') ⟨ax.refl _,[],rfl,⟨rfl,λi p d z=>by simp at z⟩⟩ (by rw [List.length_map];exact Nat.le_trans ll (by decide)) (λi zs H' hi ⟨z1,ds,z2,z3⟩=>⟨aM.of (z1 _ _ e9),by rw [z2.length,z3.len,List.length_take];omega⟩) ?_ ?_
  ·rintro i x zs H3 hx ⟨s3,ds,hz,hP⟩
   rw [List.getElem?_map] at hx
   obtain⟨p,hy,rfl⟩:=Option.map_eq_some_iff.mp hx
   obtain⟨pm,p9⟩:=hls p (List.mem_of_getElem? hy)
   show b8 0 _ [none] _ _
   k_data
   refine⟨True.intro,p,rfl,pm,by omega,λd v H4 hd s4 hv=>⟨s3.trans s4,ds++[d],aF.append (aF.same s4 _ hz) (.one hv),?_⟩⟩
   rw [List.take_add_one,hy]
   exact hP.snoc hd
  rintro us H3 pa ⟨s3,ds,hz,hP⟩ hpa
  rw [List.length_map,List.take_length] at hP
  have s11:=s3.trans (ai (o:=.lst us) hpa)
  have hd:=aF.same (ai (o:=.lst us) hpa) _ hz
  have epa:upd H3 pa (.lst us) pa=some (.lst us):=af
  generalize upd H3 pa _=H11 at *
  have et11:=s11 _ _ et9
  have T7:ax H7 H11:=(u9.same s8 f8).trans s11
  have epp:=s11 _ _ e9
  k_data
  refine⟨p1,l9,_,rfl,et11,k9,λb H12 b0 b1 u12=>?_⟩
  obtain⟨l12,k12,e12⟩:=u12.at
  refine⟨p1,l12,_,rfl,e12,k12,λa H13 a0 a1 u13=>?_⟩
  obtain⟨l13,k13,e13⟩:=u13.at
  have U13:=(u12.trans u13).us
  refine⟨λσ' H'=>EJ H11 p1 sc pp pa c b σ' H',?_,?_⟩
  ·k_data
   refine⟨p1,2,l13,_,rfl,e13,k13,by decide,by decide,λr14 H14 r140 r141 u14=>⟨rfl,?_⟩⟩
   obtain⟨l14,k14,e14⟩:=u14.at
   have U14:=U13.trans u14.us
   have epp14:=U14.2 _ _ npp epp
   refine bV (λc1=>?_) (λc1=>?_)
   ·refine⟨⟨_,aM.of epp14⟩,?_⟩
    refine bA (xs:=ls.map V.int) (λi zs H1=>H1=H14/\zs=((ls.take i).map λp=>b%p).map V.int) ⟨rfl,rfl⟩ (by rw [List.length_map];exact Nat.le_trans ll (by decide)) (λi zs H1 hi ⟨e1,e2⟩=>⟨e1▸aM.of epp14,by rw [e2,List.length_map,List.length_map,List.length_take];omega⟩) ?_ ?_
    ·rintro i x zs H1 hx ⟨eH,ez⟩
     rw [eH]
     rw [List.getElem?_map] at hx
     obtain⟨p,hp,rfl⟩:=Option.map_eq_some_iff.mp hx
     have p2:=(hls p (List.mem_of_getElem? hp)).1.two
     show b8 0 _ [none,some (.int b)] _ _
     k_data
     refine⟨⟨rfl,True.intro⟩,by omega,?_⟩
     rw [ez,List.take_add_one,hp,Option.toList_some,List.map_append,List.map_append]
     rfl
    rintro zs H1 pz ⟨eH,ez⟩ hpz
    rw [eH] at hpz ⊢
    have U15:=U14.lay (o:=.lst zs) hpz
    have s15:=ai (o:=.lst zs) hpz
    refine⟨pz,_,rfl,.inl (aM.of af),rfl,by rw [ez];simp [cW],_,rfl,?_⟩
    have e15:=s15 _ _ e14
    have epp15:=s15 _ _ epp14
    generalize upd H14 pz _=H15 at *
    refine bV (λc2=>?_) (λc2=>?_)
    ·refine⟨pp,p1,ls,b,l14,_,rfl,epp15,npp,hls,nn,ll,by omega,by omega,e15,k14,λx H16 x0 x1 u16=>?_⟩
     exact⟨⟨_,_,U15.trans u16,et11⟩,x,_,rfl,x0,x1⟩
    ·exact⟨⟨_,_,U15,et11⟩,a,_,rfl,by omega,by omega⟩
   ·exact⟨⟨_,_,U14,et11⟩,a,_,rfl,by omega,by omega⟩
  rintro σ' H16 ⟨⟨fr,lf,U16,ef⟩,a',o7,rfl,a0',a1'⟩
  have npa:pa≠p1:=λz=>by rw [z,et11] at epa;cases epa
  have T16:ax H7 H16:=U16.same T7 f8
  have epp16:=U16.2 _ _ npp epp
  have epa16:=U16.2 _ _ npa epa
  have hd16:=aF.dk (U16.dk ef) _ (wH hP) hd
  k_data
  refine⟨us,.inl (aM.of epa16),λph hph=>?_⟩
  have s17:=ai (o:=.lst us) hph
  have eph:upd H16 ph (.lst us) ph=some (.lst us):=af
  generalize upd H16 ph _=H17 at *
  have hd17:=aF.same s17 _ hd16
  refine BY (aM.of eph) hd17 hP (by omega) (λp hp=>by have:=(hls p hp).2;omega) (by omega) (by omega) a0' a1' λr H18 s18 ht=>?_
  have S18:=s17.trans s18
  refine⟨pp,r,ls,b,a',rfl,aM.of (S18 _ _ epp16),hls,ll,by omega,by omega,a0',a1',ht,λH19 s19=>⟨true,dI.mpr rfl,?_⟩⟩
  rw [if_neg (by decide)]
  have S19:=s18.trans s19
  have hd19:=aF.same S19 _ hd17
  obtain⟨lay1,lay2⟩:=wG hP (λp hp=>by have:=(hls p hp).2;omega)
  refine eY (d:=.list ds) (dv.lst (S19 _ _ eph) hd19) (dv.lst ((s17.trans S19) _ _ epa16) hd19) lay1 (by simp only [PyData.depth];omega) ⟨_,rfl,?_⟩
  rw [if_neg (by decide)]
  have T19:=T16.trans (s17.trans S19)
  exact⟨_,_,_,_,_,_,_,rfl,S7.trans T19,T19 _ _ e7⟩
 ·rintro σ' H7 ⟨o1,o2,o3,o4,o5,o6,o7,rfl,S7,e7⟩
  k_data
  exact q _
end
end K
namespace K
open PySem PySem.Spec PyProof.Rows L2
section
variable {P:Program} {w:World} {K:PySem.W.Frag} {mg:Str->Option Value} {base:Heap}
theorem ik:av ["parts"] ["parts"] (aj (top 12)):=dG
theorem oM (D:ay K mg "primes_in" (top 12)):Callee P w K mg base aO 1 "primes_in" ["parts"] (kI K):=by
 refine cO D ik (λf cdv A outer s H vs Q E hr h=>?_)
 obtain⟨v,rows,qs,rfl,hd,⟨hl,hq⟩,h6,q⟩:=h
 have nd:=ik.nd
 refine⟨_,(ak (az (gf rfl (nP (N':=["row"]) (js:=[none]) rfl rfl) (iT (pv 0)) (λ_ _ _ _=>(aq (i:=0) (show List.Nodup [("row":Str)] from by decide +kernel) rfl (Or.inl rfl) (.inr rfl))) (λ_ _ _ _=>aS) (λ_ _ _ _=>(aB (bw K rfl) (aB (bw K rfl) (pv 0) ah (λ_ _=>rfl)) ah (λ_ _=>rfl)))))),?_⟩
 show pX _ _ [some v] H
 obtain⟨p,xs,rfl,hS,ht⟩:=hd
 k_data
 have xl:=ht.length
 refine⟨⟨_,hS⟩,?_⟩
 refine fN (xs:=xs) (λi zs H3=>H3=H/\zs=(qs.take i).map V.int) ⟨rfl,rfl⟩ (Nat.le_trans (by omega) (show 10^6<=sizeLine by decide)) (λi zs H3 hi ⟨e1,e2⟩=>⟨by rw [e1];exact hS,by rw [e2];simp;omega⟩) ?_ ?_
 ·rintro i x zs H3 hx ⟨rfl,rfl⟩
  obtain⟨d,hd,hv⟩:=ht.get hx
  obtain⟨q',hq',ds,es,rfl⟩:=hq i d hd
  obtain⟨p1,x1,rfl,t1,u,r1,rfl,hv2,_⟩:=hv
  obtain⟨p2,x2,rfl,t2,u',r2,rfl,hv3,_⟩:=hv2
  cases hv3
  show b8 0 _ [none] _ _
  k_data
  refine⟨True.intro,br t1 jx (br t2 jx ⟨rfl,?_⟩)⟩
  rw [List.take_add_one,hq',List.map_append]
  rfl
 ·rintro zs H3 p3 ⟨rfl,rfl⟩ hp3
  rw [show xs.length=qs.length by omega,List.take_length]
  exact q p3 _ (ai hp3) hp3 af
end
end K
namespace L2
open PySem PySem.Spec PyProof.Rows PySem.W
theorem Bw {K:PySem.W.Frag} {mg:Str->Option Value} {h:Heap} {x:Str} {C:Addr} (_:K.In h) (a:mg x=some (.ref C)) (p1:plainGet K C Str.empty=true) (p2:hasDictIn K C=true) (p3:plainOver K C=true) (p4:findIn K (.ref C) "__setattr__"=some (some (.builtin "object.__setattr__"))) (p5:makesIn K C=true) (p6:keepIn K (.ref C)=true):B8 K mg x C:=Bx a p1 p2 p3 p4 p5 p6
end L2
namespace PySem.W.Fast
def tw2999676021500232961:=0
def tw10616520333405604000:=0
def tw14447045420370895328:=0
def tw11817543333725228576:=0
def tw6357562634083437184:=0
def tw15952541781856207552:=0
def tw935650524571315936:=0
def tw2001724344022061792:=0
def tw16429225479865587488:=0
def tw3410591929254338400:=0
def tw18269702443420784544:=0
def tw766851333309540256:=0
def tw3601221961555922912:=0
def tw14504641783528141953:=0
def tw11772817058392176865:=0
def tw12334116161874814337:=0
def tw4820029530363836001:=0
def tw842496856063545985:=0
def tw371136970108763777:=0
def tw12919529942700824289:=0
def tw17989271985709261058:=0
def tw802693861906842914:=0
def tw13477592583448915586:=0
def tw12225366175203732226:=0
def tw6849764264883363650:=0
def tw6235937267053477858:=0
def tw1906755090376547331:=0
def tw2122803885255393411:=0
def tw4346341988042538307:=0
def tw8336101069816299939:=0
def tw2558977802666068451:=0
def tw16845238705922766499:=0
def tw10195670277706416867:=0
def tw10726248874422439683:=0
def tw35779340144274211:=0
def tw17047255298282003267:=0
def tw11203366219211401059:=0
def tw6074298718414132484:=0
def tw16258659012758299972:=0
def tw11874618211144002980:=0
def tw11474448752694325796:=0
def tw4471046834784011204:=0
def tw2869388389508474981:=0
def tw14528004758954792165:=0
def tw9583347003357862149:=0
def tw14610365172106371333:=0
def tw16145147109681182149:=0
def tw3263512961653981829:=0
def tw11220502008012937350:=0
def tw6481153561682829574:=0
def tw9428265680353211878:=0
def tw10961987138646286854:=0
def tw16247190183962946054:=0
def tw12092188897514631750:=0
def tw7234583798579014246:=0
def tw11032554816615292582:=0
def tw13026607198692755463:=0
def tw4702222785263266823:=0
def tw9502655496637832391:=0
def tw1809122967565974823:=0
def tw11552760464376447911:=0
def tw17676201460180593736:=0
def tw11684041681724789128:=0
def tw11806641716346272200:=0
def tw13310909520287714920:=0
def tw15354981897766131560:=0
def tw1372191522295814024:=0
def tw979241608381668328:=0
def tw4143609365655275881:=0
def tw15408566368758205993:=0
def tw4461396474048074633:=0
def tw16056851944082573482:=0
def tw15448425373107340746:=0
def tw7147588847960244746:=0
def tw7662015769539786506:=0
def tw2178536600423575595:=0
def tw6180352274295524555:=0
def tw7210664169771706603:=0
def tw17912103453079919883:=0
def tw13180085600170981835:=0
def tw12263731611757953835:=0
def tw14074633185442888523:=0
def tw2486124180800631723:=0
def tw14836485785019145292:=0
def tw8061584765095130508:=0
def tw3854372404779586124:=0
def tw14826869288817113036:=0
def tw3676217110709976012:=0
def tw1268458633166365709:=0
def tw15982950380635069485:=0
def tw16958879184729721005:=0
def tw4907479674375131725:=0
def tw4528145218918831693:=0
def tw8896701731702566701:=0
def tw11675208928959961102:=0
def tw2891163695484622894:=0
def tw14405944171574046798:=0
def tw16066405205955450126:=0
def tw11461798898606611822:=0
def tw14084469589962178958:=0
def tw9923308794615211438:=0
def tw486396476175114702:=0
def tw8434494090066342382:=0
def tw10326479208519039534:=0
def tw11463834329669320590:=0
def tw218753007174622094:=0
def tw15911289090452853678:=0
def tw9205121670850649006:=0
def tw535407603520041934:=0
def tw1349178359255407727:=0
def tw13700455024938114223:=0
def tw12372693043864135055:=0
def tw10056475248879731151:=0
def tw9693389075593197295:=0
def tw5712112540485157743:=0
def tw12082542162664712079:=0
def tw14217375316036742160:=0
def tw13469488547599080496:=0
def tw10167565712506608976:=0
def tw6674786790549215728:=0
def tw1825670353918544688:=0
def tw2751731001883922288:=0
def tw8313239623712339856:=0
def tw16422486484270201776:=0
def tw12416295659837450224:=0
def tw10790992060436758545:=0
def tw12242619588064148497:=0
def tw13391097752945360945:=0
def tw6487357870344466897:=0
def tw14896108346175936017:=0
def tw6707781815134890705:=0
def tw11401084391042031345:=0
def tw7544413429742394321:=0
def tw11543529650395298034:=0
def tw17990575225547194770:=0
def tw1211387649688144370:=0
def tw6163370816342612594:=0
def tw17486835194121325234:=0
def tw2294744005520710322:=0
def tw12008797384434173714:=0
def tw14293119195408091026:=0
def tw10488705739907244018:=0
def tw15743452945438918642:=0
def tw725954047336257811:=0
def tw1080149915504168211:=0
def tw8496979904362637907:=0
def tw13975115507271199475:=0
def tw6439829773148466067:=0
def tw5266572483486558131:=0
def tw15601060850655709139:=0
def tw8220399218243774484:=0
def tw14732640462928867476:=0
def tw10959650074218274036:=0
def tw15923853996085237012:=0
def tw10734828731332426068:=0
def tw17073501051306234228:=0
def tw17235779302494670356:=0
def tw2485568448550603508:=0
def tw8034130549135880148:=0
def tw2605051629226638389:=0
def tw12638449296661573813:=0
def tw12575847320906673493:=0
def tw1776271347592660661:=0
def tw3355751470322799605:=0
def tw8140486844205740182:=0
def tw5091428065161805174:=0
def tw2750581510893733302:=0
def tw13643735101755290102:=0
def tw3682588723867791990:=0
def tw15539445215622225654:=0
def tw6701670752832996310:=0
def tw12780735044424359894:=0
def tw5049334023041520695:=0
def tw428485778648381559:=0
def tw10330591494454269143:=0
def tw12353181884625105143:=0
def tw14623033113638347031:=0
def tw14449078594470418807:=0
def tw8903378506977941015:=0
def tw7461095879771243127:=0
def tw16175990288283032375:=0
def tw212791109991691191:=0
def tw7198377888095446999:=0
def tw336572474846419959:=0
def tw10093710516406466680:=0
def tw11531089046372104728:=0
def tw6128769748210344664:=0
def tw751929277033767704:=0
def tw4085912069871461368:=0
def tw10558073194939372761:=0
def tw14243006698563240249:=0
def tw3186465089662762681:=0
def tw5784790621043761913:=0
def tw14103536137187553113:=0
def tw4125754123686644729:=0
def tw16298821802491033626:=0
def tw13058392960061284634:=0
def tw11251291387973082522:=0
def tw8207548682024821146:=0
def tw3154188608212955546:=0
def tw11128632387535635994:=0
def tw17657941454179295834:=0
def tw4082298713880488538:=0
def tw8145914615589374746:=0
def tw17457120358815101722:=0
def tw15867667998535057178:=0
def tw18405400251369977722:=0
def tw17387486351030622202:=0
def tw9838590365153406075:=0
def tw9649113652749426971:=0
def tw9308373695919196539:=0
def tw6602448663826846075:=0
def tw4712087266076431035:=0
def tw10218246966264409819:=0
def tw118468321512368987:=0
def tw6852552218706855899:=0
def tw10186596327185437724:=0
def tw9853057182769337532:=0
def tw14328443804583432572:=0
def tw1095245017478567356:=0
def tw641490327865223612:=0
def tw8672202980148880988:=0
def tw2876949168652830428:=0
def tw3452624804953930556:=0
def tw14106235175522550652:=0
def tw17726583716515108732:=0
def tw5312455795156088828:=0
def tw5952234740044760189:=0
def tw13064722314966867133:=0
def tw1918285606463586525:=0
def tw15414000273427356957:=0
def tw4314251013693031805:=0
def tw13867099216260920765:=0
def tw13576931950792981053:=0
def tw9976424919290528413:=0
def tw13515516012172074717:=0
def tw15474762174316059645:=0
def tw10772056002057529438:=0
def tw1069511198630052254:=0
def tw6866299182179029502:=0
def tw9535137485905731230:=0
def tw15079445584797456062:=0
def tw8944332102884940478:=0
def tw336549095589913502:=0
def tw18394528530620416031:=0
def tw10795296181591362591:=0
def tw2276149162957945919:=0
def tw11279763297379844255:=0
def tw10434207448876173535:=0
def tw10954601943105598751:=0
def tw16194188587121941855:=0
def tw15159469466815990175:=0
def tw6574612958829453087:=0
def tw596979862019826559:=0
end PySem.W.Fast
namespace K
open PySem PySem.Spec PyProof.Rows L2
theorem tV:qh "TooFar.__init__" "part" "part" (inClass (top 4) 0):=⟨⟨rfl,rfl,rfl,by decide +kernel,rfl,by decide +kernel,by decide +kernel⟩,⟨_,_,_,_,rfl,λ_=>rfl,λ_=>rfl⟩,rfl,rfl,by decide,by decide,λ_ _ _ _ _ _ us hl=>match us,hl with | [_,_],_=>rfl⟩
theorem mE:qh "NoInverse.__init__" "divisor" "divisor" (inClass (top 5) 0):=⟨⟨rfl,rfl,rfl,by decide +kernel,rfl,by decide +kernel,by decide +kernel⟩,⟨_,_,_,_,rfl,λ_=>rfl,λ_=>rfl⟩,rfl,rfl,by decide,by decide,λ_ _ _ _ _ _ us hl=>match us,hl with | [_,_],_=>rfl⟩
end K
open PySem PySem.W PyProof.Rows L2
set_option maxHeartbeats 0 in
theorem PySem.Challenge.cw_rootprime_k71_powers_by_small_primes_holds : PySem.Challenge.rw_rootprime_k71_powers_by_small_primes.Holds := by
 w_on;o_law;k_head;(case hw=>w_witness2)
 k_fill
 refine L2.x4 (l:=PySem.Challenge.rw_rootprime_k71_powers_by_small_primes) (n:=63) (k:=33) (x := "_law_script") (CX:=L2.aO) (sp:=K.AB) rfl (by decide) rfl ⟨rfl,by decide,by decide⟩ (λw h Y=>PySem.W.kIn_of Y) ?F ?S ?C
 case F =>
  intro w mg fa h KX G hmg
  have d_whole_of:L2.ay (L2.dz KX) mg "whole_of" (K.top 7):=K.eA KX G
  have d_divisor:L2.ay (L2.dz KX) mg "divisor" (K.top 9):=K.eA KX G
  have d_inverse:L2.ay (L2.dz KX) mg "inverse" (K.top 10):=K.eA KX G
  have d_primes_in:L2.ay (L2.dz KX) mg "primes_in" (K.top 12):=K.eA KX G
  have d_parting_in:L2.ay (L2.dz KX) mg "parting_in" (K.top 13):=K.eA KX G
  have d_power:L2.ay (L2.dz KX) mg "power" (K.top 15):=K.eA KX G
  have d_order_from:L2.ay (L2.dz KX) mg "order_from" (K.top 17):=K.eA KX G
  have d_most_times:L2.ay (L2.dz KX) mg "most_times" (K.top 18):=K.eA KX G
  have d_raised:L2.ay (L2.dz KX) mg "raised" (K.top 19):=K.eA KX G
  have d_times_in_order:L2.ay (L2.dz KX) mg "times_in_order" (K.top 20):=K.eA KX G
  have d_times_to_one:L2.ay (L2.dz KX) mg "times_to_one" (K.top 21):=K.eA KX G
  have d_order:L2.ay (L2.dz KX) mg "order" (K.top 22):=K.eA KX G
  have d_small_steps:L2.ay (L2.dz KX) mg "small_steps" (K.top 25):=K.eA KX G
  have d_put_together:L2.ay (L2.dz KX) mg "put_together" (K.top 27):=K.eA KX G
  have d_first_apart:L2.ay (L2.dz KX) mg "first_apart" (K.top 28):=K.eA KX G
  have d_are_apart:L2.ay (L2.dz KX) mg "are_apart" (K.top 29):=K.eA KX G
  have d_both_together:L2.ay (L2.dz KX) mg "both_together" (K.top 30):=K.eA KX G
  have d_refuse_far:L2.ay (L2.dz KX) mg "refuse_far" (K.top 33):=K.eA KX G
  have d_sought:L2.ay (L2.dz KX) mg "sought" (K.top 34):=K.eA KX G
  have d_digits:L2.ay (L2.dz KX) mg "digits" (K.top 35):=K.eA KX G
  have d_steps_to:L2.ay (L2.dz KX) mg "steps_to" (K.top 36):=K.eA KX G
  have d_number_of:L2.ay (L2.dz KX) mg "number_of" (K.top 37):=K.eA KX G
  have d_which_of:L2.l7 (L2.dz KX) mg "which_of" (K.top 39) #[.none]:=by
   dsimp only [L2.dz]
   refine' L2.tJ KX G ?a ?l ?c ?k ?t ?e
   (case a=>k_is);(case l=>k_is);(case c=>k_is);(case k=>k_is);(case t=>k_is);(case e=>rfl)
  have d_placed:L2.ay (L2.dz KX) mg "placed" (K.top 40):=K.eA KX G
  have d__law_cell_at:L2.ay (L2.dz KX) mg "_law_cell_at" (K.top 42):=K.eA KX G
  have d__law_state:L2.ay (L2.dz KX) mg "_law_state" (K.top 43):=K.eA KX G
  have d__law_take:L2.ay (L2.dz KX) mg "_law_take" (K.top 44):=K.eA KX G
  have d__law_number:L2.ay (L2.dz KX) mg "_law_number" (K.top 45):=K.eA KX G
  have d__law_powers:L2.ay (L2.dz KX) mg "_law_powers" (K.top 46):=K.eA KX G
  have d__law_parted:L2.ay (L2.dz KX) mg "_law_parted" (K.top 47):=K.eA KX G
  have d__law_paper:L2.ay (L2.dz KX) mg "_law_paper" (K.top 48):=K.eA KX G
  have d__law_primes:L2.ay (L2.dz KX) mg "_law_primes" (K.top 49):=K.eA KX G
  have d__law_common:L2.ay (L2.dz KX) mg "_law_common" (K.top 50):=K.eA KX G
  have d__law_alike:L2.ay (L2.dz KX) mg "_law_alike" (K.top 51):=K.eA KX G
  have d__law_apart:L2.ay (L2.dz KX) mg "_law_apart" (K.top 52):=K.eA KX G
  have d__law_due:L2.ay (L2.dz KX) mg "_law_due" (K.top 53):=K.eA KX G
  have d__law_told:L2.ay (L2.dz KX) mg "_law_told" (K.top 54):=K.eA KX G
  have d__law_is_least:L2.ay (L2.dz KX) mg "_law_is_least" (K.top 55):=K.eA KX G
  have d__law_right:L2.ay (L2.dz KX) mg "_law_right" (K.top 56):=K.eA KX G
  have d_law:L2.ay (L2.dz KX) mg "law" (K.top 57):=K.eA KX G
  have n_abs:mg "abs"=none:=PySem.W.mg_none_of KX G (by k_is)
  have n_int:mg "int"=none:=PySem.W.mg_none_of KX G (by k_is)
  have n_isinstance:mg "isinstance"=none:=PySem.W.mg_none_of KX G (by k_is)
  have n_bool:mg "bool"=none:=PySem.W.mg_none_of KX G (by k_is)
  have n_range:mg "range"=none:=PySem.W.mg_none_of KX G (by k_is)
  have n_tuple:mg "tuple"=none:=PySem.W.mg_none_of KX G (by k_is)
  have n_any:mg "any"=none:=PySem.W.mg_none_of KX G (by k_is)
  have n_list:mg "list"=none:=PySem.W.mg_none_of KX G (by k_is)
  have n_min:mg "min"=none:=PySem.W.mg_none_of KX G (by k_is)
  have n_max:mg "max"=none:=PySem.W.mg_none_of KX G (by k_is)
  have n_len:mg "len"=none:=PySem.W.mg_none_of KX G (by k_is)
  have n_zip:mg "zip"=none:=PySem.W.mg_none_of KX G (by k_is)
  have n_enumerate:mg "enumerate"=none:=PySem.W.mg_none_of KX G (by k_is)
  have n_sorted:mg "sorted"=none:=PySem.W.mg_none_of KX G (by k_is)
  refine' L2.cP (PySem.W.mg_of (n := "PrimeError") KX G ?xa) (λa_PrimeError=>?g1)
  (case xa=>k_is)
  refine' L2.cP (L2.iC KX a_PrimeError ?l ?c2 ?c3 ?e1 ?e2 ?e3 ?e4 ?e5 ?e6 ?ob ?kp) (λc_PrimeError=>?g2)
  (case l=>k_is);(case c2=>rfl);(case c3=>rfl);(case e1=>k_is);(case e2=>k_is);(case e3=>k_is);(case e4=>k_is);(case e5=>k_is);(case e6=>k_is);(case ob=>exact⟨_,_,_,_,_,_,_,_,_,_,_,_,_,_,_,_,rfl,rfl,rfl,rfl⟩);(case kp=>k_is)
  refine' L2.cP (L2.ny a_PrimeError c_PrimeError.2 c_PrimeError.1 ?i) (λx_PrimeError=>?g3)
  (case i=>k_is)
  refine' L2.cP (PySem.W.mg_of (n := "Nought") KX G ?xa) (λa_Nought=>?g4)
  (case xa=>k_is)
  refine' L2.cP (L2.iC KX a_Nought ?l ?c2 ?c3 ?e1 ?e2 ?e3 ?e4 ?e5 ?e6 ?ob ?kp) (λc_Nought=>?g5)
  (case l=>k_is);(case c2=>rfl);(case c3=>rfl);(case e1=>k_is);(case e2=>k_is);(case e3=>k_is);(case e4=>k_is);(case e5=>k_is);(case e6=>k_is);(case ob=>exact⟨_,_,_,_,_,_,_,_,_,_,_,_,_,_,_,_,rfl,rfl,rfl,rfl⟩);(case kp=>k_is)
  refine' L2.cP (L2.ny a_Nought c_Nought.2 c_Nought.1 ?i) (λx_Nought=>?g6)
  (case i=>k_is)
  refine' L2.cP (PySem.W.mg_of (n := "NoOrder") KX G ?xa) (λa_NoOrder=>?g7)
  (case xa=>k_is)
  refine' L2.cP (L2.iC KX a_NoOrder ?l ?c2 ?c3 ?e1 ?e2 ?e3 ?e4 ?e5 ?e6 ?ob ?kp) (λc_NoOrder=>?g8)
  (case l=>k_is);(case c2=>rfl);(case c3=>rfl);(case e1=>k_is);(case e2=>k_is);(case e3=>k_is);(case e4=>k_is);(case e5=>k_is);(case e6=>k_is);(case ob=>exact⟨_,_,_,_,_,_,_,_,_,_,_,_,_,_,_,_,rfl,rfl,rfl,rfl⟩);(case kp=>k_is)
  refine' L2.cP (L2.ny a_NoOrder c_NoOrder.2 c_NoOrder.1 ?i) (λx_NoOrder=>?g9)
  (case i=>k_is)
  refine' L2.cP (PySem.W.mg_of (n := "TooFar") KX G ?xa) (λa_TooFar=>?g10)
  (case xa=>k_is)
  refine' L2.cP (L2.iC KX a_TooFar ?l ?c2 ?c3 ?e1 ?e2 ?e3 ?e4 ?e5 ?e6 ?ob ?kp) (λc_TooFar=>?g11)
  (case l=>k_is);(case c2=>rfl);(case c3=>rfl);(case e1=>k_is);(case e2=>k_is);(case e3=>k_is);(case e4=>k_is);(case e5=>k_is);(case e6=>k_is);(case ob=>exact⟨_,_,_,_,_,_,_,_,_,_,_,_,_,_,_,_,rfl,rfl,rfl,rfl⟩);(case kp=>k_is)
  refine' L2.cP (L2.sT K.tV a_TooFar c_TooFar.2 c_TooFar.1 ?nf ?i ?fn ?l ?cc ?kk) (λx_TooFar=>?g12)
  (case nf=>k_is);(case i=>k_is);(case fn=>k_is);(case l=>k_is);(case cc=>k_is);(case kk=>k_is)
  refine' L2.cP (PySem.W.mg_of (n := "NoInverse") KX G ?xa) (λa_NoInverse=>?g13)
  (case xa=>k_is)
  refine' L2.cP (L2.iC KX a_NoInverse ?l ?c2 ?c3 ?e1 ?e2 ?e3 ?e4 ?e5 ?e6 ?ob ?kp) (λc_NoInverse=>?g14)
  (case l=>k_is);(case c2=>rfl);(case c3=>rfl);(case e1=>k_is);(case e2=>k_is);(case e3=>k_is);(case e4=>k_is);(case e5=>k_is);(case e6=>k_is);(case ob=>exact⟨_,_,_,_,_,_,_,_,_,_,_,_,_,_,_,_,rfl,rfl,rfl,rfl⟩);(case kp=>k_is)
  refine' L2.cP (L2.sT K.mE a_NoInverse c_NoInverse.2 c_NoInverse.1 ?nf ?i ?fn ?l ?cc ?kk) (λx_NoInverse=>?g15)
  (case nf=>k_is);(case i=>k_is);(case fn=>k_is);(case l=>k_is);(case cc=>k_is);(case kk=>k_is)
  refine' L2.cP (PySem.W.mg_of (n := "Kept") KX G ?xa) (λa_Kept=>?g16)
  (case xa=>k_is)
  refine' L2.cP (L2.Bw KX a_Kept ?p1 ?p2 ?p3 ?p4 ?p5 ?p6) (λo_Kept=>?g17)
  (case p1=>k_is);(case p2=>k_is);(case p3=>k_is);(case p4=>k_is);(case p5=>k_is);(case p6=>k_is)
  refine' L2.cP (L2.j3 (m := "__init__") (qual := "Kept.__init__") (st:=L2.inClass (K.top 24) 0) o_Kept ?xa ?fn ?kk ?l ?cc) (λm_Kept___init__=>?g18)
  (case xa=>k_is);(case fn=>k_is);(case kk=>k_is);(case l=>k_is);(case cc=>k_is)
  refine' L2.cP (L2.j3 (m := "steps") (qual := "Kept.steps") (st:=L2.inClass (K.top 24) 1) o_Kept ?xa ?fn ?kk ?l ?cc) (λm_Kept_steps=>?g19)
  (case xa=>k_is);(case fn=>k_is);(case kk=>k_is);(case l=>k_is);(case cc=>k_is)
  refine' L2.cP (L2.j3 (m := "tables") (qual := "Kept.tables") (st:=L2.inClass (K.top 24) 2) o_Kept ?xa ?fn ?kk ?l ?cc) (λm_Kept_tables=>?g20)
  (case xa=>k_is);(case fn=>k_is);(case kk=>k_is);(case l=>k_is);(case cc=>k_is)
  refine' L2.cP (L2.j3 (m := "used_table") (qual := "Kept.used_table") (st:=L2.inClass (K.top 24) 3) o_Kept ?xa ?fn ?kk ?l ?cc) (λm_Kept_used_table=>?g21)
  (case xa=>k_is);(case fn=>k_is);(case kk=>k_is);(case l=>k_is);(case cc=>k_is)
  refine' L2.cP (L2.j3 (m := "add_steps") (qual := "Kept.add_steps") (st:=L2.inClass (K.top 24) 4) o_Kept ?xa ?fn ?kk ?l ?cc) (λm_Kept_add_steps=>?g22)
  (case xa=>k_is);(case fn=>k_is);(case kk=>k_is);(case l=>k_is);(case cc=>k_is)
  refine' L2.cP (L2.mK (f := "most") o_Kept ?xa) (λna_most=>?g23)
  (case xa=>k_is)
  refine' L2.cP (L2.mK (f := "counted") o_Kept ?xa) (λna_counted=>?g24)
  (case xa=>k_is)
  refine' L2.cP (L2.mK (f := "laid") o_Kept ?xa) (λna_laid=>?g25)
  (case xa=>k_is)
  refine' L2.cP (PySem.W.mg_of (n := "FARTHEST") KX G ?xa) (λg_FARTHEST=>?g26)
  (case xa=>k_is)
  refine' L2.cP (L2.Bv c_Nought c_Nought ?xa) (λm0=>?g27)
  (case xa=>k_is)
  refine L2.yN hmg d_law (λ_ _ _ _ _ _ _=>rfl) λbase f fd kb F=>?_
  have dvr:=λP w=>K.qO (P:=P) (w:=w) (base:=base) d_divisor n_abs
  have inv:=λP w=>K.qP (P:=P) (w:=w) (base:=base) d_inverse (dvr P w) (x_NoInverse _ _ _)
  have pw:=λP w=>K.wu (P:=P) (w:=w) (base:=base) d_power (inv P w) n_abs
  have pi:=λP w=>K.oM (P:=P) (w:=w) (base:=base) d_primes_in
  have ra:=λP w=>K.uq (P:=P) (w:=w) (base:=base) d_raised (pw P w) n_range
  have wo:=λP w=>K.wB (P:=P) (w:=w) (base:=base) d_whole_of n_range
  have od:=λP w=>K.wk (P:=P) (w:=w) (base:=base) d_order (K.mM d_order_from (K.wt d_parting_in) (K.wq d_parting_in) (K.y7 d_most_times) (ra P w) (K.oN d_times_in_order (ra P w) (K.wA d_times_to_one (pw P w)) n_len 6) (wo P w) (pw P w) n_min n_zip n_tuple) x_Nought
  have put:=λP w=>K.BB (P:=P) (w:=w) (base:=base) d_put_together (K.wd d_first_apart (K.wc d_are_apart (dvr P w)) n_enumerate) (K.yY d_both_together (dvr P w) (inv P w))
  have ki:=λP w=>K.we (P:=P) (w:=w) (mg:=mg) (base:=base) m_Kept___init__ o_Kept.cls na_most na_counted na_laid
  have ka:=λP w=>K.yZ (P:=P) (w:=w) (mg:=mg) (base:=base) m_Kept_add_steps o_Kept.cls na_counted
  have kt:=λP w=>K.qQ (P:=P) (w:=w) (mg:=mg) (base:=base) m_Kept_tables o_Kept.cls na_laid n_list
  have ku:=λP w=>K.wg (P:=P) (w:=w) (mg:=mg) (base:=base) m_Kept_used_table o_Kept.cls na_laid na_most n_len (K.wy d_small_steps n_len) (ka P w) (kt P w)
  have dg:=λP w=>K.ui (P:=P) (w:=w) (base:=base) d_digits o_Kept.cls (pw P w) (inv P w) (ku P w) (ka P w) (K.y8 d_number_of) (K.qV d_steps_to) n_len n_range n_tuple
  have so:=λP w=>K.ur (P:=P) (w:=w) (base:=base) d_sought o_Kept.cls o_Kept (ki P w) (dg P w) (K.wm d_parting_in) (wo P w) (K.y9 d_number_of) (put P w) n_len n_tuple
  have wh:=λP w=>K.qW (P:=P) (w:=w) (base:=base) d_which_of (od P w) (pw P w) (K.Bz d_refuse_far (x_TooFar _ _ _) ⟨_,g_FARTHEST⟩ n_max) (pi P w) (so P w) (K.uo d_placed (put P w) n_len n_tuple) x_Nought n_any n_enumerate n_zip
  have tk:=λP w=>K.zg (P:=P) (w:=w) (base:=base) d__law_take
  have po:=λP w=>K.wj (P:=P) (w:=w) (base:=base) d__law_powers
  have cm:=λP w=>K.uh (P:=P) (w:=w) (base:=base) d__law_common
  have du:=λP w=>K.y4 (P:=P) (w:=w) (base:=base) d__law_due (po P w) (K.uj d__law_apart (cm P w) n_range n_len) n_range n_len n_tuple
  exact K.BA F (K.wz d__law_state) (K.ug d__law_cell_at n_len) (tk _ _) (K.qU d__law_primes (tk _ _) n_range n_sorted) (K.um d__law_number (tk _ _) n_range) (K.yQ (K.j7 d__law_paper (K.qT d__law_parted) (po _ _) n_len n_tuple 30)) (K.wb d__law_alike (tk _ _) n_range n_int) (K.zh d__law_told (wh _ _) x_Nought m0) (K.wx d__law_right (du _ _) (K.uk d__law_is_least (cm _ _) n_isinstance n_int n_bool) n_isinstance n_tuple n_len) n_list
 case S=>exact λK H a ns hl hO hS=>⟨a,ns,rfl,hS,hl,λ_=>rfl⟩
 case C=>exact λ_ _ _ _ z=>z
