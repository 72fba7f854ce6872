import PyProof.Rows.All
import Wide.All
import OpenK.AllK
import Wide.FinOn
import Lean
import PyProof.EqAt
import PyProof.EqKinds
import PyProof.TupleCall
import KE.KRevSl
import PyProof.NeData
import PyProof.P3Eq
import PyProof.Rows.Range3
import PyProof.EnumMake
import PyProof.Draws
import PyProof.ZipIter
import PySem.Challenge.RW_rootprime_k20_prime_papers_told
set_option Elab.async false
local macro_rules | `(tactic| omega) => `(tactic| lia)
set_option linter.all false
set_option maxRecDepth 100000
namespace L2
open PySem PySem.Spec PyProof.Rows
abbrev Key:=Sum Int Str
def oK:Key->Value->Bool
 | .inl k,v=>Value.isInt k v
 | .inr x,v=>Value.isStrOf x v
def sA (w:World):Key->Int
 | .inl k=>hashInt k
 | .inr x=>hashStr w x
theorem aP:∀{k:Key} {v:Value},oK k v=true->(∃ i t,k=Sum.inl i/\v=Value.int i t)∨(∃ x t,k=Sum.inr x/\v=Value.str x t)
 | .inl i,v,h=>by
  obtain⟨t,e⟩:=Value.isInt_shape (k:=i) (v:=v) h
  exact .inl ⟨i,t,rfl,e⟩
 | .inr x,v,h=>by
  obtain⟨t,e⟩:=Value.isStrOf_shape (x:=x) (v:=v) h
  exact .inr ⟨x,t,rfl,e⟩
theorem pQ (a b:Int):decide ((Sum.inl a:Key)=Sum.inl b)=(a==b):=by
 by_cases e:a=b
 ·subst e;simp
 ·have h:¬(Sum.inl a:Key)=Sum.inl b:=λq=>e (Sum.inl.inj q)
  rw [decide_eq_false h]
  exact (beq_eq_false_iff_ne.mpr e).symm
theorem pT (a b:Str):decide ((Sum.inr a:Key)=Sum.inr b)=decide (a=b):=by
 by_cases e:a=b
 ·subst e;simp
 ·have h:¬(Sum.inr a:Key)=Sum.inr b:=λq=>e (Sum.inr.inj q)
  rw [decide_eq_false h,decide_eq_false e]
theorem pR (a:Int) (b:Str):decide ((Sum.inl a:Key)=Sum.inr b)=false:=decide_eq_false (λq=>nomatch q)
theorem pS (a:Str) (b:Int):decide ((Sum.inr a:Key)=Sum.inl b)=false:=decide_eq_false (λq=>nomatch q)
def gU (prog:Program) (w:World):PySem.KeyKind prog w Key where
 is:=oK
 hash:=sA w
 inj:=λv a b ha hb=>by
  rcases aP ha with⟨i,t,rfl,rfl⟩|⟨x,t,rfl,rfl⟩
  ·rcases aP hb with⟨j,u,rfl,e⟩|⟨y,u,rfl,e⟩
   ·injection e with e1 _;rw [e1]
   ·exact nomatch e
  ·rcases aP hb with⟨j,u,rfl,e⟩|⟨y,u,rfl,e⟩
   ·exact nomatch e
   ·injection e with e1 _;rw [e1]
 byValue:=λk v h=>by
  rcases aP h with⟨i,t,rfl,rfl⟩|⟨x,t,rfl,rfl⟩<;>rfl
 pyHash:=λhv h=>by
  rcases aP hv with⟨i,t,rfl,rfl⟩|⟨x,t,rfl,rfl⟩
  ·exact wpAny_pyHash_int h
  ·exact wpAny_pyHash_str h
 eqBool:=λhu hv h=>by
  rcases aP hu with⟨i,t,rfl,rfl⟩|⟨x,t,rfl,rfl⟩
  ·rcases aP hv with⟨j,u,rfl,rfl⟩|⟨y,u,rfl,rfl⟩
   ·rw [pQ] at h;exact wpAny_eqBool_int h
   ·rw [pR] at h;exact SeqAt.EqAt.int_str i t y u _ _ _ _ h
  ·rcases aP hv with⟨j,u,rfl,rfl⟩|⟨y,u,rfl,rfl⟩
   ·rw [pS] at h;exact SeqAt.EqAt.str_int x t j u _ _ _ _ h
   ·rw [pT] at h;exact wpAny_eqBool_str h
 «strs»:=λk x t v h=>by
  rcases aP h with⟨i,u,rfl,e⟩|⟨y,u,rfl,e⟩
  ·exact nomatch e
  ·injection e with e1 _
   subst e1
   cases v<;>rfl
inductive V where
 | non | bl (b:Bool) | int (i:Int) | str (x:Str) | byt (b:Array UInt8) | flt (b:UInt64) | ref (a:Addr) | ty (n:String)
 deriving DecidableEq
def RelV:V->Value->Prop
 | .non,u=>u=Value.none
 | .bl b,u=>u=Value.bool b
 | .int i,u=>∃ t,u=Value.int i t
 | .str x,u=>∃ t,u=Value.str x t
 | .byt b,u=>∃ t,u=Value.bytes b t
 | .flt b,u=>∃ t,u=Value.float b t
 | .ref a,u=>u=Value.ref a
 | .ty n,u=>u=Value.type n
abbrev Vals:List V->List Value->Prop:=Paired RelV
theorem Vals.length {xs:List V} {us:List Value} (r:Vals xs us):xs.length=us.length:=Paired.length r
theorem Vals.get:∀{xs:List V} {us:List Value} {i:Nat} {x:V},Vals xs us->xs[i]?=some x->∃ u,us[i]?=some u/\RelV x u
 | _,_,_,_,.nil,e=>by simp at e
 | _,_,0,_,.cons r _,e=>by simp at e;subst e;exact⟨_,rfl,r⟩
 | _,_,i+1,x,.cons _ t,e=>by
  obtain⟨u,h1,h2⟩:=Vals.get (i:=i) (x:=x) t (by simpa using e)
  exact⟨u,by simpa using h1,h2⟩
theorem Vals.append:∀{xs ys:List V} {us ws:List Value},Vals xs us->Vals ys ws->Vals (xs++ys) (us++ws)
 | _,_,_,_,.nil,s=>s
 | _,_,_,_,.cons r t,s=>.cons r (Vals.append t s)
theorem Vals.take:∀{xs:List V} {us:List Value} (n:Nat),Vals xs us->Vals (xs.take n) (us.take n)
 | _,_,0,_=>.nil
 | _,_,_+1,.nil=>.nil
 | _,_,n+1,.cons r t=>.cons r (Vals.take n t)
theorem Vals.drop:∀{xs:List V} {us:List Value} (n:Nat),Vals xs us->Vals (xs.drop n) (us.drop n)
 | _,_,0,r=>r
 | _,_,_+1,.nil=>.nil
 | _,_,n+1,.cons _ t=>Vals.drop n t
def fG:Option V->Option Value->Prop
 | some v,some u=>RelV v u
 | none,none=>True
 | _,_=>False
def KV {κ:Type}:List (κ × V)->List (κ × Value)->Prop:=Paired fun(p:κ × V) (q:κ × Value)=>p.1=q.1/\RelV p.2 q.2
def kV:Key->V
 | .inl i=>.int i
 | .inr x=>.str x
inductive HO where
  | lst (xs:List V)
  | tup (xs:List V)
  | dK (kvs:List (Key × V)) | dT (kvs:List (List Key × V))
  | set (S:Int->Bool) (n:Nat)
  | ins (C dx:Addr) (fs:List (Str × V))
  | own (x:Addr)
  | xd (fs:List (Str × V))
  | met (f x:Addr)
  | rng (lo hi:Int)
  | frz (o:Obj) (u:HO)
  | tbl (ps:Array Value)
  | ext (φ:Heap->Prop)
abbrev Hp:=Addr->Option HO
def upd (H:Hp) (a:Addr) (o:HO):Hp:=λb=>if b=a then some o else H b
theorem ai {H:Hp} {a:Addr} {o:HO}:upd H a o a=some o:=by unfold upd;rw [if_pos rfl]
theorem ak {H:Hp} {a b:Addr} {o:HO} (h:b≠a):upd H a o b=H b:=by unfold upd;rw [if_neg h]
theorem aM {H:Hp} {a b:Addr} {o:HO} (h:H a=some o) (h':H b=none):a≠b:=by
 intro e;subst e;rw [h] at h';cases h'
section
variable (P:Program) (w:World)
def aY (H:Hp) (h:Heap) (a:Addr):HO->Prop
 | .lst xs=>xs.length<=sizeLine/\∃(its:List Value) (n:Nat),Vals xs its/\h.get? a=some { cls:=.type "list",data:=.seq its.toArray n }
 | .tup xs=>xs.length<=sizeLine/\∃ its:List Value,Vals xs its/\IsTup h a its.toArray
 | .dK kvs=>kvs.length<=sizeLine/\(a==sysModules)=false/\∃ vs,KV kvs vs/\h.DictOf (gU P w) a vs
 | .dT kvs=>kvs.length<=sizeLine/\(a==sysModules)=false/\∃ xs:List (List Key × Addr × Value),
   Paired (fun(p:List Key × V) (q:List Key × Addr × Value)=>p.1=q.1/\H q.2.1=some (.tup (p.1.map kV))/\RelV p.2 q.2.2) kvs xs /\
   ∃ o es ep,h.get? a=some o/\o.ExactDict/\o.data=.dict es ep/\es.toList=xs.map (entryOfKey (tupleKind (gU P w)))/\(xs.map (·.1)).Nodup
 | .set S n=>h.SetOf (intKind P w) a S n
 | .ins C dx fs=>H dx=some (.own a)/\fs.length<=1000/\dx≠a/\h.get? a=some (PySem.W.instObj C dx) /\
   ∃ mA,h.Ns1 dx mA/\(∀ f,fG (fs.lookup f) (mA f))/\PySem.Within mA (fs.map (·.1))
 | .own _=>∃ o,h.get? a=some o
 | .xd fs=>∃ mA,h.Ns1 a mA/\∀ f,fG (fs.lookup f) (mA f)
 | .rng lo hi=>∃ t u v,h.get? a=some { cls:=.type "range",data:=.fields #[.int lo t,.int hi u,.int 1 v] }
 | .frz o u=>h.get? a=some o/\aY H h a u
 | .tbl ps=>h.get? a=some { cls:=.none,data:=.fields ps }
 | .met f x=>h.get? a=some (PySem.W.methodObj (.ref f) (.ref x))
 | .ext φ=>φ h/\(∃ o,h.get? a=some o)/\∀ h1 h2:Heap,φ h1->(∀ o,h1.get? a=some o->h2.get? a=some o)->φ h2
def dh (H:Hp) (h:Heap):Prop:=∀ a o,H a=some o->aY P w H h a o
end
section
variable {P:Program} {w:World} {H H':Hp} {h h':Heap} {a:Addr} {o:HO}
theorem aY.lt (x:aY P w H h a o):a<h.objs.size:=by
 cases o with
 | lst xs=>obtain⟨_,_,_,_,e⟩:=x;exact Heap.lt_size e
 | tup xs=>obtain⟨_,_,_,p⟩:=x;exact p.lt
 | dK kvs=>obtain⟨_,_,_,_,o,_,_,e,_⟩:=x;exact Heap.lt_size e
 | dT kvs=>obtain⟨_,_,_,_,o,_,_,e,_⟩:=x;exact Heap.lt_size e
 | set S n=>obtain⟨o,_,_,_,e,_⟩:=x;exact Heap.lt_size e
 | ins C dx fs=>obtain⟨_,_,_,e,_⟩:=x;exact Heap.lt_size e
 | own y=>obtain⟨_,e⟩:=x;exact Heap.lt_size e
 | xd fs=>obtain⟨_,⟨_,_,_,e,_⟩,_⟩:=x;exact Heap.lt_size e
 | rng lo hi=>obtain⟨_,_,_,e⟩:=x;exact Heap.lt_size e
 | frz ob u=>obtain⟨e,_⟩:=x;exact Heap.lt_size e
 | tbl ps=>exact Heap.lt_size (show h.get? a=some _ from x)
 | met f y=>exact Heap.lt_size (show h.get? a=some _ from x)
 | ext φ=>obtain⟨_,⟨_,e⟩,_⟩:=x;exact Heap.lt_size e
theorem Paired.qV {α β:Type} {F G:α->β->Prop}:∀{l₁:List α} {l₂:List β},Paired F l₁ l₂->(∀ a b,F a b->G a b)->Paired G l₁ l₂
 | _,_,.nil,_=>.nil
 | _,_,.cons r t,f=>.cons (f _ _ r) (Paired.qV t f)
theorem aY.fN (x:aY P w H h a o) (k:∀ b u,(b=a∨H b=some (.own a))->h.get? b=some u->h'.get? b=some u)
  (ho:∀ b,H b=some (.own a)->H' b=some (.own a)) (ht:∀ b xs,H b=some (.tup xs)->H' b=some (.tup xs)):aY P w H' h' a o:=by
 induction o with
 | lst xs=>obtain⟨z,its,n,r,e⟩:=x;exact⟨z,its,n,r,k _ _ (.inl rfl) e⟩
 | tup xs=>obtain⟨z,its,r,ob,e,c⟩:=x;exact⟨z,its,r,ob,k _ _ (.inl rfl) e,c⟩
 | dK kvs=>obtain⟨z,y,vs,r,ob,es,ep,e,c⟩:=x;exact⟨z,y,vs,r,ob,es,ep,k _ _ (.inl rfl) e,c⟩
 | dT kvs =>
  obtain⟨z,y,xs,r,ob,es,ep,e,c⟩:=x
  exact⟨z,y,xs,Paired.qV r λp q z=>⟨z.1,ht _ _ z.2.1,z.2.2⟩,ob,es,ep,k _ _ (.inl rfl) e,c⟩
 | set S n=>obtain⟨ob,es,ep,t,e,c⟩:=x;exact⟨ob,es,ep,t,k _ _ (.inl rfl) e,c⟩
 | ins C dx fs =>
  obtain⟨d,z,ne,e,mA,⟨od,es,ep,e2,c⟩,r⟩:=x
  exact⟨ho _ d,z,ne,k _ _ (.inl rfl) e,mA,⟨od,es,ep,k _ _ (.inr d) e2,c⟩,r⟩
 | own y=>obtain⟨ob,e⟩:=x;exact⟨ob,k _ _ (.inl rfl) e⟩
 | xd fs=>obtain⟨mA,⟨od,es,ep,e,c⟩,r⟩:=x;exact⟨mA,⟨od,es,ep,k _ _ (.inl rfl) e,c⟩,r⟩
 | rng lo hi=>obtain⟨t,u,v,e⟩:=x;exact⟨t,u,v,k _ _ (.inl rfl) e⟩
 | frz ob u ih=>obtain⟨e,q⟩:=x;exact⟨k _ _ (.inl rfl) e,ih q⟩
 | tbl ps =>
  have e:h.get? a=some { cls:=.none,data:=.fields ps }:=x
  show h'.get? a=some { cls:=.none,data:=.fields ps }
  exact k a _ (.inl rfl) e
 | met f y =>
  have e:h.get? a=some (PySem.W.methodObj (.ref f) (.ref y)):=x
  show h'.get? a=some (PySem.W.methodObj (.ref f) (.ref y))
  exact k a _ (.inl rfl) e
 | ext φ=>obtain⟨p,⟨o,e⟩,st⟩:=x;exact⟨st _ _ p λo q=>k _ _ (.inl rfl) q,⟨o,k _ _ (.inl rfl) e⟩,st⟩
theorem dh.lt (x:dh P w H h) (e:H a=some o):a<h.objs.size:=(x a o e).lt
theorem dh.fresh (x:dh P w H h) (e:h.objs.size<=a):H a=none:=by
 cases q:H a with
 | none=>rfl
 | some u=>exact absurd (Nat.lt_of_lt_of_le (x.lt q) e) (Nat.lt_irrefl _)
theorem dh.kept (x:dh P w H h) (k:∀ b u,h.get? b=some u->h'.get? b=some u):dh P w H h':=λa o e =>
 (x a o e).fN (λb u _ q=>k b u q) (λ_ q=>q) λ_ _ q=>q
theorem dh.laid (x:dh P w H h) (k:∀ b u,h.get? b=some u->h'.get? b=some u) (hp:h.objs.size<=a) (new:aY P w (upd H a o) h' a o):dh P w (upd H a o) h':=λb u e=>by
 have hn:=x.fresh hp
 by_cases hb:b=a
 ·subst hb;rw [ai] at e;cases e;exact new
 ·rw [ak hb] at e
  exact (x b u e).fN (λc v _ q=>k c v q) (λc q=>by rw [ak (aM q hn)];exact q) λc xs q=>by rw [ak (aM q hn)];exact q
end
def Rd (H:Hp) (a:Addr) (u:HO):Prop:=H a=some u∨∃ o,H a=some (.frz o u)
theorem Rd.ok {P:Program} {w:World} {H:Hp} {h:Heap} {a:Addr} {u:HO} (r:Rd H a u) (x:dh P w H h):aY P w H h a u:=by
 rcases r with r | ⟨o,r⟩
 ·exact x a u r
 ·obtain⟨_,q⟩:=x a _ r
  exact q
def rT:Option HO->Prop
 | some (.lst _)=>True
 | some (.dK _)=>True
 | some (.dT _)=>True
 | some (.set _ _)=>True
 | some (.ins _ _ _)=>True
 | some (.ext _)=>True
 | _=>False
section
variable {P:Program} {w:World} {H:Hp} {h h':Heap} {x e:Addr} {o':HO}
theorem dh.write (ok:dh P w H h) (mu:rT (H x)) (he:e=x∨H e=some (.own x)) (k:∀ b u,b≠e->h.get? b=some u->h'.get? b=some u) (heo:∃ u,h'.get? e=some u)
  (new:aY P w (upd H x o') h' x o'):dh P w (upd H x o') h':=λb u q=>by
 have nown:∀ c y,H c=some (.own y)->c≠x:=λc y r z=>by subst z;rw [r] at mu;exact mu
 have ntup:∀ c xs,H c=some (.tup xs)->c≠x:=λc xs r z=>by subst z;rw [r] at mu;exact mu
 by_cases hb:b=x
 ·subst hb;rw [ai] at q;cases q;exact new
 ·rw [ak hb] at q
  by_cases hbe:b=e
  ·have q':H b=some (.own x):=by
    rcases he with z | z
    ·exact absurd (hbe.trans z) hb
    ·rw [hbe];exact z
   rw [q] at q';cases q'
   obtain⟨v,hv⟩:=heo
   exact⟨v,by rw [hbe];exact hv⟩
  ·refine (ok b u q).fN (λc v hc r=>k c v ?_ r) (λc r=>by rw [ak (nown c b r)];exact r) λc xs r=>by rw [ak (ntup c xs r)];exact r
   rcases hc with rfl | hc
   ·exact hbe
   ·rintro rfl
    rcases he with z | z
    ·exact nown c b hc z
    ·rw [hc] at z;cases z;exact hb rfl
end
structure Un (fs ex:List Addr) (H H':Hp) (h h':Heap):Prop where
 keep:∀ b o,h.get? b=some o->H b=none->b∉fs->b∉ex->h'.get? b=some o
 slot:∀ b o,h.get? b=some o->H b=none->b∈fs->b∉ex->∃ sl,h'.get? b=some { o with slots:=sl }
 free:∀ b o,h.get? b=some o->H b=none->b∉ex->H' b=none
 there:∀ b o,h.get? b=some o->b∉ex->∃ o',h'.get? b=some o'
 tups:∀ b xs,H b=some (.tup xs)->H' b=some (.tup xs)
 frzs:∀ b o u,H b=some (.frz o u)->H' b=some (.frz o u)
 tbls:∀ b ps,H b=some (.tbl ps)->∃ more,H' b=some (.tbl (ps++more))
section
variable {fs fs' ex ex':List Addr} {H H1 H2:Hp} {h h1 h2 h':Heap} {a x e:Addr} {o:HO}
theorem Un.any (u:Un fs ex H H1 h h1) {b:Addr} {ob:Obj} (q:h.get? b=some ob) (n:H b=none) (hx:b∉ex):∃ sl,h1.get? b=some { ob with slots:=sl }:=by
 by_cases hb:b∈fs
 ·exact u.slot b ob q n hb hx
 ·exact⟨ob.slots,u.keep b ob q n hb hx⟩
theorem Un.trans (a:Un fs ex H H1 h h1) (b:Un fs ex H1 H2 h1 h2):Un fs ex H H2 h h2 where
 keep:=λc ob q n hc hx=>b.keep c ob (a.keep c ob q n hc hx) (a.free c ob q n hx) hc hx
 slot:=λc ob q n hc hx=>by
  obtain⟨sl,e1⟩:=a.slot c ob q n hc hx
  obtain⟨sl',e2⟩:=b.slot c _ e1 (a.free c ob q n hx) hc hx
  exact⟨sl',e2⟩
 free:=λc ob q n hx=>by
  obtain⟨o',e1⟩:=a.there c ob q hx
  exact b.free c o' e1 (a.free c ob q n hx) hx
 there:=λc ob q hx=>by
  obtain⟨o',e1⟩:=a.there c ob q hx
  exact b.there c o' e1 hx
 tups:=λc xs q=>b.tups c xs (a.tups c xs q)
 frzs:=λc ob xs q=>b.frzs c ob xs (a.frzs c ob xs q)
 tbls:=λc ps q=>by
  obtain⟨m1,e1⟩:=a.tbls c ps q
  obtain⟨m2,e2⟩:=b.tbls c _ e1
  exact⟨m1++m2,by rw [e2,Array.append_assoc]⟩
theorem Un.kept (k:∀ b u,h.get? b=some u->h'.get? b=some u):Un fs ex H H h h' :=
 ⟨λb ob q _ _ _=>k b ob q,λb ob q _ _ _=>⟨ob.slots,k b ob q⟩,λ_ _ _ n _=>n,λb ob q _=>⟨ob,k b ob q⟩,λ_ _ q=>q,λ_ _ _ q=>q,λ_ ps q=>⟨#[],by rw [q];simp⟩⟩
theorem Un.refl:Un fs ex H H h h:=Un.kept λ_ _ q=>q
theorem Un.laid (k:∀ b u,h.get? b=some u->h'.get? b=some u) (hp:h.objs.size<=a) (hn:H a=none):Un fs ex H (upd H a o) h h' where
 keep:=λb u q _ _ _=>k b u q
 slot:=λb u q _ _ _=>⟨u.slots,k b u q⟩
 free:=λb u q n _=>by rw [ak (Nat.ne_of_lt (Nat.lt_of_lt_of_le (Heap.lt_size q) hp))];exact n
 there:=λb u q _=>⟨u,k b u q⟩
 tups:=λb xs q=>by rw [ak (aM q hn)];exact q
 frzs:=λb u xs q=>by rw [ak (aM q hn)];exact q
 tbls:=λb ps q=>⟨#[],by rw [ak (aM q hn),q];simp⟩
theorem Un.write (mu:rT (H x)) (he:e=x∨H e=some (.own x)) (k:∀ b u,b≠e->h.get? b=some u->h'.get? b=some u) (heo:∃ u,h'.get? e=some u):Un fs ex H (upd H x o) h h':=by
 have hx:∀ b,H b=none->b≠x:=λb n z=>by subst z;rw [n] at mu;exact mu
 have hb:∀ b,H b=none->b≠e:=λb n z=>by
  subst z
  rcases he with r | r
  ·exact hx b n r
  ·rw [n] at r;cases r
 have hm:∀ b u,H b=some u->¬rT (some u)->b≠x:=λb u q nm z=>by subst z;rw [q] at mu;exact nm mu
 refine⟨λb u q n _ _=>k b u (hb b n) q,λb u q n _ _=>⟨u.slots,k b u (hb b n) q⟩,λb u q n _=>by rw [ak (hx b n)];exact n,λb u q _=>?_,
  λb xs q=>by rw [ak (hm b _ q λz=>z)];exact q,λb u xs q=>by rw [ak (hm b _ q λz=>z)];exact q,λb ps q=>⟨#[],by rw [ak (hm b _ q λz=>z),q];simp⟩⟩
 by_cases hbe:b=e
 ·subst hbe;exact heo
 ·exact⟨u,k b u hbe q⟩
theorem Un.mono (u:Un fs ex H H1 h h1) (hs:∀ b∈fs,b∈fs') (hx:∀ b∈ex,b∈ex'):Un fs' ex' H H1 h h1 :=
 ⟨λb ob q n hb he=>u.keep b ob q n (λz=>hb (hs b z)) λz=>he (hx b z),λ_ _ q n _ he=>u.any q n λz=>he (hx _ z),λb ob q n he=>u.free b ob q n λz=>he (hx b z),λb ob q he=>u.there b ob q λz=>he (hx b z),u.tups,u.frzs,u.tbls⟩
end
def rZ (h:Heap) (H:Hp):List Addr:=(List.range h.objs.size).filter λa=>(H a).isSome
def gL (h:Heap) (H:Hp):Heap:=PySem.W.hideAll h (rZ h H)
theorem kx (h:Heap) (H:Hp):(gL h H).objs.size=h.objs.size:=PySem.W.hideAll_size _ _
theorem lB {h:Heap} {H:Hp} {b:Addr} {o:Obj} (e:h.get? b=some o) (n:H b=none):(gL h H).get? b=some o :=
 PySem.W.hideAll_get _ e λhm=>by
  have q:(H b).isSome=true:=(List.mem_filter.mp hm).2
  rw [n] at q;simp at q
theorem nz {h:Heap} {H:Hp} {b:Addr} {o:Obj} (e:(gL h H).get? b=some o):h.get? b=some o/\H b=none:=by
 have e':h.get? b=some o:=PySem.W.of_hideAll (rZ h H) e
 refine⟨e',?_⟩
 cases q:H b with
 | none=>rfl
 | some x =>
  have hm:b∈rZ h H:=List.mem_filter.mpr ⟨List.mem_range.mpr (Heap.lt_size e'),by simp [q]⟩
  have z:(gL h H).get? b=none:=PySem.W.hideAll_none (rZ h H) hm
  rw [z] at e;cases e
def mS (g h:Heap) (L:Addr):List (Addr × Obj):=(List.range h.objs.size).filterMap λa=>if a=L∨(g.get? a).isSome=true then none else (h.get? a).map λo=>(a,o)
def rest (g h:Heap) (L d:Addr):List (Addr × Obj):=(mS g h L).filter λp=>decide (p.1≠d)
structure Mod (K:PySem.W.Frag) (mg:Str->Option Value) (base:Heap):Prop where
 kin:K.In base
 glob:base.Ns mainGlobals mg
 blt:∃ mb,base.Ns builtinsNs mb/\∀ x:Str,x ≠ "__name__"->mb x=bootBuiltins x
 nolimit:base.NoLimit
structure Cx where
 prog:Program
 w:World
 K:PySem.W.Frag
 mg:Str->Option Value
 base:Heap
 A:Around
 N:List Str
 s₀:Shared
 H₀:Hp
 env:Env
 outer:List Env
 stack:List Env
 ex:List Addr
 fn:Str->Bool
 calm:Bool
 pn:List (Addr × Obj)
 xe:Value->Shared->Prop
def cQ (l:List Env):List Addr:=l.filterMap (·.frame)
abbrev Cx.fs (X:Cx):List Addr:=cQ X.outer
def pk (sc:Scope) (x:Str):Prop:=sc.names.lookup x=some .local∨sc.names.lookup x=some .cell∨sc.names.lookup x=some .free
def Loc (sc:Scope) (x:Str):Prop:=sc.names.lookup x=some .local∨sc.names.lookup x=some .cell
def Look (env:Env) (h:Heap) (m:Str->Option Value) (x:Str) (u:Value):Prop :=
 (env.kindOf x=some .local/\m x=some u)∨((env.kindOf x=some .cell∨env.kindOf x=some .free)/\∃ c,env.cells.lookup x=some c/\h.IsCell c (some u))
structure Cx.Ok (X:Cx):Prop where
 mod:Mod X.K X.mg X.base
 kind:X.env.scope.kind=.function
 glob:X.env.globals=mainGlobals
 blt:X.env.builtins=builtinsNs
 above:X.s₀.heap.objs.size<=X.env.locals
 inj:∀ x y c,X.env.cells.lookup x=some c->X.env.cells.lookup y=some c->x=y
 has:∀ x,(X.env.kindOf x=some .cell∨X.env.kindOf x=some .free)->∃ c,X.env.cells.lookup x=some c
 cab:∀ x c,X.fn x=true->X.env.cells.lookup x=some c->X.s₀.heap.objs.size<=c
 hd:X.calm=true->X.A.handled=none
 frames:X.A.frames=some X.stack
 stk:X.stack=X.outer∨(X.stack=X.env::X.outer/\X.env.frame=some X.env.locals)
 exf:∀ b∈X.ex,b≠X.env.locals/\∀ x c,X.env.cells.lookup x=some c->c≠b
 bs:∀ b o,X.base.get? b=some o->X.s₀.heap.get? b=some o/\X.H₀ b=none
 bsz:X.base.objs.size<=X.s₀.heap.objs.size
 noex:∀ b o,X.base.get? b=some o->b∉X.ex
 exfs:∀ b∈X.ex,b∉X.fs
 d4:X.s₀.heap.FunFrames X.base X.outer
 frf:∀ b∈X.fs,X.H₀ b=none
structure Inv (X:Cx) (pins:List (Addr × Obj)) (σ:List (Option V)) (H:Hp) (s:Shared):Prop where
 ok:X.Ok
 os:s.os=X.s₀.os
 bare:AllBare s.gens
 base:Un X.fs X.ex X.H₀ H X.s₀.heap s.heap
 loc:∃ m,s.heap.Ns X.env.locals m/\∀(i:Nat) (x:Str) (v:V),X.N[i]?=some x->σ[i]?=some (some v)->pk X.env.scope x->∃ u,RelV v u/\Look X.env s.heap m x u
 cell:∀ x c,X.env.cells.lookup x=some c->∃ v,s.heap.IsCell c v
 free:H X.env.locals=none
 freeC:∀ x c,X.env.cells.lookup x=some c->H c=none
 pin:∀ p∈X.pn++pins,s.heap.get? p.1=some p.2/\H p.1=none/\p.1≠X.env.locals/\p.1∉X.fs/\∀ v,p.2.data≠.cell v
 hok:dh X.prog X.w H s.heap
 len:σ.length=X.N.length
section
variable {X:Cx} {pins:List (Addr × Obj)} {σ:List (Option V)} {H H':Hp} {s:Shared} {h':Heap}
theorem Cx.Ok.sF (ok:X.Ok) {b:Addr} {o:Obj} (e:X.base.get? b=some o):b∉X.fs:=λhb=>by
 have:=(ok.d4.mem hb).1
 rw [e] at this;cases this
theorem Inv.bs (I:Inv X pins σ H s):∀ b o,X.base.get? b=some o->s.heap.get? b=some o/\H b=none:=λb o e =>
 ⟨I.base.keep b o (I.ok.bs b o e).1 (I.ok.bs b o e).2 (I.ok.sF e) (I.ok.noex b o e),I.base.free b o (I.ok.bs b o e).1 (I.ok.bs b o e).2 (I.ok.noex b o e)⟩
theorem Inv.bk (I:Inv X pins σ H s):∀ b o,X.base.get? b=some o->s.heap.get? b=some o:=λb o e=>(I.bs b o e).1
theorem Inv.mod (I:Inv X pins σ H s):Mod X.K X.mg X.base:=I.ok.mod
theorem Inv.cU (I:Inv X pins σ H s):X.K.In s.heap:=I.ok.mod.kin.keeps I.bk
theorem Inv.fr (I:Inv X pins σ H s):∃ m,Fr X.base X.env.locals s.heap m :=
 let ⟨m,hn,_⟩:=I.loc
 ⟨m,hn,I.bk,Nat.le_trans I.ok.bsz I.ok.above⟩
theorem Inv.lt (I:Inv X pins σ H s):X.env.locals<s.heap.objs.size:=let ⟨_,hn,_⟩:=I.loc;hn.lt
theorem Inv.sz (I:Inv X pins σ H s):X.s₀.heap.objs.size<=s.heap.objs.size:=Nat.le_trans I.ok.above (Nat.le_of_lt I.lt)
theorem Inv.pX (I:Inv X pins σ H s) {a:Addr} (h:s.heap.objs.size<=a):a∉X.fs:=λhb=>by
 obtain⟨_,o,ho,_⟩:=I.ok.d4.mem hb
 exact absurd (Nat.lt_of_lt_of_le (Heap.lt_size ho) (Nat.le_trans I.sz h)) (Nat.lt_irrefl _)
theorem Inv.lh (I:Inv X pins σ H s):∀ x c,X.env.cells.lookup x=some c->c≠X.env.locals:=λx c e z=>by
 obtain⟨v,o,ho,hd⟩:=I.cell x c e
 obtain⟨m,⟨o',es,ep,ho',hd',_⟩,_⟩:=I.loc
 rw [z,ho'] at ho;cases ho;rw [hd'] at hd;cases hd
theorem Inv.d4 (I:Inv X pins σ H s):s.heap.FunFrames X.base X.outer:=by
 have all:∀(l:List Env),(∀ b∈cQ l,b∈X.fs)->X.s₀.heap.FunFrames X.base l->s.heap.FunFrames X.base l:=by
  intro l
  induction l with
  | nil=>intro _ _;trivial
  | cons env r ih =>
   intro hs hl
   obtain⟨hk,⟨L,o,hf,hn,ho,hd⟩,hr⟩:=hl
   have hL:L∈X.fs:=hs L (by unfold cQ;rw [List.filterMap_cons,hf];exact List.mem_cons_self)
   obtain⟨sl,e⟩:=I.base.slot L o ho (I.ok.frf L hL) hL λz=>I.ok.exfs L z hL
   exact⟨hk,⟨L,_,hf,hn,e,hd⟩,ih (λb hb=>hs b (by unfold cQ;rw [List.filterMap_cons,hf];exact List.mem_cons_of_mem _ hb)) hr⟩
 exact all X.outer (λ_ hb=>hb) I.ok.d4
theorem Inv.stack (I:Inv X pins σ H s):s.heap.FunFrames X.base X.stack:=by
 rcases I.ok.stk with e | ⟨e,hf⟩
 ·rw [e];exact I.d4
 ·rw [e]
  obtain⟨m,hn,_⟩:=I.loc
  refine .cons (by rw [I.ok.kind];decide) hf hn ?_ I.d4
  exact Heap.get?_none_of_le (Nat.le_trans I.ok.bsz I.ok.above)
theorem Inv.c7 (I:Inv X pins σ H s):∀ b∈cQ X.stack,b∈X.env.locals::X.fs:=λb hb=>by
 rcases I.ok.stk with e | ⟨e,hf⟩
 ·rw [e] at hb;exact List.mem_cons_of_mem _ hb
 ·rw [e] at hb
  unfold cQ at hb
  rw [List.filterMap_cons,hf] at hb
  exact hb
theorem Inv.cJ (I:Inv X pins σ H s):∀ b∈cQ X.stack,H b=none:=λb hb=>by
 rcases List.mem_cons.mp (I.c7 b hb) with e | hb
 ·rw [e];exact I.free
 ·obtain⟨_,o,ho,_⟩:=I.ok.d4.mem hb
  exact I.base.free b o ho (I.ok.frf b hb) λz=>I.ok.exfs b z hb
theorem Inv.step {g':Array GenState} {t':Nat} {d':Drawn} {ch:List Addr} (I:Inv X pins σ H s)
  (hch:∀ b∈ch,(b∈X.ex∨X.s₀.heap.objs.size<=b)/\b≠X.env.locals/\(∀ x c,X.env.cells.lookup x=some c->c≠b)/\∀ p∈X.pn++pins,p.1≠b)
  (keep:∀ b o,b≠X.env.locals->b∉X.fs->b∉ch->s.heap.get? b=some o->H b=none->h'.get? b=some o)
  (slot:∀ b o,b≠X.env.locals->b∈X.fs->b∉ch->s.heap.get? b=some o->H b=none->∃ sl,h'.get? b=some { o with slots:=sl }) (free:∀ b o,b∉ch->s.heap.get? b=some o->H b=none->H' b=none)
  (there:∀ b o,b∉ch->s.heap.get? b=some o->∃ o',h'.get? b=some o')
  (tups:∀ b xs,H b=some (.tup xs)->H' b=some (.tup xs)) (frzs:∀ b o u,H b=some (.frz o u)->H' b=some (.frz o u)) (tbls:∀ b ps,H b=some (.tbl ps)->∃ more,H' b=some (.tbl (ps++more)))
  (ns:∀ m,s.heap.Ns X.env.locals m->h'.Ns X.env.locals m) (hok:dh X.prog X.w H' h') (hg:AllBare g') :
  Inv X pins σ H' { s with heap:=h',gens:=g',drawn:=d',toks:=t' }:=by
 have neL:∀ b o,X.s₀.heap.get? b=some o->b≠X.env.locals:=λb o e=>Nat.ne_of_lt (Nat.lt_of_lt_of_le (Heap.lt_size e) I.ok.above)
 have neC:∀ b o,X.s₀.heap.get? b=some o->b∉X.ex->b∉ch:=λb o e hx hb=>by
  rcases (hch b hb).1 with z | z
  ·exact hx z
  ·exact absurd (Nat.lt_of_lt_of_le (Heap.lt_size e) z) (Nat.lt_irrefl _)
 have cellK:∀ x c,X.env.cells.lookup x=some c->∀ v,s.heap.IsCell c v->h'.IsCell c v:=λx c e v ⟨o,ho,hd⟩=>by
  have nch:c∉ch:=λz=>(hch c z).2.2.1 x c e rfl
  by_cases hc:c∈X.fs
  ·obtain⟨sl,q⟩:=slot c o (I.lh x c e) hc nch ho (I.freeC x c e)
   exact⟨_,q,hd⟩
  ·exact⟨o,keep c o (I.lh x c e) hc nch ho (I.freeC x c e),hd⟩
 refine⟨I.ok,I.os,hg,⟨λb o e n hb hx=>?_,λb o e n hb hx=>?_,λb o e n hx=>?_,λb o e hx=>?_,λb xs e=>tups b xs (I.base.tups b xs e),λb o xs e=>frzs b o xs (I.base.frzs b o xs e),λb ps e=>?_⟩,?_,λx c e=>?_,?_,λx c e=>?_,λp hp=>?_,hok,I.len⟩
 ·exact keep b o (neL b o e) hb (neC b o e hx) (I.base.keep b o e n hb hx) (I.base.free b o e n hx)
 ·obtain⟨sl,e1⟩:=I.base.slot b o e n hb hx
  obtain⟨sl',e2⟩:=slot b _ (neL b o e) hb (neC b o e hx) e1 (I.base.free b o e n hx)
  exact⟨sl',e2⟩
 ·obtain⟨o',e1⟩:=I.base.there b o e hx
  exact free b o' (neC b o e hx) e1 (I.base.free b o e n hx)
 ·obtain⟨o',e1⟩:=I.base.there b o e hx
  exact there b o' (neC b o e hx) e1
 ·obtain⟨m1,e1⟩:=I.base.tbls b ps e
  obtain⟨m2,e2⟩:=tbls b _ e1
  exact⟨m1++m2,by rw [e2,Array.append_assoc]⟩
 ·obtain⟨m,hn,hl⟩:=I.loc
  refine⟨m,ns m hn,λi x v e1 e2 e3=>?_⟩
  obtain⟨u,r,l⟩:=hl i x v e1 e2 e3
  refine⟨u,r,?_⟩
  rcases l with l | ⟨k,c,e,z⟩
  ·exact .inl l
  ·exact .inr ⟨k,c,e,cellK x c e _ z⟩
 ·obtain⟨v,z⟩:=I.cell x c e
  exact⟨v,cellK x c e v z⟩
 ·obtain⟨m,⟨o,_,_,ho,_⟩,_⟩:=I.loc
  exact free _ o (λz=>(hch _ z).2.1 rfl) ho I.free
 ·obtain⟨v,o,ho,hd⟩:=I.cell x c e
  exact free c o (λz=>(hch c z).2.2.1 x c e rfl) ho (I.freeC x c e)
 ·obtain⟨e,n,ne,nf,d⟩:=I.pin p hp
  have nch:p.1∉ch:=λz=>(hch p.1 z).2.2.2 p hp rfl
  exact⟨keep p.1 p.2 ne nf nch e n,free p.1 p.2 nch e n,ne,nf,d⟩
theorem Inv.un {t':Nat} (I:Inv X pins σ H s) (u:Un X.fs [] H H' s.heap h') (hok:dh X.prog X.w H' h'):Inv X pins σ H' { s with heap:=h',toks:=t' }:=by
 obtain⟨m,⟨o,es,ep,ho,r⟩,_⟩:=id I.loc
 obtain⟨sl,hL⟩:=u.any ho I.free (by simp)
 exact I.step (g':=s.gens) (d':=s.drawn) (ch:=[]) (λ_ z=>nomatch z) (λb o _ hb _ e n=>u.keep b o e n hb (by simp)) (λb o _ hb _ e n=>u.slot b o e n hb (by simp)) (λb o _ e n=>u.free b o e n (by simp)) (λb o _ e=>u.there b o e (by simp)) u.tups u.frzs u.tbls (λm' hm=>by
  obtain⟨o',es',ep',ho',r'⟩:=hm
  rw [ho] at ho';cases ho'
  exact⟨_,es',ep',hL,r'⟩) hok I.bare
theorem Inv.call {g':Array GenState} {t':Nat} {d':Drawn} {ch:List Addr} (I:Inv X pins σ H s) (u:Un (cQ X.stack) ch H H' s.heap h') (hok:dh X.prog X.w H' h') (hg:AllBare g')
  (hch:∀ b∈ch,(b∈X.ex∨X.s₀.heap.objs.size<=b)/\b≠X.env.locals/\(∀ x c,X.env.cells.lookup x=some c->c≠b)/\∀ p∈X.pn++pins,p.1≠b) :
  Inv X pins σ H' { s with heap:=h',gens:=g',drawn:=d',toks:=t' }:=by
 obtain⟨m,⟨o,es,ep,ho,r⟩,_⟩:=id I.loc
 obtain⟨sl,hL⟩:=u.any ho I.free λz=>(hch _ z).2.1 rfl
 exact I.step (ch:=ch) hch (λb o hL hb hc e n=>u.keep b o e n (λz=>(List.mem_cons.mp (I.c7 b z)).elim hL hb) hc) (λb o _ _ hc e n=>u.any e n hc) (λb o hc e n=>u.free b o e n hc) (λb o hc e=>u.there b o e hc) u.tups u.frzs u.tbls (λm' hm=>by
  obtain⟨o',es',ep',ho',r'⟩:=hm
  rw [ho] at ho';cases ho'
  exact⟨_,es',ep',hL,r'⟩) hok hg
theorem Inv.turned {t':Nat} {it:Addr} (I:Inv X pins σ H s) (k:∀ b o,b≠it->s.heap.get? b=some o->h'.get? b=some o) (hn:H it=none) (hL:it≠X.env.locals)
  (h1:it∈X.ex∨X.s₀.heap.objs.size<=it) (h2:∀ x c,X.env.cells.lookup x=some c->c≠it) (h3:∀ p∈X.pn++pins,p.1≠it):Inv X pins σ H { s with heap:=h',toks:=t' }:=by
 have nit:∀ b u,H b=some u->b≠it:=λb u e z=>by rw [z,hn] at e;cases e
 refine I.step (g':=s.gens) (d':=s.drawn) (ch:=[it]) (λb hb=>?_) (λb o _ _ hc e _=>k b o (λz=>hc (by simp [z])) e) (λb o _ _ hc e _=>⟨o.slots,k b o (λz=>hc (by simp [z])) e⟩) (λ_ _ _ _ n=>n)
  (λb o hc e=>⟨o,k b o (λz=>hc (by simp [z])) e⟩) (λ_ _ e=>e) (λ_ _ _ e=>e) (λb ps e=>⟨#[],by rw [e];simp⟩) (λm hm=>?_) (λb u e=>?_) I.bare
 ·have e:b=it:=by simpa using hb
  subst e
  exact⟨h1,hL,h2,h3⟩
 ·obtain⟨o,es,ep,ho,r⟩:=hm
  exact⟨o,es,ep,k _ o (Ne.symm hL) ho,r⟩
 ·refine (I.hok b u e).fN (λc v hc q=>k c v ?_ q) (λ_ q=>q) λ_ _ q=>q
  rcases hc with z | z
  ·rw [z];exact nit b u e
  ·exact nit c _ z
theorem Inv.tok (I:Inv X pins σ H s) (t:Nat):Inv X pins σ H { s with toks:=t }:=I.un (h':=s.heap) (t':=t) Un.refl I.hok
theorem Inv.kept {t':Nat} (I:Inv X pins σ H s) (k:∀ b u,s.heap.get? b=some u->h'.get? b=some u):Inv X pins σ H { s with heap:=h',toks:=t' }:=I.un (Un.kept k) (I.hok.kept k)
theorem Inv.laid {a:Addr} {o:HO} {t':Nat} (I:Inv X pins σ H s) (k:∀ b u,s.heap.get? b=some u->h'.get? b=some u) (hp:s.heap.objs.size<=a) (new:aY X.prog X.w (upd H a o) h' a o) :
  Inv X pins σ (upd H a o) { s with heap:=h',toks:=t' }:=I.un (Un.laid k hp (I.hok.fresh hp)) (I.hok.laid k hp new)
theorem Inv.write {x e:Addr} {o:HO} {t':Nat} (I:Inv X pins σ H s) (mu:rT (H x)) (he:e=x∨H e=some (.own x)) (k:∀ b u,b≠e->s.heap.get? b=some u->h'.get? b=some u) (heo:∃ u,h'.get? e=some u)
  (new:aY X.prog X.w (upd H x o) h' x o):Inv X pins σ (upd H x o) { s with heap:=h',toks:=t' }:=I.un (Un.write mu he k heo) (I.hok.write mu he k heo new)
theorem Inv.weak {σ':List (Option V)} (I:Inv X pins σ H s) (hl:σ'.length=σ.length) (w:∀(i:Nat) v,σ'[i]?=some (some v)->σ[i]?=some (some v)):Inv X pins σ' H s :=
 ⟨I.ok,I.os,I.bare,I.base,let ⟨m,hn,hl'⟩:=I.loc;⟨m,hn,λi x v e1 e2 e3=>hl' i x v e1 (w i v e2) e3⟩,I.cell,I.free,I.freeC,I.pin,I.hok,hl.trans I.len⟩
theorem Inv.eT {pins':List (Addr × Obj)} (I:Inv X pins σ H s) (h:∀ p∈pins',s.heap.get? p.1=some p.2/\H p.1=none/\p.1≠X.env.locals/\p.1∉X.fs/\∀ v,p.2.data≠.cell v):Inv X pins' σ H s :=
 ⟨I.ok,I.os,I.bare,I.base,I.loc,I.cell,I.free,I.freeC,λp hp=>(List.mem_append.mp hp).elim (λz=>I.pin p (List.mem_append_left _ z)) (h p),I.hok,I.len⟩
theorem fg {N:List Str} (hN:N.Nodup) {i j:Nat} {x:Str} (a:N[i]?=some x) (b:N[j]?=some x):i=j:=by
 obtain⟨h1,e1⟩:=List.getElem?_eq_some_iff.mp a
 obtain⟨h2,e2⟩:=List.getElem?_eq_some_iff.mp b
 exact (List.getElem_inj hN).mp (e1.trans e2.symm)
theorem kO {M:Model} {A:Around} {E:Value->Shared->Prop} {i:Nat} {x:Str} {v:V} {u:Value} {Q:Unit->Shared->Prop} (I:Inv X pins σ H s) (hN:X.N.Nodup) (hi:X.N[i]?=some x) (hx:Loc X.env.scope x) (r:RelV v u)
  (h:∀ s',Inv X pins (σ.set i (some v)) H s'->(∃ a,Heap.SameBut a s.heap s'.heap/\(a=X.env.locals∨X.env.cells.lookup x=some a))->Q () s') (hf:X.fn x=true∨X.env.scope.names.lookup x=some .local:=by first | exact .inl rfl | exact .inr rfl | assumption):wpAny M A (storeName X.env x u) Q E s:=by
 obtain⟨m,hn,hl⟩:=id I.loc
 have hcls:(X.env.scope.kind==.class || (X.env.scope.kind==.module && X.env.locals != X.env.globals))=false:=by rw [I.ok.kind];rfl
 have hiσ:i<σ.length:=by rw [I.len];exact (List.getElem?_eq_some_iff.mp hi).1
 have lh:=I.lh
 have tracked:∀{a:Addr} {h':Heap},(∃ o,s.heap.get? a=some o/\H a=none)->Heap.SameBut a s.heap h'->dh X.prog X.w H h':=λ{a h'} ha hs b ob e=>by
  obtain⟨_,_,hfree⟩:=ha
  refine (I.hok b ob e).fN (λc w' hc q=>(hs.2 c ?_).trans q) (λ_ q=>q) λ_ _ q=>q
  rintro rfl
  rcases hc with rfl | hc
  ·rw [hfree] at e;cases e
  ·rw [hfree] at hc;cases hc
 rcases hx with hk | hk
 ·refine wpAny_storeName_local hk hn (λh' hn' hs=>?_) hcls
  obtain⟨oL,_,_,hoL,_⟩:=id hn
  refine h _ ⟨I.ok,I.os,I.bare,⟨λb o e n hb hx=>?_,λb o e n hb hx=>?_,I.base.free,λb o e hx=>?_,I.base.tups,I.base.frzs,I.base.tbls⟩,⟨_,hn',λj y v' e1 e2 e3=>?_⟩,λy c e=>?_,I.free,I.freeC,λp hp=>?_,tracked ⟨oL,hoL,I.free⟩ hs,by simpa using I.len⟩ ⟨_,hs,.inl rfl⟩
  ·exact (hs.2 b (Nat.ne_of_lt (Nat.lt_of_lt_of_le (Heap.lt_size e) I.ok.above))).trans (I.base.keep b o e n hb hx)
  ·obtain⟨sl,e1⟩:=I.base.slot b o e n hb hx
   exact⟨sl,(hs.2 b (Nat.ne_of_lt (Nat.lt_of_lt_of_le (Heap.lt_size e) I.ok.above))).trans e1⟩
  ·obtain⟨o',e1⟩:=I.base.there b o e hx
   exact⟨o',(hs.2 b (Nat.ne_of_lt (Nat.lt_of_lt_of_le (Heap.lt_size e) I.ok.above))).trans e1⟩
  ·by_cases hj:j=i
   ·subst hj
    rw [hi] at e1;cases e1
    rw [List.getElem?_set_self hiσ] at e2
    cases e2
    exact⟨u,r,.inl ⟨hk,by simp⟩⟩
   ·rw [List.getElem?_set_ne (Ne.symm hj)] at e2
    obtain⟨u',r',q⟩:=hl j y v' e1 e2 e3
    refine⟨u',r',?_⟩
    rcases q with⟨k,e⟩|⟨k,c,e,z⟩
    ·refine .inl ⟨k,?_⟩
     have:y≠x:=λe=>hj (fg hN e1 (e▸hi))
     simp [this,e]
    ·exact .inr ⟨k,c,e,z.sameBut hs (lh y c e)⟩
  ·obtain⟨w',z⟩:=I.cell y c e
   exact⟨w',z.sameBut hs (lh y c e)⟩
  ·obtain⟨e,n,ne,nf,d⟩:=I.pin p hp
   exact⟨(hs.2 p.1 ne).trans e,n,ne,nf,d⟩
 ·have hfn:X.fn x=true:=by
   rcases hf with z | z
   ·exact z
   ·rw [z] at hk;cases hk
  obtain⟨c,hc⟩:=I.ok.has x (.inl hk)
  obtain⟨w',z⟩:=I.cell x c hc
  refine wpAny_storeName_cell I.ok.kind hk hc z (λh' hc' hs=>?_)
  obtain⟨oc,hoc,hocd⟩:=id z
  refine h { s with heap:=h' } ⟨I.ok,I.os,I.bare,⟨λb o e n hb hx=>?_,λb o e n hb hx=>?_,I.base.free,λb o e hx=>?_,I.base.tups,I.base.frzs,I.base.tbls⟩,⟨m,hn.sameBut hs (Ne.symm (lh x c hc)),λj y v' e1 e2 e3=>?_⟩,λy c' e=>?_,I.free,I.freeC,λp hp=>?_,tracked ⟨oc,hoc,I.freeC x c hc⟩ hs,by simpa using I.len⟩ ⟨c,hs,.inr hc⟩
  ·exact (hs.2 b (Nat.ne_of_lt (Nat.lt_of_lt_of_le (Heap.lt_size e) (I.ok.cab x c hfn hc)))).trans (I.base.keep b o e n hb hx)
  ·obtain⟨sl,e1⟩:=I.base.slot b o e n hb hx
   exact⟨sl,(hs.2 b (Nat.ne_of_lt (Nat.lt_of_lt_of_le (Heap.lt_size e) (I.ok.cab x c hfn hc)))).trans e1⟩
  ·obtain⟨o',e1⟩:=I.base.there b o e hx
   exact⟨o',(hs.2 b (Nat.ne_of_lt (Nat.lt_of_lt_of_le (Heap.lt_size e) (I.ok.cab x c hfn hc)))).trans e1⟩
  ·by_cases hj:j=i
   ·subst hj
    rw [hi] at e1;cases e1
    rw [List.getElem?_set_self hiσ] at e2
    cases e2
    exact⟨u,r,.inr ⟨.inl hk,c,hc,hc'⟩⟩
   ·rw [List.getElem?_set_ne (Ne.symm hj)] at e2
    obtain⟨u',r',q⟩:=hl j y v' e1 e2 e3
    refine⟨u',r',?_⟩
    rcases q with q | ⟨k,c',e,z'⟩
    ·exact .inl q
    ·refine .inr ⟨k,c',e,z'.sameBut hs ?_⟩
     rintro rfl
     exact hj (fg hN e1 (I.ok.inj _ _ _ e hc▸hi))
  ·by_cases hcc:c'=c
   ·subst hcc;exact⟨_,hc'⟩
   ·obtain⟨w2,z2⟩:=I.cell y c' e
    exact⟨w2,z2.sameBut hs hcc⟩
  ·obtain⟨e,n,ne,nf,d⟩:=I.pin p hp
   refine⟨(hs.2 p.1 ?_).trans e,n,ne,nf,d⟩
   intro q
   rw [q,hoc] at e
   have q':oc=p.2:=Option.some.inj e
   exact d w' (by rw [<- q'];exact hocd)
theorem bo {M:Model} {A:Around} {E:Value->Shared->Prop} {i:Nat} {x:Str} {v:V} {u:Value} {Q:Unit->Shared->Prop} (I:Inv X pins σ H s) (hN:X.N.Nodup) (hi:X.N[i]?=some x) (hx:Loc X.env.scope x) (r:RelV v u)
  (h:∀ s',Inv X pins (σ.set i (some v)) H s'->Q () s') (hf:X.fn x=true∨X.env.scope.names.lookup x=some .local:=by first | exact .inl rfl | exact .inr rfl | assumption):wpAny M A (storeName X.env x u) Q E s :=
 kO I hN hi hx r (λs' I' _=>h s' I') hf
theorem Inv.ot {s':Shared} {ch:List Addr} (I:Inv X pins σ H s) (ho:s'.os=s.os) (u:Un (cQ X.stack) ch H H' s.heap s'.heap) (hok:dh X.prog X.w H' s'.heap) (hg:AllBare s'.gens)
  (hch:∀ b∈ch,(b∈X.ex∨X.s₀.heap.objs.size<=b)/\b≠X.env.locals/\(∀ x c,X.env.cells.lookup x=some c->c≠b)/\∀ p∈X.pn++pins,p.1≠b):Inv X pins σ H' s':=by
 obtain⟨h',g',d',t',o'⟩:=s'
 have e:o'=s.os:=ho
 subst e
 exact I.call (g':=g') (t':=t') (d':=d') u hok hg hch
end
abbrev XK:=Value->Option Addr->Hp->Prop
abbrev St:=List (Option V)
abbrev VK:=V->Hp->Prop
abbrev TE:=St->Hp->VK->Prop
abbrev TT:=St->Hp->(Bool->Hp->Prop)->Prop
abbrev TA:=St->Hp->(List V->Hp->Prop)->Prop
structure Ends where
 nx:St->Hp->Prop
 rt:VK
 bk:St->Hp->Prop:=λ_ _=>False
 ct:St->Hp->Prop:=λ_ _=>False
abbrev TS:=Ends->St->Hp->Prop
def EP (X:Cx) (pins:List (Addr × Obj)) (σ:St) (Q:VK) (u:Value) (s':Shared):Prop:=∃ v H',Inv X pins σ H' s'/\RelV v u/\Q v H'
def TP (X:Cx) (pins:List (Addr × Obj)) (σ:St) (Q:Bool->Hp->Prop) (b:Bool) (s':Shared):Prop:=∃ H',Inv X pins σ H' s'/\Q b H'
def AP (X:Cx) (pins:List (Addr × Obj)) (σ:St) (Q:List V->Hp->Prop) (us:List Value) (s':Shared):Prop:=∃ vs H',Inv X pins σ H' s'/\Vals vs us/\Q vs H'
def SP (X:Cx) (pins:List (Addr × Obj)) (D:Ends) (f:Flow) (s':Shared):Prop :=
 match f with
 | .next=>∃ σ' H',Inv X pins σ' H' s'/\D.nx σ' H'
 | .brk=>∃ σ' H',Inv X pins σ' H' s'/\D.bk σ' H'
 | .cont=>∃ σ' H',Inv X pins σ' H' s'/\D.ct σ' H'
 | .ret u=>∃ v σ' H',Inv X pins σ' H' s'/\RelV v u/\D.rt v H'
def PE (X:Cx) (e:Expr) (t:TE):Prop :=
 ∀(pins:List (Addr × Obj)) (s:Shared) (σ:St) (H:Hp) (Q:VK),Inv X pins σ H s->t σ H Q->wpAny (model X.prog X.w) X.A (eval e X.env) (EP X pins σ Q) X.xe s
def PT (X:Cx) (e:Expr) (t:TT):Prop :=
 ∀(pins:List (Addr × Obj)) (s:Shared) (σ:St) (H:Hp) (Q:Bool->Hp->Prop),Inv X pins σ H s->t σ H Q->wpAny (model X.prog X.w) X.A (isTrue e X.env (eval e X.env)) (TP X pins σ Q) X.xe s
def PW (X:Cx) (e:Expr) (t:TT):Prop :=
 ∀(whole:Sem Value) (pins:List (Addr × Obj)) (s:Shared) (σ:St) (H:Hp) (Q:Bool->Hp->Prop),Inv X pins σ H s->t σ H Q->wpAny (model X.prog X.w) X.A (isTrue e X.env whole) (TP X pins σ Q) X.xe s
theorem PW.pt {X:Cx} {e:Expr} {t:TT} (h:PW X e t):PT X e t:=h _
def PA (X:Cx) (es:List Expr) (t:TA):Prop :=
 ∀(pos:Pos) (pins:List (Addr × Obj)) (s:Shared) (σ:St) (H:Hp) (Q:List V->Hp->Prop),Inv X pins σ H s->t σ H Q->wpAny (model X.prog X.w) X.A (spliced (backTo pos (starEach es X.env))) (AP X pins σ Q) X.xe s
def PS (X:Cx) (st:Stmt) (t:TS):Prop :=
 ∀(pins:List (Addr × Obj)) (s:Shared) (σ:St) (H:Hp) (D:Ends),Inv X pins σ H s->t D σ H->wpAny (model X.prog X.w) X.A (exec st X.env) (SP X pins D) X.xe s
def eA (X:Cx) (st:List Stmt) (t:TS):Prop :=
 ∀(pins:List (Addr × Obj)) (s:Shared) (σ:St) (H:Hp) (D:Ends),Inv X pins σ H s->t D σ H->wpAny (model X.prog X.w) X.A (execs st X.env) (SP X pins D) X.xe s
theorem a8 {α:Type} {t:Sem α} {Q Q':α->Shared->Prop} {M:Model} {A:Around} {E:Value->Shared->Prop} {s:Shared} (h:wpAny M A t Q E s) (hQ:∀ a s,Q a s->Q' a s):wpAny M A t Q' E s:=wpAny_mono h hQ λ_ _ x=>x
section
variable {X:Cx}
def mD (i:Nat):TE:=λσ H Q=>∃ v,σ[i]?=some (some v)/\Q v H
def tC (v:V):TE:=λ_ H Q=>Q v H
theorem jB {i:Nat} {x:Str} {pos:Pos} (hN:X.N[i]?=some x) (hv:pk X.env.scope x) (hd:(x==("__debug__":Str))=false:=by decide) (hcd:(x==("__classdict__":Str))=false:=by decide):PE X (.Name x pos) (mD i):=by
 intro pins s σ H Q I h
 obtain⟨v,e,h⟩:=h
 obtain⟨m,hn,hl⟩:=I.loc
 obtain⟨u,r,l⟩:=hl i x v hN e hv
 have fin:EP X pins σ Q u s:=⟨v,H,I,r,h⟩
 rcases l with⟨hk,hm⟩|⟨hk,c,hc,hcell⟩
 ·exact wpAny_Name (wpAny_loadName_local I.ok.kind hk hn hm fin) hd
 ·rcases hk with hk | hk
  ·exact wpAny_Name (wpAny_loadName_cell I.ok.kind hk hc hcell fin) hd
  ·exact wpAny_Name (wpAny_loadName_free I.ok.kind hk hc hcell fin hcd) hd
theorem ae {i j pos}:PE X (.Constant (.int i) j pos) (tC (.int i)):=λ_ _ _ H _ I h=>wpAny_Constant_int ⟨.int i,H,I.tok _,⟨_,rfl⟩,h⟩
theorem aT {b j pos}:PE X (.Constant (.bool b) j pos) (tC (.bl b)):=λ_ _ _ H _ I h=>Constant_bool ⟨.bl b,H,I,rfl,h⟩
theorem jA {j pos}:PE X (.Constant .none j pos) (tC .non):=λ_ _ _ H _ I h=>Constant_none ⟨.non,H,I,rfl,h⟩
def Gl (X:Cx) (x:Str):Prop:=X.env.kindOf x=some .globalImplicit
theorem dc {E:Value->Shared->Prop} {pins:List (Addr × Obj)} {s:Shared} {σ:St} {H:Hp} {x:Str} {u:Value} {pos:Pos} {Q:Value->Shared->Prop} (I:Inv X pins σ H s) (hg:Gl X x) (hm:X.mg x=some u) (h:Q u s)
  (hd:(x==("__debug__":Str))=false:=by decide):wpAny (model X.prog X.w) X.A (eval (.Name x pos) X.env) Q E s :=
 Calls.Name_function_global I.ok.kind hg (Calls.loadGlobal_global (by rw [I.ok.glob];exact I.mod.glob.keeps I.bk) hm h) hd
theorem fc {E:Value->Shared->Prop} {pins:List (Addr × Obj)} {s:Shared} {σ:St} {H:Hp} {x:Str} {u:Value} {pos:Pos} {Q:Value->Shared->Prop} (I:Inv X pins σ H s) (hg:Gl X x) (hm:X.mg x=none) (hv:bootBuiltins x=some u) (h:Q u s)
  (hn:x ≠ "__name__":=by decide) (hd:(x==("__debug__":Str))=false:=by decide):wpAny (model X.prog X.w) X.A (eval (.Name x pos) X.env) Q E s:=by
 obtain⟨mb,h1,h2⟩:=I.mod.blt
 exact Calls.Name_function_global I.ok.kind hg (Calls.loadGlobal_builtin (by rw [I.ok.glob];exact I.mod.glob.keeps I.bk) hm (by rw [I.ok.blt];exact h1.keeps I.bk) ((h2 x hn).trans hv) h) hd
theorem bO {x:Str} {v:V} {u:Value} {pos:Pos} (hg:Gl X x) (hm:X.mg x=some u) (r:RelV v u) (hd:(x==("__debug__":Str))=false:=by decide):PE X (.Name x pos) (tC v) :=
 λ_ _ _ H _ I h=>dc I hg hm ⟨v,H,I,r,h⟩ hd
theorem cH {x:Str} {v:V} {u:Value} {pos:Pos} (hg:Gl X x) (hm:X.mg x=none) (hv:bootBuiltins x=some u) (r:RelV v u) (hn:x ≠ "__name__":=by decide) (hd:(x==("__debug__":Str))=false:=by decide):PE X (.Name x pos) (tC v) :=
 λ_ _ _ H _ I h=>fc I hg hm hv ⟨v,H,I,r,h⟩ hn hd
variable {a b:Expr} {ta tb:TE} {pos:Pos}
def tB (t:TE):TT:=λσ H Q=>t σ H λx H1=>∃ c,x=.bl c/\Q c H1
variable {tA tB':TT} {rest:List Expr}
def sL (t u:TT):TT:=λσ H Q=>t σ H λc H1=>if c=true then u σ H1 Q else Q false H1
def tE (t u:TT):TT:=λσ H Q=>t σ H λc H1=>if c=true then Q true H1 else u σ H1 Q
def rJ (t:TT):TT:=λσ H Q=>t σ H λc H1=>Q (!c) H1
theorem ef (ha:PT X a tA):PW X (.BoolOp .Or [a] pos) tA:=by
 intro wh pins s σ H Q I h
 refine isTrue_or (a8 (ha pins s σ H Q I h) λc s1 e=>?_)
 cases c with
 | false=>exact isTrue_or_nil e
 | true=>exact e
theorem cK (ha:PT X a tA) (hb:PW X (.BoolOp .Or (b::rest) pos) tB'):PW X (.BoolOp .Or (a::b::rest) pos) (tE tA tB'):=by
 intro wh pins s σ H Q I h
 refine isTrue_or (a8 (ha pins s σ H _ I h) λc s1 ⟨H1,I1,q1⟩=>?_)
 cases c with
 | true=>exact⟨H1,I1,q1⟩
 | false=>exact hb wh pins s1 σ H1 Q I1 q1
theorem bE (ha:PT X a tA):PT X (.UnaryOp .Not a pos) (rJ tA):=by
 intro pins s σ H Q I h
 exact isTrue_not (ha pins s σ H (λc H1=>Q (!c) H1) I h)
def oS (ta tb:TE):TE:=λσ H Q=>ta σ H λx H1=>∃ c,x=.bl c/\if c=true then tb σ H1 Q else Q (.bl false) H1
def rL (ta tb:TE):TE:=λσ H Q=>ta σ H λx H1=>∃ c,x=.bl c/\if c=true then Q (.bl true) H1 else tb σ H1 Q
def oY (ta:TE):TE:=λσ H Q=>ta σ H λx H1=>∃ c,x=.bl c/\Q (.bl (!c)) H1
theorem hJ {op} {t:TE} (h:PE X a t):PE X (.BoolOp op [a] pos) t:=λpins s σ H Q I hw=>BoolOp_one (h pins s σ H Q I hw)
theorem hG (ha:PE X a ta) (hb:PE X (.BoolOp .And (b::rest) pos) tb):PE X (.BoolOp .And (a::b::rest) pos) (oS ta tb):=by
 intro pins s σ H Q I h
 refine BoolOp_and (a8 (ha pins s σ H _ I h) λv s1 ⟨x,H1,I1,r1,q1⟩=>?_)
 obtain⟨c,rfl,q1⟩:=q1
 cases r1
 refine wpAny_truthy_bool ?_
 cases c with
 | true=>exact hb pins s1 σ H1 Q I1 q1
 | false=>exact⟨.bl false,H1,I1,rfl,q1⟩
theorem ma (ha:PE X a ta) (hb:PE X (.BoolOp .Or (b::rest) pos) tb):PE X (.BoolOp .Or (a::b::rest) pos) (rL ta tb):=by
 intro pins s σ H Q I h
 refine BoolOp_or (a8 (ha pins s σ H _ I h) λv s1 ⟨x,H1,I1,r1,q1⟩=>?_)
 obtain⟨c,rfl,q1⟩:=q1
 cases r1
 refine wpAny_truthy_bool ?_
 cases c with
 | false=>exact hb pins s1 σ H1 Q I1 q1
 | true=>exact⟨.bl true,H1,I1,rfl,q1⟩
theorem l9 (ha:PE X a ta):PE X (.UnaryOp .Not a pos) (oY ta):=by
 intro pins s σ H Q I h
 refine UnaryOp_ (a8 (ha pins s σ H _ I h) λv s1 ⟨x,H1,I1,r1,q1⟩=>?_)
 obtain⟨c,rfl,q1⟩:=q1
 cases r1
 exact not_of (wpAny_truthy_bool ⟨.bl (!c),H1,I1,rfl,q1⟩)
def tw (t:TT) (ta tb:TE):TE:=λσ H Q=>t σ H λc H1=>if c=true then ta σ H1 Q else tb σ H1 Q
theorem fj {c:Expr} (hc:PT X c tA) (ha:PE X a ta) (hb:PE X b tb):PE X (.IfExp c a b pos) (tw tA ta tb):=by
 intro pins s σ H Q I h
 refine wpAny_IfExp (a8 (hc pins s σ H _ I h) λd s1 ⟨H1,I1,q1⟩=>?_)
 cases d with
 | true=>exact ha pins s1 σ H1 Q I1 q1
 | false=>exact hb pins s1 σ H1 Q I1 q1
end
def bh (K:PySem.W.Frag) (H:Hp) (a:Addr) (xs:List V):Prop :=
 Rd H a (.lst xs) ∨
  ∃(o:Obj) (its:Array Value) (n:Nat),K.lookup a=some o/\o.cls=.type "list"/\o.dict=none/\o.data=.seq its n/\its.size<=sizeLine/\Vals xs its.toList
def cn (K:PySem.W.Frag) (H:Hp) (a:Addr) (xs:List V):Prop :=
 Rd H a (.tup xs) ∨
  ∃(o:Obj) (its:Array Value) (n:Nat),K.lookup a=some o/\o.cls=.type "tuple"/\o.data=.seq its n/\its.size<=sizeLine/\Vals xs its.toList
def sm:Value->Option V
 | .none=>some .non
 | .bool b=>some (.bl b)
 | .int i _=>some (.int i)
 | .str x _=>some (.str x)
 | .bytes b _=>some (.byt b)
 | .float b _=>some (.flt b)
 | .ref a=>some (.ref a)
 | .type n=>some (.ty n)
 | _=>none
theorem RelV.abs {x:V} {u:Value} (r:RelV x u):sm u=some x:=by
 cases x with
 | non=>cases r;rfl
 | bl _=>cases r;rfl
 | int _=>obtain⟨t,rfl⟩:=r;rfl
 | str _=>obtain⟨t,rfl⟩:=r;rfl
 | byt _=>obtain⟨t,rfl⟩:=r;rfl
 | flt _=>obtain⟨t,rfl⟩:=r;rfl
 | ref _=>cases r;rfl
 | ty _=>cases r;rfl
theorem RelV.inj {x y:V} {u:Value} (r:RelV x u) (q:RelV y u):x=y:=Option.some.inj (r.abs.symm.trans q.abs)
theorem Vals.inj:∀{xs ys:List V} {us:List Value},Vals xs us->Vals ys us->xs=ys
 | _,_,_,.nil,.nil=>rfl
 | _,_,_,.cons r t,.cons r' t'=>by rw [r.inj r',Vals.inj t t']
section
variable {X:Cx} {pins:List (Addr × Obj)} {σ:St} {H:Hp} {s:Shared} {a:Addr} {xs ys:List V}
theorem bh.of {K:PySem.W.Frag} (h:H a=some (.lst xs)):bh K H a xs:=.inl (.inl h)
theorem cn.of {K:PySem.W.Frag} (h:H a=some (.tup xs)):cn K H a xs:=.inl (.inl h)
theorem Inv.list (I:Inv X pins σ H s) (h:bh X.K H a xs):∃ its:List Value,Vals xs its/\PlainL s.heap a its.toArray/\xs.length<=sizeLine:=by
 rcases h with h | ⟨o,its,n,hk,hc,hd,hs,hz,r⟩
 ·obtain⟨z,its,n,r,e⟩:=h.ok I.hok
  exact⟨its,r,⟨_,n,e,rfl,rfl,rfl⟩,z⟩
 ·refine⟨its.toList,r,⟨o,n,I.cU a o hk,hc,hd,by simpa using hs⟩,?_⟩
  have e:=r.length
  simp only [Array.length_toList] at e
  omega
theorem Inv.tuple (I:Inv X pins σ H s) (h:cn X.K H a xs):∃ its:List Value,Vals xs its/\IsTup s.heap a its.toArray/\xs.length<=sizeLine:=by
 rcases h with h | ⟨o,its,n,hk,hc,hs,hz,r⟩
 ·obtain⟨z,its,r,p⟩:=h.ok I.hok
  exact⟨its,r,p,z⟩
 ·refine⟨its.toList,r,⟨o,I.cU a o hk,hc,n,by simpa using hs⟩,?_⟩
  have e:=r.length
  simp only [Array.length_toList] at e
  omega
theorem Inv.lQ (I:Inv X pins σ H s) (h:bh X.K H a xs) (h':bh X.K H a ys):xs=ys:=by
 obtain⟨its,r,⟨o,n,e,_,_,d⟩,_⟩:=I.list h
 obtain⟨its',r',⟨o',n',e',_,_,d'⟩,_⟩:=I.list h'
 rw [e] at e';cases e'
 rw [d] at d'
 injection d' with d1 _
 have:its=its':=by simpa using congrArg Array.toList d1
 subst this
 exact r.inj r'
theorem Inv.kQ (I:Inv X pins σ H s) (h:cn X.K H a xs) (h':cn X.K H a ys):xs=ys:=by
 obtain⟨its,r,⟨o,e,_,n,d⟩,_⟩:=I.tuple h
 obtain⟨its',r',⟨o',e',_,n',d'⟩,_⟩:=I.tuple h'
 rw [e] at e';cases e'
 rw [d] at d'
 injection d' with d1 _
 have:its=its':=by simpa using congrArg Array.toList d1
 subst this
 exact r.inj r'
end
abbrev Cx.ei (X:Cx) (E:Value->Shared->Prop):Cx:={ X with xe:=E }
abbrev Cx.gW (X:Cx):Cx:=X.ei λ_ _=>False
theorem Cx.Ok.ei {X:Cx} (ok:X.Ok) (E:Value->Shared->Prop):(X.ei E).Ok :=
 ⟨ok.mod,ok.kind,ok.glob,ok.blt,ok.above,ok.inj,ok.has,ok.cab,ok.hd,ok.frames,ok.stk,ok.exf,ok.bs,ok.bsz,ok.noex,ok.exfs,ok.d4,ok.frf⟩
theorem Cx.Ok.bW {X:Cx} {E:Value->Shared->Prop} (ok:(X.ei E).Ok):X.Ok :=
 ⟨ok.mod,ok.kind,ok.glob,ok.blt,ok.above,ok.inj,ok.has,ok.cab,ok.hd,ok.frames,ok.stk,ok.exf,ok.bs,ok.bsz,ok.noex,ok.exfs,ok.d4,ok.frf⟩
section
variable {X:Cx} {pins:List (Addr × Obj)} {σ:St} {H:Hp} {s:Shared} {E:Value->Shared->Prop}
theorem Inv.ei (I:Inv X pins σ H s) (E:Value->Shared->Prop):Inv (X.ei E) pins σ H s:=⟨I.ok.ei E,I.os,I.bare,I.base,I.loc,I.cell,I.free,I.freeC,I.pin,I.hok,I.len⟩
theorem Inv.bW (I:Inv (X.ei E) pins σ H s):Inv X pins σ H s:=⟨I.ok.bW,I.os,I.bare,I.base,I.loc,I.cell,I.free,I.freeC,I.pin,I.hok,I.len⟩
theorem SP.bW {D:Ends} {f:Flow} {s':Shared} (h:SP (X.ei E) pins D f s'):SP X pins D f s':=by
 cases f with
 | next=>obtain⟨σ',H',I,q⟩:=h;exact⟨σ',H',I.bW,q⟩
 | brk=>obtain⟨σ',H',I,q⟩:=h;exact⟨σ',H',I.bW,q⟩
 | cont=>obtain⟨σ',H',I,q⟩:=h;exact⟨σ',H',I.bW,q⟩
 | ret u=>obtain⟨v,σ',H',I,r,q⟩:=h;exact⟨v,σ',H',I.bW,r,q⟩
theorem PE.gW {e:Expr} {t:TE} (h:PE X.gW e t):PE X e t:=λpins s σ H Q I hw =>
 wpAny_mono (h pins s σ H Q (I.ei _) hw) (λ_ _ ⟨v,H',I',r,q⟩=>⟨v,H',I'.bW,r,q⟩) λ_ _ z=>False.elim z
theorem PT.gW {e:Expr} {t:TT} (h:PT X.gW e t):PT X e t:=λpins s σ H Q I hw =>
 wpAny_mono (h pins s σ H Q (I.ei _) hw) (λ_ _ ⟨H',I',q⟩=>⟨H',I'.bW,q⟩) λ_ _ z=>False.elim z
theorem eA.gW {st:List Stmt} {t:TS} (h:eA X.gW st t):eA X st t:=λpins s σ H D I hw =>
 wpAny_mono (h pins s σ H D (I.ei _) hw) (λ_ _ q=>q.bW) λ_ _ z=>False.elim z
end
section
variable {X:Cx} {st:Stmt} {rest:List Stmt} {t u:TS} {e:Expr} {te:TE} {pos:Pos}
def oW:TS:=λD σ H=>D.nx σ H
def cm (t u:TS):TS:=λD σ H=>t { D with nx:=u D } σ H
theorem aC:eA X [] oW:=λ_ _ σ H _ I h=>wpAny_execs_nil ⟨σ,H,I,h⟩
theorem af (h1:PS X st t) (h2:eA X rest u):eA X (st::rest) (cm t u):=by
 intro pins s σ H D I h
 refine wpAny_execs_cons (a8 (h1 pins s σ H { D with nx:=u D } I h) λf s1 q=>?_)
 cases f with
 | next =>
  obtain⟨σ',H',I',q⟩:=q
  exact h2 pins s1 σ' H' D I' q
 | ret v=>exact q
 | brk=>exact q
 | cont=>exact q
theorem aj (h1:PS X st t):eA X [st] t:=by
 intro pins s σ H D I h
 refine wpAny_execs_cons (a8 (h1 pins s σ H D I h) λf s1 q=>?_)
 cases f with
 | next=>exact wpAny_execs_nil q
 | ret v=>exact q
 | brk=>exact q
 | cont=>exact q
theorem Inv.quiet {pins:List (Addr × Obj)} {σ:St} {H:Hp} {s:Shared} (I:Inv X pins σ H s):interactive X.env=false:=by simp [interactive,I.ok.kind]
def oV (te:TE):TS:=λD σ H=>te σ H λ_ H1=>D.nx σ H1
theorem ib (he:PE X e te) (hs:swapsWith e none pos.line X.env=pure false:=by rfl):PS X (.Expr e pos) (oV te):=by
 intro pins s σ H D I h
 exact wpAny_Expr_any (a8 (he pins s σ H _ I h) λv s1 ⟨x,H1,I1,r1,q1⟩=>⟨σ,H1,I1,q1⟩) I.quiet hs
def kP (te:TE):TS:=λD σ H=>te σ H D.rt
theorem aA (he:PE X e te):PS X (.Return (some e) pos) (kP te):=by
 intro pins s σ H D I h
 exact wpAny_Return_some (a8 (he pins s σ H _ I h) λv s1 ⟨x,H1,I1,r1,q1⟩=>⟨x,σ,H1,I1,r1,q1⟩)
def rN:TS:=λD _ H=>D.rt .non H
def rF (c:TT) (t u:TS):TS:=λD σ H=>c σ H λb H1=>if b=true then t D σ H1 else u D σ H1
theorem aR {c:Expr} {a b:List Stmt} {tc:TT} (hc:PT X c tc) (ha:eA X a t) (hb:eA X b u):PS X (.If c a b pos) (rF tc t u):=by
 intro pins s σ H D I h
 refine wpAny_If (a8 (hc pins s σ H _ I h) λd s1 ⟨H1,I1,q1⟩=>?_)
 cases d with
 | true=>exact ha pins s1 σ H1 D I1 q1
 | false=>exact hb pins s1 σ H1 D I1 q1
end
abbrev TG:=V->St->Hp->(St->Hp->Prop)->Prop
abbrev oq:=List V->St->Hp->(St->Hp->Prop)->Prop
def PG (X:Cx) (target:Expr) (t:TG):Prop :=
 ∀(pins:List (Addr × Obj)) (s:Shared) (σ:St) (H:Hp) (v:V) (u:Value) (Q:St->Hp->Prop),Inv X pins σ H s->RelV v u->t v σ H Q ->
  wpAny (model X.prog X.w) X.A (assign target X.env u) (λ_ s'=>∃ σ' H',Inv X pins σ' H' s'/\Q σ' H') X.xe s
def qF (X:Cx) (ts:List Expr) (t:oq):Prop :=
 ∀(pins:List (Addr × Obj)) (s:Shared) (σ:St) (H:Hp) (vs:List V) (us:List Value) (Q:St->Hp->Prop),Inv X pins σ H s->Vals vs us->t vs σ H Q ->
  wpAny (model X.prog X.w) X.A (assignInOrder ((assignEach ts X.env).map (·.2)) us) (λ_ s'=>∃ σ' H',Inv X pins σ' H' s'/\Q σ' H') X.xe s
abbrev si:=V->V->V->Hp->(Hp->Prop)->Prop
abbrev sh:=V->V->Hp->VK->Prop
def sW (X:Cx) (op:Operator) (t:sh):Prop :=
 ∀(pins:List (Addr × Obj)) (s:Shared) (σ:St) (H:Hp) (x y:V) (v u:Value) (Q:VK),Inv X pins σ H s->RelV x v->RelV y u->t x y H Q ->
  wpAny (model X.prog X.w) X.A (inplaceOp op v u) (EP X pins σ Q) X.xe s
section
variable {X:Cx} {pos:Pos}
def eC (i:Nat):TG:=λv σ H Q=>Q (σ.set i (some v)) H
theorem aZ {i:Nat} {x:Str} (hN:X.N.Nodup) (hi:X.N[i]?=some x) (hx:Loc X.env.scope x) (hf:X.fn x=true∨X.env.scope.names.lookup x=some .local:=by first | exact .inl rfl | exact .inr rfl | assumption):PG X (.Name x pos) (eC i):=by
 intro pins s σ H v u Q I r h
 exact wpAny_assign_Name (bo I hN hi hx r (λs' I'=>⟨_,H,I',h⟩) hf)
def qO:oq:=λvs σ H Q=>vs=[]/\Q σ H
def oF (t:TG) (u:oq):oq:=λvs σ H Q=>∃ v r,vs=v::r/\t v σ H λσ' H'=>u r σ' H' Q
theorem j1:qF X [] qO:=by
 intro pins s σ H vs us Q I r h
 obtain⟨e,h⟩:=h
 subst e
 cases r
 exact assignInOrder_nil ⟨σ,H,I,h⟩
theorem cY {e:Expr} {es:List Expr} {t:TG} {u:oq} (h1:PG X e t) (h2:qF X es u)
  (hs:(assignEach (e::es) X.env).map (·.2)=assign e X.env::(assignEach es X.env).map (·.2):=by rfl):qF X (e::es) (oF t u):=by
 intro pins s σ H vs us Q I r h
 obtain⟨v,vr,e1,h⟩:=h
 subst e1
 cases r with
 | cons r rr =>
  rw [hs]
  refine assignInOrder_cons (a8 (h1 pins s σ H _ _ _ I r h) λ_ s1 ⟨σ1,H1,I1,q1⟩=>?_)
  exact h2 pins s1 σ1 H1 _ _ Q I1 rr q1
def pN (K:PySem.W.Frag) (n:Nat) (t:oq):TG:=λv σ H Q=>∃ a xs,v=.ref a/\cn K H a xs/\xs.length=n/\t xs σ H Q
theorem mf {es:List Expr} {k:Nat} {t:oq} {n:Nat} (hc:X.calm=true) (h:qF X es t)
  (hn:(assignEach es X.env).length=n:=by rfl) (hst:(assignEach es X.env).findIdx? (·.1)=none:=by rfl):PG X (.Tuple es k pos) (pN X.K n t):=by
 intro pins s σ H v u Q I r hw
 obtain⟨a,xs,e1,hq,hl,hw⟩:=hw
 subst e1
 cases r
 obtain⟨its,rv,ht,hz⟩:=I.tuple hq
 refine assign_Tuple_tuple (I.ok.hd hc) ht (by simp [hn,<- hl,rv.length]) hst λh' hx=>?_
 have I1:Inv X pins σ H { s with heap:=h' }:=I.kept (t':=s.toks) λb o e=>hx b o (Nat.ne_of_lt (Heap.lt_size e)) e
 exact h pins _ σ H xs _ Q I1 (by simpa using rv) hw
def sr (to ti:TE) (t:si):TG:=λv σ H Q=>to σ H λo H1=>ti σ H1 λi H2=>t o i v H2 λH3=>Q σ H3
def n8 (te:TE) (g:TG):TS:=λD σ H=>te σ H λx H1=>g x σ H1 D.nx
theorem qc {tg e:Expr} {te:TE} {g:TG} (he:PE X e te) (hg:PG X tg g) (hs:swapsWithSole [tg] e pos.line X.env=pure false:=by rfl) (hw:swappedStores [tg] e X.env=pure none:=by rfl)
  (h1:(assignEach [tg] X.env).map (·.2)=[assign tg X.env]:=by rfl):PS X (.Assign [tg] e pos) (n8 te g):=by
 intro pins s σ H D I h
 refine wpAny_Assign_stores (a8 (he pins s σ H _ I h) λv s1 ⟨x,H1,I1,r1,q1⟩=>?_) hs hw
 rw [h1]
 exact a8 (hg pins s1 σ H1 x v _ I1 r1 q1) λ_ s2 q=>q
theorem qe {i:Nat} {x:Str} {e:Expr} {te:TE} {pos':Pos} (hN:X.N.Nodup) (hi:X.N[i]?=some x) (hx:Loc X.env.scope x) (he:PE X e te) (hs:swapsWith e (some (.Name x pos')) pos.line X.env=pure false:=by rfl) (hf:X.fn x=true∨X.env.scope.names.lookup x=some .local:=by first | exact .inl rfl | exact .inr rfl | assumption) :
  PS X (.Assign [.Name x pos'] e pos) (n8 te (eC i)):=by
 intro pins s σ H D I h
 refine wpAny_Assign_Name (a8 (he pins s σ H _ I h) λv s1 ⟨y,H1,I1,r1,q1⟩=>?_) hs
 exact bo I1 hN hi hx r1 (λs2 I2=>⟨_,H1,I2,q1⟩) hf
def rM (i j:Nat) (ta:TA):TS:=λD σ H=>ta σ H λvs H1=>∃ v w,vs=[v,w]/\D.nx ((σ.set i (some v)).set j (some w)) H1
theorem jC {i j:Nat} {x y:Str} {a b:Expr} {ta:TA} {px py pt:Pos} {kt k2 pt2} (hc:X.calm=true) (hN:X.N.Nodup) (hi:X.N[i]?=some x) (hj:X.N[j]?=some y) (hij:i≠j)
  (hx:X.env.scope.names.lookup x=some .local) (hy:X.env.scope.names.lookup y=some .local) (ha:PA X [a,b] ta)
  (hw:swappedStores [.Tuple [.Name x px,.Name y py] kt pt] (.Tuple [a,b] k2 pt2) X.env=pure (some [x,y]))
  (hs:swapsWithSole [.Tuple [.Name x px,.Name y py] kt pt] (.Tuple [a,b] k2 pt2) pos.line X.env=pure false:=by rfl) :
  PS X (.Assign [.Tuple [.Name x px,.Name y py] kt pt] (.Tuple [a,b] k2 pt2) pos) (rM i j ta):=by
 intro pins s σ H D I h
 rw [exec_Assign_arm]
 refine wpAny_bind (wpAny_standAt ?_)
 rw [hs]
 refine wpAny_bind (wpAny_pure ?_)
 rw [if_neg (by decide)]
 refine wpAny_bind (Tuple_ (a8 (ha _ pins s σ H _ I h) λus s1 ⟨vs,H1,I1,r1,q1⟩=>?_))
 obtain⟨v,w,e1,q1⟩:=q1
 subst e1
 obtain⟨u1,u2,rfl,rv,rw'⟩:∃ u1 u2,us=[u1,u2]/\RelV v u1/\RelV w u2:=by
  cases r1 with
  | cons p q =>
   cases q with
   | cons p' q' =>
    cases q'
    exact⟨_,_,rfl,p,p'⟩
 refine wpAny_newObj_type ?_ (by show 2<=sizeLine;decide)
 have I2:Inv X pins σ H1 { s1 with heap:=s1.heap.push { cls:=.type "tuple",data:=.seq [u1,u2].toArray } }:=I1.kept (t':=s1.toks) λb o e=>Heap.get?_push_of_some _ e
 rw [hw]
 refine wpAny_bind (wpAny_pure ?_)
 show wpAny (model X.prog X.w) X.A (do rule "assign.swapped-stores";let items <- unpackItems (.ref s1.heap.objs.size) 2 none;assignInOrder [λv=>bindName X.env y v,λv=>bindName X.env x v] items.reverse;pure Flow.next) _ _ _
 refine wpAny_bind (wpAny_rule (wpAny_bind (unpackItems_tuple (items:=#[u1,u2]) (I.ok.hd hc) (IsTup.new s1.heap _) λh' hx'=>?_)))
 have I3:=I2.kept (h':=h') (t':=s1.toks) λb o e=>hx' b o (Nat.ne_of_lt (Heap.lt_size e)) e
 show wpAny _ _ (assignInOrder [λv=>bindName X.env y v,λv=>bindName X.env x v] [u2,u1] >>= λ_=>pure Flow.next) _ _ _
 refine wpAny_bind (assignInOrder_cons (wpAny_bindName (bo I3 hN hj (.inl hy) rw' (λs2 I4=>?_) (.inr hy))))
 refine assignInOrder_cons (wpAny_bindName (bo I4 hN hi (.inl hx) rv (λs3 I5=>assignInOrder_nil (wpAny_pure ?_)) (.inr hx)))
 rw [List.set_comm _ _ (Ne.symm hij)] at I5
 exact⟨_,H1,I5,q1⟩
def rB (i:Nat) (te:TE) (ti:sh):TS:=λD σ H=>∃ x,σ[i]?=some (some x)/\te σ H λy H1=>ti x y H1 λz H2=>D.nx (σ.set i (some z)) H2
theorem ft {i:Nat} {x:Str} {e:Expr} {te:TE} {op:Operator} {ti:sh} {pos':Pos} (hN:X.N.Nodup) (hi:X.N[i]?=some x) (hx:Loc X.env.scope x) (he:PE X e te) (ho:sW X op ti) (hf:X.fn x=true∨X.env.scope.names.lookup x=some .local:=by first | exact .inl rfl | exact .inr rfl | assumption) :
  PS X (.AugAssign (.Name x pos') op e pos) (rB i te ti):=by
 intro pins s σ H D I h
 obtain⟨v,e1,h⟩:=h
 obtain⟨m,hn,hl⟩:=I.loc
 have vis:pk X.env.scope x:=by rcases hx with k | k;exact .inl k;exact .inr (.inl k)
 obtain⟨u,r,l⟩:=hl i x v hi e1 vis
 refine wpAny_AugAssign_Name ?_
 have go:wpAny (model X.prog X.w) X.A (eval e X.env) (λw s₂=>wpAny (model X.prog X.w) X.A (inplaceOp op u w) (λr s₃=>wpAny (model X.prog X.w) X.A (storeName X.env x r) (λ_=>SP X pins D .next) X.xe s₃) X.xe s₂) X.xe s:=by
  refine a8 (he pins s σ H _ I h) λw s1 ⟨y,H1,I1,r1,q1⟩=>?_
  refine a8 (ho pins s1 σ H1 v y u w _ I1 r r1 q1) λz s2 ⟨zv,H2,I2,r2,q2⟩=>?_
  exact bo I2 hN hi hx r2 (λs3 I3=>⟨_,H2,I3,q2⟩) hf
 rcases l with⟨hk,hm⟩|⟨hk,c,hc,hcell⟩
 ·exact wpAny_loadName_local I.ok.kind hk hn hm go
 ·rcases hk with hk | hk
  ·exact wpAny_loadName_cell I.ok.kind hk hc hcell go
  ·rcases hx with k | k
   ·have:X.env.scope.names.lookup x=some .free:=hk
    rw [k] at this;cases this
   ·have:X.env.scope.names.lookup x=some .free:=hk
    rw [k] at this;cases this
end
section
variable {X:Cx} {pos:Pos}
def mE (c:TT) (tb:TS):TS:=λD σ H=>∃ W:Nat->St->Hp->Prop,(∃ m,W m σ H)/\∀ m σ H,W m σ H ->
 c σ H λb H1=>if b=true then ∃ N:St->Hp->Prop,(∀ σ' H',N σ' H'->∃ m',m'<m/\W m' σ' H')/\tb { D with nx:=N,ct:=N,bk:=D.nx } σ H1 else D.nx σ H1
theorem bD {c:Expr} {body:List Stmt} {tc:TT} {tb:TS} (hp:PassesOwn (model X.prog X.w) X.A X.env X.xe) (hc:PT X c tc) (hb:eA X body tb):PS X (.While c body [] pos) (mE tc tb):=by
 intro pins s σ H D I h
 obtain⟨W,⟨m0,w0⟩,turn⟩:=h
 refine wpAny_While (codeAny_whileLoop (λn s'=>∃ σ' H',Inv X pins σ' H' s'/\W n σ' H') ?_ m0 ⟨σ,H,I,w0⟩)
 rintro n s1 ⟨σ1,H1,I1,w1⟩
 refine wpAny_passesOwn hp (a8 (hc pins s1 σ1 H1 _ I1 (turn n σ1 H1 w1)) λb s2 ⟨H2,I2,q2⟩=>?_)
 cases b with
 | true =>
  obtain⟨N,hN,q2⟩:=q2
  rw [if_pos rfl]
  refine wpAny_passesOwn hp (a8 (hb pins s2 σ1 H2 _ I2 q2) λf s3 q3=>?_)
  cases f with
  | next =>
   obtain⟨σ3,H3,I3,n3⟩:=q3
   obtain⟨m',hm,w3⟩:=hN σ3 H3 n3
   exact⟨m',hm,σ3,H3,I3,w3⟩
  | cont =>
   obtain⟨σ3,H3,I3,n3⟩:=q3
   obtain⟨m',hm,w3⟩:=hN σ3 H3 n3
   exact⟨m',hm,σ3,H3,I3,w3⟩
  | brk=>exact q3
  | ret v=>exact q3
 | false =>
  rw [if_neg Bool.false_ne_true]
  exact wpAny_execs_nil ⟨σ1,H2,I2,q2⟩
end
structure It where
 go:Nat->Hp->Prop
 yld:Nat->Hp->V->Hp->Prop
 stop:Nat->Hp->Prop
def i7 (X:Cx) (pins:List (Addr × Obj)) (H:Hp) (b:Addr):Prop :=
 H b=none/\b≠X.env.locals/\b∉X.fs/\(b∈X.ex∨X.s₀.heap.objs.size<=b)/\(∀ x c,X.env.cells.lookup x=some c->c≠b)/\∀ p∈X.pn++pins,p.1≠b
theorem Inv.pM {X:Cx} {pins:List (Addr × Obj)} {σ:St} {H H':Hp} {s:Shared} {b:Addr} (I:Inv X pins σ H s) (hb:s.heap.objs.size<=b) (hn:H' b=none):i7 X pins H' b:=by
 refine⟨hn,Nat.ne_of_gt (Nat.lt_of_lt_of_le I.lt hb),I.pX hb,.inr (Nat.le_trans I.sz hb),λx c e z=>?_,λp hp z=>?_⟩
 ·obtain⟨v,q⟩:=I.cell x c e
  exact absurd (Nat.lt_of_lt_of_le q.lt (by rw [z];exact hb)) (Nat.lt_irrefl _)
 ·exact absurd (Nat.lt_of_lt_of_le (Heap.lt_size (I.pin p hp).1) (by rw [z];exact hb)) (Nat.lt_irrefl _)
structure Turn (P:Program) (w:World) (K:PySem.W.Frag) (tg:Expr) (J:It) (fp:List Addr) (it:Addr) (tn:Nat->Heap->Prop):Prop where
 mem:it∈fp
 obj:∀ i h,tn i h->∀ b∈fp,∃ o,h.get? b=some o/\∀ v,o.data≠.cell v
 keep:∀ i h h',tn i h->(∀ b∈fp,∀ o,h.get? b=some o->h'.get? b=some o)->tn i h'
 item:∀(X:Cx),X.prog=P->X.w=w->X.K=K->X.calm=true->∀(i:Nat) (pins:List (Addr × Obj)) (s:Shared) (σ:St) (H:Hp) (E:Value->Shared->Prop),Inv X pins σ H s->(∀ b∈fp,i7 X pins H b)->tn i s.heap->J.go i H ->
  wpAny (model P w) X.A (pyNext (.ref it)) (λr s1=>∃ u,r=some u /\
   wpAny (model P w) X.A (letOwnedTupleGo tg (.ref it) u) (λ_ s2=>∃ x H',Inv X pins σ H' s2/\RelV x u/\J.yld i H x H'/\tn (i+1) s2.heap/\∀ b∈fp,H' b=none) E s1) E s
 done:∀(X:Cx),X.prog=P->X.w=w->X.K=K->X.calm=true->∀(i:Nat) (pins:List (Addr × Obj)) (s:Shared) (σ:St) (H:Hp) (E:Value->Shared->Prop),Inv X pins σ H s->(∀ b∈fp,i7 X pins H b)->tn i s.heap->J.stop i H ->
  wpAny (model P w) X.A (pyNext (.ref it)) (λr s1=>r=none/\Inv X pins σ H s1) E s
 self:∀(A:Around) (i:Nat) (s:Shared) (Q:Value->Shared->Prop) (E:Value->Shared->Prop),tn i s.heap->Q (.ref it) s->wpAny (model P w) A (pyIter (.ref it)) Q E s
abbrev TI:=St->Hp->(It->Hp->Prop)->Prop
def rV (X:Cx) (pins:List (Addr × Obj)) (σ:St) (tg:Expr) (R:It->Hp->Prop) (itv:Value) (s2:Shared):Prop :=
 ∃(it:Addr) (fp:List Addr) (tn:Nat->Heap->Prop) (J:It) (H':Hp),itv=.ref it/\Inv X pins σ H' s2/\Turn X.prog X.w X.K tg J fp it tn/\tn 0 s2.heap/\(∀ b∈fp,i7 X pins H' b)/\R J H'
def PI (X:Cx) (tg iter:Expr) (wi:TI):Prop :=
 ∀(pins:List (Addr × Obj)) (s:Shared) (σ:St) (H:Hp) (R:It->Hp->Prop),Inv X pins σ H s->wi σ H R ->
  wpAny (model X.prog X.w) X.A (eval iter X.env) (λv s1=>wpAny (model X.prog X.w) X.A (pyIter v) (rV X pins σ tg R) X.xe s1) X.xe s
theorem lz {M:Model} {A:Around} {E:Value->Shared->Prop} {s:Shared} {tg:Expr} {it:Addr} {u:Value} {o:Obj} {n:String} {vs:Array Value} {Q:Unit->Shared->Prop} (ho:s.heap.get? it=some o) (hc:o.cls=.type n) (hd:o.data=.fields vs)
    (hn:["enumerate","zip","dict_itemiterator","dict_reverseitemiterator","odict_iterator","itertools.zip_longest","itertools.pairwise"].contains n=false) (hQ:Q () s):wpAny M A (letOwnedTupleGo tg (.ref it) u) Q E s:=by
  unfold letOwnedTupleGo
  cases tg<;>first
    | exact wpAny_pure hQ
    | (cases u<;>first
        | exact wpAny_pure hQ
        | (refine wpAny_bind (wpAny_load ho ?_)
           rw [hc,hd]
           show wpAny M A (if (["enumerate","zip","dict_itemiterator","dict_reverseitemiterator","odict_iterator","itertools.zip_longest","itertools.pairwise"].contains n && vs[0]?==some (rawInt _))=true then _ else _) Q E s
           rw [if_neg (by intro h;rw [hn,Bool.false_and] at h;cases h)]
           exact wpAny_pure hQ))
def o9 (K:PySem.W.Frag) (a:Addr):It :=
 ⟨λi H=>∃ xs x,bh K H a xs/\xs[i]?=some x,λi H x H'=>H'=H/\∀ xs,bh K H a xs->xs[i]?=some x,λi H=>∃ xs,bh K H a xs/\xs.length<=i⟩
def pb (K:PySem.W.Frag) (a:Addr):It :=
 ⟨λi H=>∃ xs x,cn K H a xs/\xs[i]?=some x,λi H x H'=>H'=H/\∀ xs,cn K H a xs->xs[i]?=some x,λi H=>∃ xs,cn K H a xs/\xs.length<=i⟩
def mM (lo:Int) (n:Nat):It:=⟨λi _=>i<n,λi H x H'=>H'=H/\x=.int (lo+i),λi _=>n<=i⟩
theorem kR {P:Program} {w:World} {K:PySem.W.Frag} {tg:Expr} (a it:Addr):Turn P w K tg (o9 K a) [it] it (λi h=>h.IsListIter it a i) where
 mem:=by simp
 obj:=λi h st b hb=>by
  have e:b=it:=by simpa using hb
  subst e
  obtain⟨o,e,c,d⟩:=st
  exact⟨o,e,λv z=>by rw [d] at z;cases z⟩
 keep:=λi h h' st k=>st.at λo e=>k it (by simp) o e
 item:=by
  intro X hP hw hK hc i pins s σ H E I hf st hg
  subst hP hw hK
  obtain⟨xs,x,hq,hx⟩:=hg
  obtain⟨its,rv,p,hz⟩:=I.list hq
  obtain⟨u,hu,ru⟩:=rv.get hx
  obtain⟨f0,f1,f2,f3,f4,f5⟩:=hf it (by simp)
  refine wpAny_pyNext_list_item st p.isList (x:=u) (by simpa using hu) λh' st' sb=>?_
  have I1:Inv X pins σ H { s with heap:=h' }:=I.turned (t':=s.toks) (λb o hb e=>(sb.2 b hb).trans e) f0 f1 f3 f4 f5
  obtain⟨o,e,c,d⟩:=id st'
  exact⟨u,rfl,lz (s:={ s with heap:=h' }) e c d (by decide) ⟨x,H,I1,ru,⟨rfl,λys hy=>by rw [I.lQ hy hq];exact hx⟩,st',λb hb=>(hf b hb).1⟩⟩
 done:=by
  intro X hP hw hK hc i pins s σ H E I hf st hg
  subst hP hw hK
  obtain⟨xs,hq,hx⟩:=hg
  obtain⟨its,rv,p,hz⟩:=I.list hq
  obtain⟨f0,f1,f2,f3,f4,f5⟩:=hf it (by simp)
  have hl:=rv.length
  exact wpAny_pyNext_list_end (I.ok.hd hc) st p.isList (by simp;omega) λh' eb=>⟨rfl,I.turned (t':=s.toks) (λb o hb e=>eb b o hb e) f0 f1 f3 f4 f5⟩
 self:=λ_ _ _ _ _ st h=>wpAny_pyIter_listiter st h
theorem jJ {P:Program} {w:World} {K:PySem.W.Frag} {tg:Expr} (a it:Addr):Turn P w K tg (pb K a) [it] it (λi h=>h.IsTupleIter it a i) where
 mem:=by simp
 obj:=λi h st b hb=>by
  have e:b=it:=by simpa using hb
  subst e
  obtain⟨o,e,c,d⟩:=st
  exact⟨o,e,λv z=>by rw [d] at z;cases z⟩
 keep:=λi h h' st k=>st.at λo e=>k it (by simp) o e
 item:=by
  intro X hP hw hK hc i pins s σ H E I hf st hg
  subst hP hw hK
  obtain⟨xs,x,hq,hx⟩:=hg
  obtain⟨its,rv,p,hz⟩:=I.tuple hq
  obtain⟨u,hu,ru⟩:=rv.get hx
  obtain⟨f0,f1,f2,f3,f4,f5⟩:=hf it (by simp)
  refine wpAny_pyNext_tuple_item st (show s.heap.IsTuple a its.toArray from p) (x:=u) (by simpa using hu) λh' st' sb=>?_
  have I1:Inv X pins σ H { s with heap:=h' }:=I.turned (t':=s.toks) (λb o hb e=>(sb.2 b hb).trans e) f0 f1 f3 f4 f5
  obtain⟨o,e,c,d⟩:=id st'
  exact⟨u,rfl,lz (s:={ s with heap:=h' }) e c d (by decide) ⟨x,H,I1,ru,⟨rfl,λys hy=>by rw [I.kQ hy hq];exact hx⟩,st',λb hb=>(hf b hb).1⟩⟩
 done:=by
  intro X hP hw hK hc i pins s σ H E I hf st hg
  subst hP hw hK
  obtain⟨xs,hq,hx⟩:=hg
  obtain⟨its,rv,p,hz⟩:=I.tuple hq
  obtain⟨f0,f1,f2,f3,f4,f5⟩:=hf it (by simp)
  have hl:=rv.length
  exact wpAny_pyNext_tuple_end (I.ok.hd hc) st (show s.heap.IsTuple a its.toArray from p) (by simp;omega) λh' eb=>⟨rfl,I.turned (t':=s.toks) (λb o hb e=>eb b o hb e) f0 f1 f3 f4 f5⟩
 self:=λ_ _ _ _ _ st h=>wpAny_pyIter_tupleiter st h
theorem jI {P:Program} {w:World} {K:PySem.W.Frag} {tg:Expr} (it:Addr) (lo:Int) (n:Nat):Turn P w K tg (mM lo n) [it] it (λi h=>IsRangeIter h it (lo+(i:Nat)*1) ((n:Int)-(i:Nat)) 1) where
 mem:=by simp
 obj:=λi h st b hb=>by
  have e:b=it:=by simpa using hb
  subst e
  exact⟨_,st,λv z=>by
   have z':Data.fields _=Data.cell v:=z
   cases z'⟩
 keep:=λi h h' st k=>k it (by simp) _ st
 item:=by
  intro X hP hw hK hc i pins s σ H E I hf st hg
  subst hP hw hK
  obtain⟨f0,f1,f2,f3,f4,f5⟩:=hf it (by simp)
  have W:=Walks.range (prog:=X.prog) (w:=X.w) (I.ok.hd hc) it lo 1 n
  refine W.item i s _ _ hg st λv h' tk hv st' kk=>?_
  obtain⟨t,rfl⟩:=hv
  have I1:Inv X pins σ H { s with heap:=h',toks:=tk }:=I.turned (λb o hb e=>kk b o (by simpa using hb) e) f0 f1 f3 f4 f5
  refine⟨_,rfl,lz (s:={ s with heap:=h',toks:=tk }) (n := "range_iterator") st' rfl rfl (by decide) ⟨.int (lo+i),H,I1,⟨t,?_⟩,⟨rfl,rfl⟩,st',λb hb=>(hf b hb).1⟩⟩
  rw [Int.mul_one]
 done:=by
  intro X hP hw hK hc i pins s σ H E I hf st hg
  subst hP hw hK
  obtain⟨f0,f1,f2,f3,f4,f5⟩:=hf it (by simp)
  exact wpAny_pyNext_range_end (I.ok.hd hc) st (by have:n<=i:=hg;omega) λh' eb=>⟨rfl,I.turned (t':=s.toks) (λb o hb e=>eb b o hb e) f0 f1 f3 f4 f5⟩
 self:=λ_ _ _ _ _ st h=>wpAny_pyIter_rangeiter st h
section
variable {X:Cx} {tg:Expr}
def oH (K:PySem.W.Frag) (tl:TE):TI:=λσ H R=>tl σ H λx H1=>∃ a,x=.ref a/\(∃ xs,bh K H1 a xs)/\R (o9 K a) H1
def qR (K:PySem.W.Frag) (tl:TE):TI:=λσ H R=>tl σ H λx H1=>∃ a,x=.ref a/\(∃ xs,cn K H1 a xs)/\R (pb K a) H1
theorem hW {l:Expr} {tl:TE} (hl:PE X l tl):PI X tg l (oH X.K tl):=by
 intro pins s σ H R I h
 refine a8 (hl pins s σ H _ I h) λv s1 ⟨x,H1,I1,r1,q1⟩=>?_
 obtain⟨a,e,⟨xs,hq⟩,q⟩:=q1
 subst e
 cases r1
 obtain⟨its,rv,p,hz⟩:=I1.list hq
 refine wpAny_pyIter_list p.isList ?_
 refine⟨s1.heap.objs.size,[s1.heap.objs.size],_,_,H1,rfl,I1.kept (t':=s1.toks) λb o e=>Heap.get?_push_of_some _ e,kR a _,⟨_,Heap.get?_push_size _ rfl,rfl,rfl⟩,λb hb=>?_,q⟩
 have e:b=s1.heap.objs.size:=by simpa using hb
 subst e
 exact I1.pM (Nat.le_refl _) (I1.hok.fresh (Nat.le_refl _))
theorem hZ {l:Expr} {tl:TE} (hl:PE X l tl):PI X tg l (qR X.K tl):=by
 intro pins s σ H R I h
 refine a8 (hl pins s σ H _ I h) λv s1 ⟨x,H1,I1,r1,q1⟩=>?_
 obtain⟨a,e,⟨xs,hq⟩,q⟩:=q1
 subst e
 cases r1
 obtain⟨its,rv,p,hz⟩:=I1.tuple hq
 refine wpAny_pyIter_tuple (show s1.heap.IsTuple a its.toArray from p) ?_
 refine⟨s1.heap.objs.size,[s1.heap.objs.size],_,_,H1,rfl,I1.kept (t':=s1.toks) λb o e=>Heap.get?_push_of_some _ e,jJ a _,⟨_,Heap.get?_push_size _ rfl,rfl,rfl⟩,λb hb=>?_,q⟩
 have e:b=s1.heap.objs.size:=by simpa using hb
 subst e
 exact I1.pM (Nat.le_refl _) (I1.hok.fresh (Nat.le_refl _))
theorem iX {pins:List (Addr × Obj)} {σ:St} {H:Hp} {s:Shared} {R:It->Hp->Prop} {E:Value->Shared->Prop} {lo hi:Int} {t u v:Tok} {tk:Nat} (I:Inv X pins σ H s) (h1:-(2^62)<=lo) (h2:lo<2^62) (h3:-(2^62)<=hi) (h4:hi<2^62)
  (q:R (mM lo (hi-lo).toNat) H):wpAny (model X.prog X.w) X.A (pyIter (.ref s.heap.objs.size)) (rV X pins σ tg R) E { s with heap:=s.heap.push { cls:=.type "range",data:=.fields #[.int lo t,.int hi u,.int 1 v] },toks:=tk }:=by
 refine wpAny_pyIter_range (IsRange.new ..) (small_one h1 h2 h3 h4) ?_
 have I1:Inv X pins σ H { s with heap:=s.heap.push { cls:=.type "range",data:=.fields #[.int lo t,.int hi u,.int 1 v] },toks:=tk }:=I.kept λb o e=>Heap.get?_push_of_some _ e
 refine⟨(s.heap.push { cls:=.type "range",data:=.fields #[.int lo t,.int hi u,.int 1 v] }).objs.size,[(s.heap.push { cls:=.type "range",data:=.fields #[.int lo t,.int hi u,.int 1 v] }).objs.size],_,_,H,rfl,
  I1.kept (t':=tk) λb o e=>Heap.get?_push_of_some _ e,jI _ lo (hi-lo).toNat,?_,λb hb=>?_,q⟩
 ·have e1:lo+((0:Nat):Int)*1=lo:=by simp
  have e2:(((hi-lo).toNat:Nat):Int)-((0:Nat):Int)=Builtin.Range.rangeSize lo hi 1:=by rw [rangeSize_one];split<;>omega
  show IsRangeIter _ _ (lo+((0:Nat):Int)*1) ((((hi-lo).toNat:Nat):Int)-((0:Nat):Int)) 1
  rw [e1,e2]
  exact Heap.get?_push_size _ rfl
 ·have e:b=(s.heap.push { cls:=.type "range",data:=.fields #[.int lo t,.int hi u,.int 1 v] }).objs.size:=by simpa using hb
  subst e
  exact I1.pM (Nat.le_refl _) (I1.hok.fresh (Nat.le_refl _))
def oI (ta:TA):TI:=λσ H R=>ta σ H λvs H1=>∃ j:Int,vs=[.int j] /\ -(2^62)<=j/\j<2^62/\R (mM 0 j.toNat) H1
def oJ (ta:TA):TI:=λσ H R=>ta σ H λvs H1=>∃ i j:Int,vs=[.int i,.int j]/\(-(2^62)<=i/\i<2^62 /\ -(2^62)<=j/\j<2^62)/\R (mM i (j-i).toNat) H1
theorem gk {a:Expr} {ta:TA} {p pos:Pos} (hg:Gl X "range") (hm:X.mg "range"=none) (ha:PA X [a] ta) (hs:starEach [a] X.env=[(false,eval a X.env)]:=by rfl):PI X tg (.Call (.Name "range" p) [a] [] pos) (oI ta):=by
 intro pins s σ H R I h
 refine Call_ (fc I hg hm boot_range (PyProof.Rows.callWith_type1 (a8 (ha pos pins s σ H _ I h) λus s1 ⟨vs,H1,I1,r1,q1⟩=>?_) hs rfl))
 obtain⟨j,e,q1,q2,q⟩:=q1
 subst e
 cases r1 with
 | cons r rr =>
  cases rr
  obtain⟨t,rfl⟩:=r
  exact call_range_1 (iX I1 (by omega) (by omega) q1 q2 (by simpa using q))
theorem kI {a b:Expr} {ta:TA} {p pos:Pos} (hg:Gl X "range") (hm:X.mg "range"=none) (ha:PA X [a,b] ta) (hs:starEach [a,b] X.env=[(false,eval a X.env),(false,eval b X.env)]:=by rfl) (hs2:starEach [b] X.env=[(false,eval b X.env)]:=by rfl) :
  PI X tg (.Call (.Name "range" p) [a,b] [] pos) (oJ ta):=by
 intro pins s σ H R I h
 refine Call_ (fc I hg hm boot_range (PyProof.Rows.callWith_type1 (a8 (ha pos pins s σ H _ I h) λus s1 ⟨vs,H1,I1,r1,q1⟩=>?_) (by rw [hs,hs2]) (by rw [hs2];rfl)))
 obtain⟨i,j,e,⟨q1,q2,q3,q4⟩,q⟩:=q1
 subst e
 cases r1 with
 | cons r rr =>
  cases rr with
  | cons r' rr =>
   cases rr
   obtain⟨t,rfl⟩:=r
   obtain⟨t',rfl⟩:=r'
   exact call_range_2 (iX I1 q1 q2 q3 q4 q)
def rE (wi:TI) (g:TG) (tb:TS):TS:=λD σ H=>wi σ H λJ H1=>∃ W:Nat->Nat->St->Hp->Prop,(∃ m,W 0 m σ H1)/\∀ i m σ H,W i m σ H ->
 (J.stop i H/\D.nx σ H)∨(J.go i H/\∃ N:St->Hp->Prop,(∀ σ' H',N σ' H'->∃ m',m'<m/\W (i+1) m' σ' H')/\∀ x H',J.yld i H x H'->g x σ H' λσ2 H2=>tb { D with nx:=N,ct:=N,bk:=D.nx } σ2 H2)
def d7 (fp:List Addr) (h:Heap):List (Addr × Obj):=fp.filterMap λb=>(h.get? b).map λo=>(b,o)
theorem cG {fp:List Addr} {h:Heap} {b:Addr} {o:Obj} (hb:b∈fp) (e:h.get? b=some o):(b,o)∈d7 fp h:=List.mem_filterMap.mpr ⟨b,hb,by rw [e];rfl⟩
theorem gd {fp:List Addr} {h:Heap} {p:Addr × Obj} (hp:p∈d7 fp h):p.1∈fp/\h.get? p.1=some p.2:=by
 obtain⟨b,hb,e⟩:=List.mem_filterMap.mp hp
 cases q:h.get? b with
 | none=>rw [q] at e;cases e
 | some o =>
  rw [q] at e
  have e':(b,o)=p:=Option.some.inj e
  subst e'
  exact⟨hb,q⟩
theorem Inv.pinned {pins:List (Addr × Obj)} {σ:St} {H:Hp} {s:Shared} {fp:List Addr} (I:Inv X pins σ H s) (hf:∀ b∈fp,i7 X pins H b) (ho:∀ b∈fp,∃ o,s.heap.get? b=some o/\∀ v,o.data≠.cell v):Inv X (pins++d7 fp s.heap) σ H s :=
 I.eT λp hp=>(List.mem_append.mp hp).elim (λz=>I.pin p (List.mem_append_right _ z)) λz=>by
  obtain⟨hb,e⟩:=gd z
  obtain⟨f0,f1,f2,_⟩:=hf p.1 hb
  obtain⟨o,e',d⟩:=ho p.1 hb
  rw [e] at e';cases e'
  exact⟨e,f0,f1,f2,d⟩
theorem Inv.dS {pins pl:List (Addr × Obj)} {σ:St} {H:Hp} {s:Shared} (I:Inv X (pins++pl) σ H s):Inv X pins σ H s:=I.eT λp hp=>I.pin p (List.mem_append_right _ (List.mem_append_left _ hp))
theorem fv {iter:Expr} {body:List Stmt} {wi:TI} {g:TG} {tb:TS} {pos:Pos} (hp:PassesOwn (model X.prog X.w) X.A X.env X.xe) (hc:X.calm=true) (hi:PI X tg iter wi) (hg:PG X tg g) (hb:eA X body tb)
  (hs:∀ x,foldedSetIterable iter X.env x=pure x:=by intro _;rfl):PS X (.For tg iter body [] pos) (rE wi g tb):=by
 intro pins s σ H D I h
 refine wpAny_For (a8 (hi pins s σ H _ I h) λv s1 h1=>a8 h1 λitv s2 h2=>?_) hs
 obtain⟨it,fp,tn,J,H2,e,I2,T,st2,f2,W,⟨m0,w0⟩,turn⟩:=h2
 subst e
 -- what stays true of the iterator's objects through the loop
 have stat:∀{H':Hp},(∀ b∈fp,H' b=none)->∀ b∈fp,i7 X pins H' b:=λhn b hb=>⟨hn b hb,(f2 b hb).2⟩
 refine codeAny_forLoop_any (λn s'=>∃ i σ' H',Inv X pins σ' H' s'/\tn i s'.heap/\(∀ b∈fp,H' b=none)/\W i n σ' H') ?_ m0 ⟨0,σ,H2,I2,st2,λb hb=>(f2 b hb).1,w0⟩
 rintro n s3 ⟨i,σ3,H3,I3,st3,fr3,w3⟩
 rcases turn i n σ3 H3 w3 with⟨stop,qn⟩|⟨go,N,hN,step⟩
 ·refine wpAny_passesOwn hp (a8 (T.done X rfl rfl rfl hc i pins s3 σ3 H3 X.xe I3 (stat fr3) st3 stop) λr s4 ⟨hr,I4⟩=>?_)
  subst hr
  exact wpAny_execs_nil ⟨σ3,H3,I4,qn⟩
 ·refine wpAny_passesOwn hp (a8 (T.item X rfl rfl rfl hc i pins s3 σ3 H3 X.xe I3 (stat fr3) st3 go) λr s4 ⟨u,hr,h4⟩=>?_)
  subst hr
  refine wpAny_passesOwn hp (a8 h4 λ_ s5 ⟨x,H5,I5,r5,y5,st5,fr5⟩=>?_)
  have I5':=I5.pinned (stat fr5) (T.obj _ _ st5)
  refine wpAny_passesOwn hp (a8 (hg _ s5 σ3 H5 x u _ I5' r5 (step x H5 y5)) λ_ s6 ⟨σ6,H6,I6,q6⟩=>?_)
  refine wpAny_passesOwn hp (a8 (hb _ s6 σ6 H6 _ I6 q6) λf s7 q7=>?_)
  have again:∀{σ7:St} {H7:Hp},Inv X (pins++d7 fp s5.heap) σ7 H7 s7->N σ7 H7->∃ m,m<n/\∃ i σ' H',Inv X pins σ' H' s7/\tn i s7.heap/\(∀ b∈fp,H' b=none)/\W i m σ' H':=λ{σ7 H7} I7 n7=>by
   obtain⟨m',hm,w7⟩:=hN σ7 H7 n7
   refine⟨m',hm,i+1,σ7,H7,I7.dS,T.keep _ _ _ st5 λb hb o e=>(I7.pin (b,o) (List.mem_append_right _ (List.mem_append_right _ (cG hb e)))).1,λb hb=>?_,w7⟩
   obtain⟨o,e,d⟩:=T.obj _ _ st5 b hb
   exact (I7.pin (b,o) (List.mem_append_right _ (List.mem_append_right _ (cG hb e)))).2.1
  cases f with
  | next=>obtain⟨σ7,H7,I7,n7⟩:=q7;exact again I7 n7
  | cont=>obtain⟨σ7,H7,I7,n7⟩:=q7;exact again I7 n7
  | brk=>obtain⟨σ7,H7,I7,q7⟩:=q7;exact⟨σ7,H7,I7.dS,q7⟩
  | ret v=>obtain⟨x7,σ7,H7,I7,r7,q7⟩:=q7;exact⟨x7,σ7,H7,I7.dS,r7,q7⟩
end
theorem lx {K:PySem.W.Frag} {a:Addr} {xs:List V} {g:TG} {tb:TS} {D:Ends} {σ:St} {H:Hp} (Pv:Nat->St->Hp->Prop) (h0:Pv 0 σ H) (hl:∀ i σ H,i<=xs.length->Pv i σ H->bh K H a xs)
  (hs:∀ i x σ H,xs[i]?=some x->Pv i σ H->g x σ H λσ2 H2=>tb { D with nx:=Pv (i+1),ct:=Pv (i+1),bk:=D.nx } σ2 H2) (hd:∀ σ H,Pv xs.length σ H->D.nx σ H) :
  ∃ W:Nat->Nat->St->Hp->Prop,(∃ m,W 0 m σ H)/\∀ i m σ H,W i m σ H ->
   ((o9 K a).stop i H/\D.nx σ H)∨((o9 K a).go i H/\∃ N:St->Hp->Prop,(∀ σ' H',N σ' H'->∃ m',m'<m/\W (i+1) m' σ' H')/\∀ x H',(o9 K a).yld i H x H'->g x σ H' λσ2 H2=>tb { D with nx:=N,ct:=N,bk:=D.nx } σ2 H2):=by
 refine⟨λi m σ H=>m=xs.length-i/\i<=xs.length/\Pv i σ H,⟨xs.length,by simp,Nat.zero_le _,h0⟩,?_⟩
 rintro i m σ H ⟨rfl,hi,p⟩
 have q:=hl i σ H hi p
 by_cases hlt:i<xs.length
 ·refine .inr ⟨⟨xs,xs[i],q,by simp [hlt]⟩,Pv (i+1),λσ' H' p'=>⟨xs.length-(i+1),by omega,rfl,hlt,p'⟩,λx H' y=>?_⟩
  obtain⟨e,y⟩:=y
  subst e
  exact hs i x σ _ (y xs q) p
 ·have e:i=xs.length:=by omega
  subst e
  exact .inl ⟨⟨xs,q,Nat.le_refl _⟩,hd σ H p⟩
theorem m7 {K:PySem.W.Frag} {a:Addr} {xs:List V} {g:TG} {tb:TS} {D:Ends} {σ:St} {H:Hp} (Pv:Nat->St->Hp->Prop) (h0:Pv 0 σ H) (hl:∀ i σ H,i<=xs.length->Pv i σ H->cn K H a xs)
  (hs:∀ i x σ H,xs[i]?=some x->Pv i σ H->g x σ H λσ2 H2=>tb { D with nx:=Pv (i+1),ct:=Pv (i+1),bk:=D.nx } σ2 H2) (hd:∀ σ H,Pv xs.length σ H->D.nx σ H) :
  ∃ W:Nat->Nat->St->Hp->Prop,(∃ m,W 0 m σ H)/\∀ i m σ H,W i m σ H ->
   ((pb K a).stop i H/\D.nx σ H)∨((pb K a).go i H/\∃ N:St->Hp->Prop,(∀ σ' H',N σ' H'->∃ m',m'<m/\W (i+1) m' σ' H')/\∀ x H',(pb K a).yld i H x H'->g x σ H' λσ2 H2=>tb { D with nx:=N,ct:=N,bk:=D.nx } σ2 H2):=by
 refine⟨λi m σ H=>m=xs.length-i/\i<=xs.length/\Pv i σ H,⟨xs.length,by simp,Nat.zero_le _,h0⟩,?_⟩
 rintro i m σ H ⟨rfl,hi,p⟩
 have q:=hl i σ H hi p
 by_cases hlt:i<xs.length
 ·refine .inr ⟨⟨xs,xs[i],q,by simp [hlt]⟩,Pv (i+1),λσ' H' p'=>⟨xs.length-(i+1),by omega,rfl,hlt,p'⟩,λx H' y=>?_⟩
  obtain⟨e,y⟩:=y
  subst e
  exact hs i x σ _ (y xs q) p
 ·have e:i=xs.length:=by omega
  subst e
  exact .inl ⟨⟨xs,q,Nat.le_refl _⟩,hd σ H p⟩
theorem kq {lo:Int} {n:Nat} {g:TG} {tb:TS} {D:Ends} {σ:St} {H:Hp} (Pv:Nat->St->Hp->Prop) (h0:Pv 0 σ H)
  (hs:∀ i σ H,i<n->Pv i σ H->g (.int (lo+i)) σ H λσ2 H2=>tb { D with nx:=Pv (i+1),ct:=Pv (i+1),bk:=D.nx } σ2 H2) (hd:∀ σ H,Pv n σ H->D.nx σ H) :
  ∃ W:Nat->Nat->St->Hp->Prop,(∃ m,W 0 m σ H)/\∀ i m σ H,W i m σ H ->
   ((mM lo n).stop i H/\D.nx σ H)∨((mM lo n).go i H/\∃ N:St->Hp->Prop,(∀ σ' H',N σ' H'->∃ m',m'<m/\W (i+1) m' σ' H')/\∀ x H',(mM lo n).yld i H x H'->g x σ H' λσ2 H2=>tb { D with nx:=N,ct:=N,bk:=D.nx } σ2 H2):=by
 refine⟨λi m σ H=>m=n-i/\i<=n/\Pv i σ H,⟨n,by simp,Nat.zero_le _,h0⟩,?_⟩
 rintro i m σ H ⟨rfl,hi,p⟩
 by_cases hlt:i<n
 ·refine .inr ⟨hlt,Pv (i+1),λσ' H' p'=>⟨n-(i+1),by omega,rfl,hlt,p'⟩,λx H' y=>?_⟩
  obtain⟨e,y⟩:=y
  subst e y
  exact hs i σ _ hlt p
 ·have e:i=n:=by omega
  subst e
  exact .inl ⟨Nat.le_refl _,hd σ H p⟩
abbrev R2:=V->V->Hp->VK->Prop
def ez (X:Cx) (f:Value->Value->Sem Value) (r:R2):Prop :=
 ∀(pins:List (Addr × Obj)) (s:Shared) (σ:St) (H:Hp) (x y:V) (v u:Value) (Q:VK),Inv X pins σ H s->RelV x v->RelV y u->r x y H Q ->
  wpAny (model X.prog X.w) X.A (f v u) (EP X pins σ Q) X.xe s
def sk (X:Cx) (f:Value->Sem Value) (r:V->Hp->VK->Prop):Prop :=
 ∀(pins:List (Addr × Obj)) (s:Shared) (σ:St) (H:Hp) (x:V) (v:Value) (Q:VK),Inv X pins σ H s->RelV x v->r x H Q ->
  wpAny (model X.prog X.w) X.A (f v) (EP X pins σ Q) X.xe s
def cp (X:Cx) (f:Value) (r:List V->Hp->VK->Prop):Prop :=
 ∀(pins:List (Addr × Obj)) (s:Shared) (σ:St) (H:Hp) (xs:List V) (us:List Value) (Q:VK),Inv X pins σ H s->Vals xs us->r xs H Q ->
  wpAny (model X.prog X.w) X.A (call f us) (EP X pins σ Q) X.xe s
def sj (X:Cx) (r:V->Hp->(Bool->Hp->Prop)->Prop):Prop :=
 ∀(pins:List (Addr × Obj)) (s:Shared) (σ:St) (H:Hp) (x:V) (v:Value) (Q:Bool->Hp->Prop),Inv X pins σ H s->RelV x v->r x H Q ->
  wpAny (model X.prog X.w) X.A (truthy v) (TP X pins σ Q) X.xe s
def rK (r:R2) (ta tb:TE):TE:=λσ H Q=>ta σ H λx H1=>tb σ H1 λy H2=>r x y H2 Q
def tG (r:V->Hp->VK->Prop) (ta:TE):TE:=λσ H Q=>ta σ H λx H1=>r x H1 Q
def rI (C:Int->Int->Prop) (g:Int->Int->V):R2:=λx y H Q=>∃ i j,x=.int i/\y=.int j/\C i j/\Q (g i j) H
def kT (g:Int->Int->V):R2:=λx y H Q=>∃ i j,x=.int i/\y=.int j/\Q (g i j) H
def rU (g:Int->V):V->Hp->VK->Prop:=λx H Q=>∃ i,x=.int i/\Q (g i) H
section
variable {X:Cx} {a b c:Expr} {ta tb tc:TE} {pos:Pos}
theorem pF (ha:PE X a ta) (hb:PE X b tb) {pins:List (Addr × Obj)} {s:Shared} {σ:St} {H:Hp} {R:V->V->Hp->Prop} (I:Inv X pins σ H s)
  (h:ta σ H λx H1=>tb σ H1 λy H2=>R x y H2) {Q:Value->Shared->Prop} {f:Value->Value->Sem Value}
  (hf:∀ v u s2 x y H2,Inv X pins σ H2 s2->RelV x v->RelV y u->R x y H2->wpAny (model X.prog X.w) X.A (f v u) Q X.xe s2) :
  wpAny (model X.prog X.w) X.A (eval a X.env) (λv s₁=>wpAny (model X.prog X.w) X.A (eval b X.env) (λu s₂=>wpAny (model X.prog X.w) X.A (f v u) Q X.xe s₂) X.xe s₁) X.xe s:=by
 refine a8 (ha pins s σ H _ I h) λv s1 ⟨x,H1,I1,r1,q1⟩=>?_
 refine a8 (hb pins s1 σ H1 _ I1 q1) λu s2 ⟨y,H2,I2,r2,q2⟩=>?_
 exact hf v u s2 x y H2 I2 r1 r2 q2
theorem ao {op:Operator} {r:R2} (ho:ez X (binaryOp op) r) (ha:PE X a ta) (hb:PE X b tb):PE X (.BinOp a op b pos) (rK r ta tb):=by
 intro pins s σ H Q I h
 exact wpAny_BinOp (pF ha hb I h λv u s2 x y H2 I2 rx ry q=>ho pins s2 σ H2 x y v u Q I2 rx ry q)
theorem oQ {op:UnaryOp} {r:V->Hp->VK->Prop} (ho:sk X (unaryOp op) r) (ha:PE X a ta):PE X (.UnaryOp op a pos) (tG r ta):=by
 intro pins s σ H Q I h
 exact UnaryOp_ (a8 (ha pins s σ H _ I h) λv s1 ⟨x,H1,I1,r1,q1⟩=>ho pins s1 σ H1 x v Q I1 r1 q1)
theorem qY {f:Value->Value->Sem Value} {C:Int->Int->Prop} {g:Int->Int->Int}
  (rule:∀(i j:Int) (t u:Tok) (s:Shared) (Q:Value->Shared->Prop) (E:Value->Shared->Prop),C i j->Q (.int (g i j) s.toks) { s with toks:=s.toks+1 }->wpAny (model X.prog X.w) X.A (f (.int i t) (.int j u)) Q E s) :
  ez X f (rI C λi j=>.int (g i j)):=by
 intro pins s σ H x y v u Q I rx ry h
 obtain⟨i,j,rfl,rfl,hc,q⟩:=h
 obtain⟨t,rfl⟩:=rx
 obtain⟨t',rfl⟩:=ry
 exact rule i j t t' s _ _ hc ⟨.int (g i j),H,I.tok _,⟨_,rfl⟩,q⟩
theorem pZ {f:Value->Value->Sem Value} {g:Int->Int->Int}
  (rule:∀(i j:Int) (t u:Tok) (s:Shared) (Q:Value->Shared->Prop) (E:Value->Shared->Prop),Q (.int (g i j) s.toks) { s with toks:=s.toks+1 }->wpAny (model X.prog X.w) X.A (f (.int i t) (.int j u)) Q E s) :
  ez X f (kT λi j=>.int (g i j)):=by
 intro pins s σ H x y v u Q I rx ry h
 obtain⟨i,j,rfl,rfl,q⟩:=h
 obtain⟨t,rfl⟩:=rx
 obtain⟨t',rfl⟩:=ry
 exact rule i j t t' s _ _ ⟨.int (g i j),H,I.tok _,⟨_,rfl⟩,q⟩
theorem nI {f:Value->Value->Sem Value} {g:Int->Int->Bool}
  (rule:∀(i j:Int) (t u:Tok) (s:Shared) (Q:Value->Shared->Prop) (E:Value->Shared->Prop),Q (.bool (g i j)) s->wpAny (model X.prog X.w) X.A (f (.int i t) (.int j u)) Q E s) :
  ez X f (kT λi j=>.bl (g i j)):=by
 intro pins s σ H x y v u Q I rx ry h
 obtain⟨i,j,rfl,rfl,q⟩:=h
 obtain⟨t,rfl⟩:=rx
 obtain⟨t',rfl⟩:=ry
 exact rule i j t t' s _ _ ⟨.bl (g i j),H,I,rfl,q⟩
def qA (i j:Int):Prop:=0<=j/\j<=1000000/\i.natAbs<2^64
def qz (i j:Int):Prop:=(-(2^64)<i/\i<2^64)∨(-(2^64)<j/\j<2^64)
theorem qz.ok {i j:Int} (h:qz i j):IntMulOk i j:=by
 rcases h with⟨h1,h2⟩|⟨h1,h2⟩
 ·exact .of_left (intBits_le_64 h1 h2)
 ·exact .of_right (intBits_le_64 h1 h2)
theorem bS:ez X (binaryOp .Add) (kT λi j=>.int (i+j)):=pZ λ_ _ _ _ _ _ _ q=>add_int q
theorem bT:ez X (binaryOp .Sub) (kT λi j=>.int (i-j)):=pZ λ_ _ _ _ _ _ _ q=>sub_int q
theorem aF:ez X (binaryOp .Mod) (rI (λ_ j=>0<j) λi j=>.int (i%j)):=qY λi j _ _ _ _ _ hc q=>by
 have h1:(0:Int)<j:=hc
 exact mod_int' (by omega) (by rw [Int.fmod_eq_emod_of_nonneg i (by omega)];exact q)
theorem cj:ez X (binaryOp .Pow) (rI qA λi j=>.int (i^j.toNat)):=qY λ_ _ _ _ _ _ _ hc q=>pow_int_small hc.1 hc.2.1 hc.2.2 q
theorem gN:ez X (inplaceOp .Add) (kT λi j=>.int (i+j)):=pZ λ_ _ _ _ _ _ _ q=>iadd_int q
theorem tS {f:Value->Sem Value} {g:Int->Int}
  (rule:∀(i:Int) (t:Tok) (s:Shared) (Q:Value->Shared->Prop) (E:Value->Shared->Prop),Q (.int (g i) s.toks) { s with toks:=s.toks+1 }->wpAny (model X.prog X.w) X.A (f (.int i t)) Q E s) :
  sk X f (rU λi=>.int (g i)):=by
 intro pins s σ H x v Q I rx h
 obtain⟨i,rfl,q⟩:=h
 obtain⟨t,rfl⟩:=rx
 exact rule i t s _ _ ⟨.int (g i),H,I.tok _,⟨_,rfl⟩,q⟩
theorem mH:sk X (unaryOp .USub) (rU λi=>.int (-i)):=tS λ_ _ _ _ _ q=>neg_int q
end
def ig:V->V->Bool
 | .non,.non=>true | .non,.int _=>true | .int _,.non=>true | .non,.bl _=>true | .bl _,.non=>true | .non,.str _=>true | .str _,.non=>true
 | .int _,.int _=>true | .bl _,.bl _=>true | .str _,.str _=>true | .byt _,.byt _=>true
 | .int _,.str _=>true | .str _,.int _=>true | .bl _,.str _=>true | .str _,.bl _=>true
 | _,_=>false
def tf:R2:=λx y H Q=>ig x y=true/\Q (.bl (decide (x=y))) H
def tj:R2:=λx y H Q=>ig x y=true/\Q (.bl (!decide (x=y))) H
theorem jT {i j:Int}:decide (V.int i=V.int j)=(i==j):=by
 rw [Bool.eq_iff_iff]
 simp
theorem lp {i j:Bool}:decide (V.bl i=V.bl j)=(i==j):=by
 rw [Bool.eq_iff_iff]
 simp
theorem jU {i j:Str}:decide (V.str i=V.str j)=(i==j):=by
 rw [Bool.eq_iff_iff]
 simp
theorem jS {i j:Array UInt8}:decide (V.byt i=V.byt j)=(i.toList==j.toList):=by
 rw [Bool.eq_iff_iff]
 cases i
 cases j
 simp
section
variable {X:Cx} {a b c:Expr} {ta tb tc:TE} {pos:Pos}
theorem aE {pins:List (Addr × Obj)} {σ:St} {H:Hp} {s:Shared} {Q:VK} {k k':Bool} (I:Inv X pins σ H s) (q:Q (.bl k) H) (e:k=k'):EP X pins σ Q (.bool k') s:=by
 subst e
 exact⟨.bl k,H,I,rfl,q⟩
theorem cq:ez X (compareOp .Eq) tf:=by
 intro pins s σ H x y v u Q I rx ry h
 obtain⟨hs,q⟩:=h
 cases x with
 | non =>
  cases rx
  cases y with
  | non=>cases ry;exact PySem.EqNone.eq_none_none (aE I q (by simp))
  | bl j=>cases ry;exact PySem.EqNone.eq_none_bool (aE I q (by simp))
  | int j=>obtain⟨t',rfl⟩:=ry;exact PySem.EqNone.eq_none_int (aE I q (by simp))
  | str j=>obtain⟨t',rfl⟩:=ry;exact PySem.EqNone.eq_none_str (aE I q (by simp))
  | _=>exact absurd (show false=true from hs) Bool.false_ne_true
 | bl i =>
  cases rx
  cases y with
  | non=>cases ry;exact PySem.EqNone.eq_bool_none (aE I q (by simp))
  | bl j=>cases ry;exact eq_bool (aE I q lp)
  | str j=>obtain⟨t',rfl⟩:=ry;exact PySem.EqMixed.eq_bool_str (aE I q (by simp))
  | _=>exact absurd (show false=true from hs) Bool.false_ne_true
 | int i =>
  obtain⟨t,rfl⟩:=rx
  cases y with
  | non=>cases ry;exact PySem.EqNone.eq_int_none (aE I q (by simp))
  | int j=>obtain⟨t',rfl⟩:=ry;exact eq_int (aE I q jT)
  | str j=>obtain⟨t',rfl⟩:=ry;exact PySem.EqMixed.eq_int_str (aE I q (by simp))
  | _=>exact absurd (show false=true from hs) Bool.false_ne_true
 | str i =>
  obtain⟨t,rfl⟩:=rx
  cases y with
  | non=>cases ry;exact PySem.EqNone.eq_str_none (aE I q (by simp))
  | bl j=>cases ry;exact PySem.EqMixed.eq_str_bool (aE I q (by simp))
  | int j=>obtain⟨t',rfl⟩:=ry;exact PySem.EqMixed.eq_str_int (aE I q (by simp))
  | str j=>obtain⟨t',rfl⟩:=ry;exact eq_str (aE I q jU)
  | _=>exact absurd (show false=true from hs) Bool.false_ne_true
 | byt i =>
  obtain⟨t,rfl⟩:=rx
  cases y with
  | byt j=>obtain⟨t',rfl⟩:=ry;exact PySem.W.eq_bytes (aE I q jS)
  | _=>exact absurd (show false=true from hs) Bool.false_ne_true
 | _=>cases y<;>exact absurd (show false=true from hs) Bool.false_ne_true
theorem fh:ez X (compareOp .NotEq) tj:=by
 intro pins s σ H x y v u Q I rx ry h
 obtain⟨hs,q⟩:=h
 cases x with
 | non =>
  cases rx
  cases y with
  | non=>cases ry;exact PySem.EqNone.ne_none_none (aE I q (by simp))
  | bl j=>cases ry;exact PySem.EqNone.ne_none_bool (aE I q (by simp))
  | int j=>obtain⟨t',rfl⟩:=ry;exact PySem.EqNone.ne_none_int (aE I q (by simp))
  | str j=>obtain⟨t',rfl⟩:=ry;exact PySem.EqNone.ne_none_str (aE I q (by simp))
  | _=>exact absurd (show false=true from hs) Bool.false_ne_true
 | bl i =>
  cases rx
  cases y with
  | non=>cases ry;exact PySem.EqNone.ne_bool_none (aE I q (by simp))
  | bl j=>cases ry;exact ne_bool (aE I q (congrArg not lp))
  | str j=>obtain⟨t',rfl⟩:=ry;exact PySem.EqMixed.ne_bool_str (aE I q (by simp))
  | _=>exact absurd (show false=true from hs) Bool.false_ne_true
 | int i =>
  obtain⟨t,rfl⟩:=rx
  cases y with
  | non=>cases ry;exact PySem.EqNone.ne_int_none (aE I q (by simp))
  | int j=>obtain⟨t',rfl⟩:=ry;exact ne_int (aE I q (congrArg not jT))
  | str j=>obtain⟨t',rfl⟩:=ry;exact PySem.EqMixed.ne_int_str (aE I q (by simp))
  | _=>exact absurd (show false=true from hs) Bool.false_ne_true
 | str i =>
  obtain⟨t,rfl⟩:=rx
  cases y with
  | non=>cases ry;exact PySem.EqNone.ne_str_none (aE I q (by simp))
  | bl j=>cases ry;exact PySem.EqMixed.ne_str_bool (aE I q (by simp))
  | int j=>obtain⟨t',rfl⟩:=ry;exact PySem.EqMixed.ne_str_int (aE I q (by simp))
  | str j=>obtain⟨t',rfl⟩:=ry;exact ne_str (aE I q (congrArg not jU))
  | _=>exact absurd (show false=true from hs) Bool.false_ne_true
 | byt i =>
  obtain⟨t,rfl⟩:=rx
  cases y with
  | byt j=>obtain⟨t',rfl⟩:=ry;exact PySem.W.ne_bytes (aE I q (congrArg not jS))
  | _=>exact absurd (show false=true from hs) Bool.false_ne_true
 | _=>cases y<;>exact absurd (show false=true from hs) Bool.false_ne_true
theorem dI:ez X (compareOp .Lt) (kT λi j=>.bl (decide (i<j))):=nI λ_ _ _ _ _ _ _ q=>lt_int q
theorem gh:ez X (compareOp .LtE) (kT λi j=>.bl (decide (i<=j))):=nI λ_ _ _ _ _ _ _ q=>le_int q
theorem eH:ez X (compareOp .Gt) (kT λi j=>.bl (decide (j<i))):=nI λ_ _ _ _ _ _ _ q=>gt_int q
theorem qZ:ez X (compareOp .GtE) (kT λi j=>.bl (decide (j<=i))):=nI λ_ _ _ _ _ _ _ q=>ge_int q
theorem av (b:Expr) {op:CmpOp} (h:op≠.In:=by decide) (h2:op≠.NotIn:=by decide):behindInMarks op b=false:=by
 have e1:(op==CmpOp.In)=false:=by cases op<;>first | rfl | exact absurd rfl h
 have e2:(op==CmpOp.NotIn)=false:=by cases op<;>first | rfl | exact absurd rfl h2
 cases b<;>simp [behindInMarks,e1,e2]
theorem de {op:CmpOp} {r:R2} (ho:ez X (compareOp op) r) (ha:PE X a ta) (hb:PE X b tb) (hm:behindInMarks op b=false):PE X (.Compare a [op] [b] pos) (rK r ta tb):=by
 intro pins s σ H Q I h
 exact wpAny_Compare1 (pF ha hb I h λv u s2 x y H2 I2 rx ry q=>ho pins s2 σ H2 x y v u Q I2 rx ry q) hm
def mC (t:TE):TT:=λσ H Q=>t σ H λx H'=>∃ k,x=.bl k/\Q k H'
theorem ar {op:CmpOp} {r:R2} (ho:ez X (compareOp op) r) (ha:PE X a ta) (hb:PE X b tb) (hm:behindInMarks op b=false):PT X (.Compare a [op] [b] pos) (mC (rK r ta tb)):=by
 intro pins s σ H Q I h
 refine wpAny_isTrue_Compare1 (a8 (ha pins s σ H _ I h) λv s1 ⟨x,H1,I1,r1,q1⟩=>a8 (hb pins s1 σ H1 _ I1 q1) λu s2 ⟨y,H2,I2,r2,q2⟩ =>
  a8 (ho pins s2 σ H2 x y v u _ I2 r1 r2 q2) λc s3 ⟨z,H3,I3,r3,k,e,q3⟩=>?_) hm
 subst e
 cases r3
 exact wpAny_truthy_bool ⟨H3,I3,q3⟩
def jG (r r':R2) (ta tb tc:TE):TE:=λσ H Q=>ta σ H λx H1=>tb σ H1 λy H2=>r x y H2 λz H3=>∃ k,z=.bl k /\
 (if k=true then tc σ H3 λw' H4=>r' y w' H4 Q else Q (.bl false) H3)
theorem iW {op op':CmpOp} {r r':R2} (ho:ez X (compareOp op) r) (ho':ez X (compareOp op') r') (ha:PE X a ta) (hb:PE X b tb) (hc:PE X c tc)
  (hm:lastMarks [op,op'] [b,c]=false:=by with_unfolding_all rfl):PT X (.Compare a [op,op'] [b,c] pos) (mC (jG r r' ta tb tc)):=by
 intro pins s σ H Q I h
 refine isTrue_chain (a8 (ha pins s σ H _ I h) λv s1 ⟨x,H1,I1,r1,q1⟩=>test_link (a8 (hb pins s1 σ H1 _ I1 q1) λu s2 ⟨y,H2,I2,r2,q2⟩ =>
  a8 (ho pins s2 σ H2 x y v u _ I2 r1 r2 q2) λd s3 ⟨z,H3,I3,r3,k,e,q3⟩=>?_)) hm
 subst e
 cases r3
 refine wpAny_truthy_bool ?_
 cases k with
 | false =>
  obtain⟨k',e',q'⟩:=q3
  cases e'
  exact ite_ff ⟨H3,I3,q'⟩
 | true =>
  refine ite_tt (test_last (a8 (hc pins s3 σ H3 _ I3 q3) λw' s4 ⟨z',H4,I4,r4,q4⟩=>a8 (ho' pins s4 σ H4 y z' u w' _ I4 r2 r4 q4) λd' s5 ⟨z2,H5,I5,r5,k2,e2,q5⟩=>?_))
  subst e2
  cases r5
  exact wpAny_truthy_bool ⟨H5,I5,q5⟩
def mR (K:PySem.W.Frag) (x:V) (H:Hp) (k:Bool):Prop :=
 match x with
 | .non=>k=false
 | .bl b=>k=b
 | .int i=>k=(i != 0)
 | .str y=>y.length<=sizeLine/\k=((y.length:Int) != 0)
 | .byt y=>y.size<=sizeLine/\k=((y.size:Int) != 0)
 | .ref p=>(∃ xs,bh K H p xs/\k=!xs.isEmpty)∨(∃ xs,cn K H p xs/\k=!xs.isEmpty)∨∃ kvs,H p=some (.dK kvs)/\k=!kvs.isEmpty
 | _=>False
theorem jj {κ:Type} {kvs:List (κ × V)} {vs:List (κ × Value)} (r:KV kvs vs):(!vs.isEmpty)=!kvs.isEmpty:=by
 cases r<;>rfl
theorem e9 {xs:List V} {its:List Value} (r:Vals xs its):(!its.toArray.isEmpty)=!xs.isEmpty:=by
 cases r<;>simp
theorem gS:(sizeLine:Nat)<2^63:=by rw [sizeLine_eq];decide
theorem qt:sj X (λx H Q=>∃ k,mR X.K x H k/\Q k H):=by
 intro pins s σ H x v Q I rx h
 obtain⟨k,e,q⟩:=h
 have hl:=gS
 have hs:sizeLine=16777216:=sizeLine_eq
 cases x with
 | non =>
  cases rx
  have e':k=false:=e
  subst e'
  exact truthy_none ⟨H,I,q⟩
 | bl b =>
  cases rx
  have e':k=b:=e
  subst e'
  exact wpAny_truthy_bool ⟨H,I,q⟩
 | int i =>
  obtain⟨t,rfl⟩:=rx
  have e':k=(i != 0):=e
  subst e'
  exact PySem.P.truthy_int ⟨H,I,q⟩
 | str y =>
  obtain⟨t,rfl⟩:=rx
  obtain⟨hy,e'⟩:y.length<=sizeLine/\k=((y.length:Int) != 0):=e
  subst e'
  exact PySem.P.truthy_str (by omega) ⟨H,I.tok _,q⟩
 | byt y =>
  obtain⟨t,rfl⟩:=rx
  obtain⟨hy,e'⟩:y.size<=sizeLine/\k=((y.size:Int) != 0):=e
  subst e'
  exact PySem.W.truthy_bytes (by omega) ⟨H,I.tok _,q⟩
 | ref p =>
  cases rx
  have e':(∃ xs,bh X.K H p xs/\k=!xs.isEmpty)∨(∃ xs,cn X.K H p xs/\k=!xs.isEmpty)∨∃ kvs,H p=some (.dK kvs)/\k=!kvs.isEmpty:=e
  rcases e' with⟨xs,hx,e'⟩|⟨xs,hx,e'⟩|⟨kvs,hx,e'⟩
  ·subst e'
   obtain⟨its,r,pl,hz⟩:=I.list hx
   have hlen:=r.length
   exact wpAny_truthy_list pl.isList (by simp only [List.size_toArray];omega) ⟨H,I.tok _,by rw [e9 r];exact q⟩
  ·subst e'
   obtain⟨its,r,pl,hz⟩:=I.tuple hx
   have hlen:=r.length
   exact truthy_tuple pl (by simp only [List.size_toArray];omega) ⟨H,I.tok _,by rw [e9 r];exact q⟩
  ·subst e'
   obtain⟨hz,hS,vs,r,m⟩:kvs.length<=sizeLine/\(p==sysModules)=false/\∃ vs,KV kvs vs/\s.heap.DictOf (gU X.prog X.w) p vs:=I.hok p _ hx
   have hlen:kvs.length=vs.length:=Paired.length r
   exact wpAny_truthy_dict hS m (by omega) ⟨H,I.tok _,by rw [jj r];exact q⟩
 | _=>exact (show False from e).elim
theorem aW (ha:PE X a ta) (he:∀ whole,isTrue a X.env whole=(do let v <- whole;standAt a.pos;holding [v] (truthy v))) :
  PT X a (λσ H Q=>ta σ H λx H'=>∃ k,mR X.K x H' k/\Q k H'):=by
 intro pins s σ H Q I h
 exact isTrue_plain (a8 (ha pins s σ H _ I h) λv s1 ⟨x,H1,I1,r1,q1⟩=>qt pins s1 σ H1 x v Q I1 r1 q1) (he _)
theorem vals1 {x:V} {us:List Value} (r:Vals [x] us):∃ u,us=[u]/\RelV x u:=by
 cases r with
 | cons r1 r2=>cases r2;exact⟨_,rfl,r1⟩
theorem vals2 {x y:V} {us:List Value} (r:Vals [x,y] us):∃ u w',us=[u,w']/\RelV x u/\RelV y w':=by
 cases r with
 | cons r1 r2 =>
  cases r2 with
  | cons r3 r4=>cases r4;exact⟨_,_,rfl,r1,r3⟩
theorem dF:cp X (.builtin "abs") (λxs H Q=>∃ i,xs=[.int i]/\Q (.int (if i<0 then -i else i)) H):=by
 intro pins s σ H xs us Q I r h
 obtain⟨i,rfl,q⟩:=h
 obtain⟨u,rfl,t,rfl⟩:=vals1 r
 exact call_abs_int λu tk=>⟨.int (if i<0 then -i else i),H,I.tok _,⟨_,rfl⟩,q⟩
theorem kh:cp X (.type "int") (λxs H Q=>(∃ i,xs=[.int i]/\Q (.int i) H)∨∃ k,xs=[.bl k]/\Q (.int (if k then 1 else 0)) H):=by
 intro pins s σ H xs us Q I r h
 rcases h with⟨i,rfl,q⟩|⟨k,rfl,q⟩
 ·obtain⟨u,rfl,t,rfl⟩:=vals1 r
  exact call_int_int ⟨.int i,H,I,⟨_,rfl⟩,q⟩
 ·obtain⟨u,rfl,r1⟩:=vals1 r
  cases r1
  exact call_int_bool ⟨.int (if k then 1 else 0),H,I.tok _,⟨_,rfl⟩,q⟩
end
structure ph (h:Heap) (x dx C:Addr) (mA:Str->Option Value):Prop where
 obj:h.get? x=some (PySem.W.instObj C dx)
 ns:h.Ns1 dx mA
 ne:dx≠x
theorem f6 {h:Heap} {dx:Addr} {mA:Str->Option Value} (n:h.Ns1 dx mA):∃ od,h.get? dx=some od/\∀ name,PySem.W.lookIn name od=some (mA name):=by
 obtain⟨o,es,ep,ho,hd,hk,_,hm⟩:=n
 refine⟨o,ho,λname=>?_⟩
 have e:=hm name
 unfold nsFind findBy at e
 rw [<- Array.find?_toList] at e
 unfold PySem.W.lookIn
 rw [hd]
 dsimp only
 split
 ·rename_i y q
  rw [q] at e
  exact congrArg some e
 ·rename_i q
  rw [q] at e
  have a:es.toList.any (·.refKey)=false:=by
   rw [List.any_eq_false]
   intro y hy
   obtain⟨z,t,hkey⟩:=hk y (Array.mem_toList_iff.mp hy)
   simp [DictEntry.refKey,hkey]
  have a':¬es.toList.any (·.refKey)=true:=by rw [a];exact Bool.false_ne_true
  rw [if_neg a']
  exact congrArg some e
theorem ph.look {h:Heap} {x dx C:Addr} {mA:Str->Option Value} (I:ph h x dx C mA):∃ od,PySem.W.InstAt h x (PySem.W.instObj C dx) C (some od)/\∀ name,PySem.W.lookIn name od=some (mA name) :=
 let ⟨od,ho,hl⟩:=f6 I.ns
 ⟨od,⟨I.obj,rfl,rfl,ho⟩,hl⟩
section
variable {prog:Program} {w:World} {A:Around} {E:Value->Shared->Prop} {s:Shared} {K:PySem.W.Frag} {x dx C f:Addr} {mA:Str->Option Value} {name:Str} {v:Value}
end
theorem fG.some_of {v:V} {o:Option Value} (r:fG (some v) o):∃ u,o=some u/\RelV v u:=by
 cases o with
 | none=>exact (show False from r).elim
 | some u=>exact⟨u,rfl,r⟩
theorem kr {v:V} {u:Value} (r:RelV v u):PySem.W.handedIn u=true:=by
 cases v with
 | non=>cases (show u=Value.none from r);rfl
 | bl b=>cases (show u=Value.bool b from r);rfl
 | int i=>obtain⟨t,e⟩:=(show ∃ t,u=Value.int i t from r);cases e;rfl
 | str x=>obtain⟨t,e⟩:=(show ∃ t,u=Value.str x t from r);cases e;rfl
 | byt b=>obtain⟨t,e⟩:=(show ∃ t,u=Value.bytes b t from r);cases e;rfl
 | flt b=>obtain⟨t,e⟩:=(show ∃ t,u=Value.float b t from r);cases e;rfl
 | ref a=>cases (show u=Value.ref a from r);rfl
 | ty n=>cases (show u=Value.type n from r);rfl
section
variable {P:Program} {w:World} {H H':Hp} {h h':Heap} {a C dx:Addr} {fs fs':List (Str × V)}
theorem m9 (hok:dh P w H h) (e:H a=some (.ins C dx fs)):∃ mA,ph h a dx C mA/\(∀ f,fG (fs.lookup f) (mA f))/\PySem.Within mA (fs.map (·.1))/\fs.length<=1000/\H dx=some (.own a):=by
 obtain⟨d,z,ne,ob,mA,n,r,q⟩:=(show aY P w H h a (.ins C dx fs) from hok a _ e)
 exact⟨mA,⟨ob,n,ne⟩,r,q,z,d⟩
end
structure r8 (K:PySem.W.Frag) (C:Addr):Prop where
 pg:PySem.W.plainGet K C Str.empty=true
 hd:PySem.W.hasDictIn K C=true
 po:PySem.W.plainOver K C=true
 sa:PySem.W.findIn K (.ref C) "__setattr__"=some (some (.builtin "object.__setattr__"))
theorem r8.get {K:PySem.W.Frag} {C:Addr} (c:r8 K C) (f:Str):PySem.W.plainGet K C f=true:=c.pg
section
variable {X:Cx} {pins:List (Addr × Obj)} {σ:St} {H:Hp} {s:Shared} {a C dx:Addr} {fs:List (Str × V)} {f:Str} {v:V} {A:Around} {E:Value->Shared->Prop}
theorem mW {prog:Program} {w:World} {env:Env} {e:Expr} {f:Str} {pos:Pos} {s:Shared} {Q:Value->Shared->Prop} (hb:attributeBase e f env (eval e env)=eval e env)
  (h:wpAny (model prog w) A (eval e env) (λo s₁=>wpAny (model prog w) A (getAttr o f true) Q E s₁) E s):wpAny (model prog w) A (eval (.Attribute e f pos) env) Q E s :=
 Attribute_any_ h (by rw [arm_eval_Attribute,hb])
end
section
variable {X:Cx} {o e value:Expr} {f:Str} {pos pos' tpos:Pos} {ta tv:TE}
end
section
variable {X:Cx} {pins:List (Addr × Obj)} {σ:St} {H:Hp} {s:Shared} {A:Around} {E:Value->Shared->Prop} {Q:Value->Shared->Prop} {c:Value} {b:Bool}
inductive dg (K:PySem.W.Frag) (H:Hp):V->Value->Prop where
 | non:dg K H .non (.type "NoneType")
 | bl (x:Bool):dg K H (.bl x) (.type "bool")
 | int (i:Int):dg K H (.int i) (.type "int")
 | str (x:Str):dg K H (.str x) (.type "str")
 | flt (x:UInt64):dg K H (.flt x) (.type "float")
 | lst {a:Addr} {xs:List V} (e:H a=some (.lst xs)):dg K H (.ref a) (.type "list")
 | frz {a:Addr} {o:Obj} {xs:List V} (e:H a=some (.frz o (.lst xs))):dg K H (.ref a) (.type "list")
 | tup {a:Addr} {xs:List V} (e:H a=some (.tup xs)):dg K H (.ref a) (.type "tuple")
 | dK {a:Addr} {kvs:List (Key × V)} (e:H a=some (.dK kvs)):dg K H (.ref a) (.type "dict")
 | dT {a:Addr} {kvs:List (List Key × V)} (e:H a=some (.dT kvs)):dg K H (.ref a) (.type "dict")
 | ins {a C dx:Addr} {fs:List (Str × V)} (e:H a=some (.ins C dx fs)) (cl:r8 K C) (ha:PySem.W.findIn K (.ref C) "__class__"=some (some (.builtin "object.__class__")))
   (hn:PySem.W.specialIn K (.builtin "object.__class__") "__get__"=some (some (.builtin "getset_descriptor.__get__"))) (htk:PySem.W.takesIn K (.builtin "object.__class__")=some true)
   (hm:PySem.W.mroIn K C (.type "object")=some true):dg K H (.ref a) (.ref C)
theorem c9 {x:V} {u t:Value} (I:Inv X pins σ H s) (rx:RelV x u) (ty:dg X.K H x t) (e:PySem.W.kitOne X.K t c=some b) (h:∀ tk,Q (.bool b) { s with toks:=tk }) :
  wpAny (model X.prog X.w) A (call (.builtin "isinstance") [u,c]) Q E s:=by
 cases ty with
 | non=>cases (show u=Value.none from rx);exact PySem.W.kia_one PySem.W.kitx_none I.cU True.intro e (λz=>nomatch z) h
 | bl y=>cases (show u=Value.bool y from rx);exact PySem.W.kia_one PySem.W.kitx_bool I.cU True.intro e (λz=>nomatch z) h
 | int i=>obtain⟨t,q⟩:=(show ∃ t,u=Value.int i t from rx);cases q;exact PySem.W.kia_one PySem.W.kitx_int I.cU True.intro e (λz=>nomatch z) h
 | str y=>obtain⟨t,q⟩:=(show ∃ t,u=Value.str y t from rx);cases q;exact PySem.W.kia_one PySem.W.kitx_str I.cU True.intro e (λz=>nomatch z) h
 | flt y=>obtain⟨t,q⟩:=(show ∃ t,u=Value.float y t from rx);cases q;exact PySem.W.kia_one PySem.W.kitx_float I.cU True.intro e (λz=>nomatch z) h
 | @lst a xs ea =>
  cases (show u=Value.ref a from rx)
  obtain⟨_,_,n,_,h1⟩:=(show aY X.prog X.w H s.heap a (.lst xs) from I.hok a _ ea)
  exact PySem.W.kia_one PySem.W.kitx_list I.cU ⟨_,h1,rfl⟩ e (λz=>nomatch z) h
 | @frz a ob xs ea =>
  cases (show u=Value.ref a from rx)
  obtain⟨_,_,_,n,_,h1⟩:=(show aY X.prog X.w H s.heap a (.frz ob (.lst xs)) from I.hok a _ ea)
  exact PySem.W.kia_one PySem.W.kitx_list I.cU ⟨_,h1,rfl⟩ e (λz=>nomatch z) h
 | @tup a xs ea =>
  cases (show u=Value.ref a from rx)
  obtain⟨_,_,_,p⟩:=(show aY X.prog X.w H s.heap a (.tup xs) from I.hok a _ ea)
  obtain⟨o,h1,h2,_⟩:=p
  exact PySem.W.kia_one PySem.W.kitx_tuple I.cU ⟨o,h1,h2⟩ e (λz=>nomatch z) h
 | @dK a kvs ea =>
  cases (show u=Value.ref a from rx)
  obtain⟨_,_,vs,_,p⟩:=(show aY X.prog X.w H s.heap a (.dK kvs) from I.hok a _ ea)
  obtain⟨o,es,ep,h1,h2,_⟩:=p
  exact PySem.W.kia_one PySem.W.kitx_dict I.cU ⟨o,h1,h2.1⟩ e (λz=>nomatch z) h
 | @dT a kvs ea =>
  cases (show u=Value.ref a from rx)
  obtain⟨_,_,xs,_,o,es,ep,h1,h2,_⟩:=(show aY X.prog X.w H s.heap a (.dT kvs) from I.hok a _ ea)
  exact PySem.W.kia_one PySem.W.kitx_dict I.cU ⟨o,h1,h2.1⟩ e (λz=>nomatch z) h
 | @ins a C dx fs ea cl ha hn htk hm =>
  cases (show u=Value.ref a from rx)
  obtain⟨mA,O,_⟩:=m9 I.hok ea
  obtain⟨od,J,_⟩:=O.look
  exact PySem.W.kia_one (PySem.W.kitx_own (cl.get _) cl.hd ha hn htk hm) I.cU J e (λz=>nomatch z) h
end
structure bj (k:Nat) (A:Around):Prop where
 hd:A.handled=none
 dp:A.depth+3*k+5<recursionLimit
 un:A.units+16*k+200<cLine
 gs:A.guards=some []
theorem bj.mono {j k:Nat} {A:Around} (r:bj k A) (h:j<=k):bj j A:=⟨r.hd,by have:=r.dp;omega,by have:=r.un;omega,r.gs⟩
theorem bj.deeper {k:Nat} {A:Around} (r:bj (k+1) A) (env:Env):bj k (A.deeper env) :=
 ⟨r.hd,by have:=r.dp;show A.depth+1+3*k+5<_;omega,by have:=r.un;show A.units+3+16*k+200<_;omega,r.gs⟩
theorem jq {A:Around} {C:Addr} {us:List Value} {kw:List (Str × Value)}:(A.under (.builtin "type.__call__" ⟨.ref C::us,kw⟩)).depth=A.depth+1:=by
 first | rfl | simp [Around.under,Code.weight,Code.isCreation,Code.isGuard,Code.isCaller,Code.frames,Code.isFrame,guardIds]
theorem jr {A:Around} {C:Addr} {us:List Value} {kw:List (Str × Value)}:(A.under (.builtin "type.__call__" ⟨.ref C::us,kw⟩)).units=A.units+1:=by
 first | rfl | simp [Around.under,Code.cUnits,Code.frames,Code.isFrame]
theorem iM {A:Around} {C:Addr} {us:List Value} {kw:List (Str × Value)}:(A.under (.builtin "type.__call__" ⟨.ref C::us,kw⟩)).guards=A.guards:=by
 first | rfl | simp [Around.under,Code.weight,Code.isCreation,Code.isGuard,Code.isCaller,Code.frames,Code.isFrame,guardIds]
theorem bj.make {k:Nat} {A:Around} (r:bj (k+1) A) (C:Addr) (us:List Value) (kw:List (Str × Value)):bj k (A.under (.builtin "type.__call__" ⟨.ref C::us,kw⟩)) :=
 ⟨r.hd,by have:=r.dp;rw [jq];omega,by have:=r.un;rw [jr];omega,by rw [iM];exact r.gs⟩
theorem bj.depth {k:Nat} {A:Around} (r:bj k A):A.depth<recursionLimit:=by have:=r.dp;omega
theorem bj.units {k:Nat} {A:Around} (r:bj k A):A.units+64<cLine:=by have:=r.un;omega
def rH:TA:=λ_ H Q=>Q [] H
def oU (ta:TE) (tr:TA):TA:=λσ H Q=>ta σ H λx H1=>tr σ H1 λxs H2=>Q (x::xs) H2
section
variable {X:Cx} {e:Expr} {es:List Expr} {te:TE} {t:TA} {pos:Pos}
theorem ag:PA X [] rH:=λ_ _ _ _ H Q I h=>Calls.spliced_nil ⟨[],H,I,.nil,h⟩
theorem aa (ha:PE X e te) (hr:PA X es t) (hs:starEach (e::es) X.env=(false,eval e X.env)::starEach es X.env:=by rfl):PA X (e::es) (oU te t):=by
 intro pos pins s σ H Q I h
 rw [hs]
 show wpAny _ _ (spliced ((false,eval e X.env)::backTo pos (starEach es X.env))) _ _ s
 refine Calls.spliced_cons (a8 (ha pins s σ H _ I h) λu s1 ⟨x,H1,I1,r1,q1⟩=>?_)
 exact a8 (hr pos pins s1 σ H1 _ I1 q1) λus s2 ⟨xs,H2,I2,r2,q2⟩=>⟨x::xs,H2,I2,.cons r1 r2,q2⟩
def rP (t:TA):TE:=λσ H Q=>t σ H λxs H1=>xs.length<=sizeLine/\∀ p,H1 p=none->Q (.ref p) (upd H1 p (.tup xs))
def rG (t:TA):TE:=λσ H Q=>t σ H λxs H1=>xs.length<=sizeLine/\∀ p,H1 p=none->Q (.ref p) (upd H1 p (.lst xs))
theorem d6 {x1} (h:PA X es t):PE X (.Tuple es x1 pos) (rP t):=by
 intro pins s σ H Q I hq
 refine wpAny_Tuple_spliced (a8 (h pos pins s σ H _ I hq) λus s1 ⟨xs,H1,I1,r,z,q⟩=>⟨by rw [<- r.length];exact z,?_⟩)
 have hf:H1 s1.heap.objs.size=none:=I1.hok.fresh (Nat.le_refl _)
 refine⟨.ref s1.heap.objs.size,upd H1 s1.heap.objs.size (.tup xs),I1.laid (t':=s1.toks) (λb u e=>Heap.get?_push_of_some _ e) (Nat.le_refl _) ?_,rfl,q _ hf⟩
 exact⟨z,us,r,⟨_,Heap.get?_push_size _ rfl,rfl,_,rfl⟩⟩
theorem bU (h:PA X es t):PE X (.List es pos) (rG t):=by
 intro pins s σ H Q I hq
 refine wpAny_List_spliced (a8 (h pos pins s σ H _ I hq) λus s1 ⟨xs,H1,I1,r,z,q⟩=>⟨by rw [<- r.length];exact z,?_⟩)
 have hf:H1 s1.heap.objs.size=none:=I1.hok.fresh (Nat.le_refl _)
 refine⟨.ref s1.heap.objs.size,upd H1 s1.heap.objs.size (.lst xs),I1.laid (t':=s1.toks) (λb u e=>Heap.get?_push_of_some _ e) (Nat.le_refl _) ?_,rfl,q _ hf⟩
 exact⟨z,us,0,r,Heap.get?_push_size _ rfl⟩
end
abbrev Sp:=List V->Hp->VK->XK->Prop
abbrev fF:=List Env->Hp->Shared->XK->Value->Shared->Prop
structure i6 (P:Program) (w:World) (K:PySem.W.Frag) (mg:Str->Option Value) (base:Heap) (A:Around) (outer:List Env) (s:Shared) (H:Hp):Prop where
 frames:A.frames=some outer
 mod:Mod K mg base
 bs:∀ b o,base.get? b=some o->s.heap.get? b=some o/\H b=none
 bsz:base.objs.size<=s.heap.objs.size
 d4:s.heap.FunFrames base outer
 frf:∀ b∈cQ outer,H b=none
 hok:dh P w H s.heap
 bare:AllBare s.gens
def CE (outer:List Env) (P:Program) (w:World) (H:Hp) (s:Shared) (Q:VK) (u:Value) (s':Shared):Prop :=
 ∃ v H',s'.os=s.os/\AllBare s'.gens/\Un (cQ outer) [] H H' s.heap s'.heap/\dh P w H' s'.heap/\RelV v u/\Q v H'
def CR (CX:fF) (outer:List Env) (P:Program) (w:World) (H:Hp) (s:Shared) (Q:VK) (E:XK) (r:Result) (s':Shared):Prop :=
 match r with
 | .ok (.ret u)=>CE outer P w H s Q u s'
 | .ok _=>False
 | .error e=>CX outer H s E e s'
structure bN (P:Program) (w:World) (K:PySem.W.Frag) (mg:Str->Option Value) (base:Heap) (CX:fF) (k:Nat) (f:Addr) (fd:FuncData) (ps:List Str) (sp:Sp):Prop where
 len:∀ vs H Q E,sp vs H Q E->vs.length=ps.length
 run:∀(A:Around) (outer:List Env) (s:Shared) (H:Hp) (args:Args) (us:List Value) (vs:List V) (Q:VK) (E:XK),bj k A->i6 P w K mg base A outer s H->BindsTo s fd args (ps.zip us)->Vals vs us->sp vs H Q E ->
  codeAny (model P w) A (.call (.ref f) args) (CR CX outer P w H s Q E) s
theorem bN.mono {P:Program} {w:World} {K:PySem.W.Frag} {mg:Str->Option Value} {base:Heap} {CX:fF} {j k:Nat} {f:Addr} {fd:FuncData} {ps:List Str} {sp:Sp} (F:bN P w K mg base CX j f fd ps sp) (h:j<=k) :
  bN P w K mg base CX k f fd ps sp:=⟨F.len,λA outer s H args us vs Q E hr=>F.run A outer s H args us vs Q E (hr.mono h)⟩
theorem bN.imp {P:Program} {w:World} {K:PySem.W.Frag} {mg:Str->Option Value} {base:Heap} {CX:fF} {k:Nat} {f:Addr} {fd:FuncData} {ps:List Str} {sp sp':Sp} (F:bN P w K mg base CX k f fd ps sp)
  (h:∀ vs H Q E,sp' vs H Q E->sp vs H Q E):bN P w K mg base CX k f fd ps sp' :=
 ⟨λvs H Q E q=>F.len vs H Q E (h _ _ _ _ q),λA outer s H args us vs Q E hr he hb hv hs=>F.run A outer s H args us vs Q E hr he hb hv (h _ _ _ _ hs)⟩
theorem i6.make {P:Program} {w:World} {K:PySem.W.Frag} {mg:Str->Option Value} {base:Heap} {A:Around} {outer:List Env} {s:Shared} {H:Hp} (e:i6 P w K mg base A outer s H) (C:Addr) (us:List Value) (kw:List (Str × Value)) :
  i6 P w K mg base (A.under (.builtin "type.__call__" ⟨.ref C::us,kw⟩)) outer s H:=⟨by first | exact e.frames | (simpa [Around.under,Code.envs,Code.isFrame,pushEnvs] using e.frames),e.mod,e.bs,e.bsz,e.d4,e.frf,e.hok,e.bare⟩
section
variable {X:Cx} {pins:List (Addr × Obj)} {σ:St} {H:Hp} {s s':Shared}
theorem Inv.pL (I:Inv X pins σ H s):i6 X.prog X.w X.K X.mg X.base X.A X.stack s H :=
 ⟨I.ok.frames,I.ok.mod,I.bs,Nat.le_trans I.ok.bsz I.sz,I.stack,I.cJ,I.hok,I.bare⟩
theorem Inv.after {Q:VK} {u:Value} (I:Inv X pins σ H s) (h:CE X.stack X.prog X.w H s Q u s'):EP X pins σ Q u s':=by
 obtain⟨v,H',os,bare,un,hok,r,q⟩:=h
 obtain⟨hh,g,d,t,os'⟩:=s'
 obtain rfl:os'=s.os:=os
 exact⟨v,H',I.call (h':=hh) (g':=g) (d':=d) (t':=t) (ch:=[]) un hok bare (λb z=>absurd z (by simp)),r,q⟩
end
def ka (sp:Sp) (bH:List V) (E:XK) (t:TA):TE:=λσ H Q=>t σ H λvs H1=>sp (vs++bH) H1 Q E
def Binds (K:PySem.W.Frag) (fd:FuncData) (ps:List Str) (ds:List Value):Prop :=
 ∀(s:Shared) (us:List Value),K.In s.heap->(us++ds).length=ps.length->BindsTo s fd ⟨us,[]⟩ (ps.zip (us++ds))
theorem Binds.all {K:PySem.W.Frag} {fd:FuncData} {ps:List Str} (h:∀ us:List Value,us.length=ps.length->bindArgs fd ⟨us,[]⟩=pure (ps.zip us)):Binds K fd ps []:=λs us _ hl=>by
 rw [List.append_nil] at hl ⊢
 exact .of_eq (h us hl)
def Passes (CX:fF) (X:Cx) (E:XK):Prop:=∀(pins:List (Addr × Obj)) (σ:St) (H:Hp) (s:Shared) (e:Value) (s':Shared),Inv X pins σ H s->CX X.stack H s E e s'->X.xe e s'
section
variable {X:Cx} {CX:fF} {k:Nat} {f C:Addr} {fd:FuncData} {ps:List Str} {sp:Sp} {bH:List V} {ds:List Value} {E:XK} {x m:Str} {p pos apos:Pos} {e o:Expr} {es:List Expr} {ta:TE} {t:TA}
theorem qh {pins:List (Addr × Obj)} {σ:St} {H:Hp} {s:Shared} {Q:VK} {us:List Value} {vs:List V} (F:bN X.prog X.w X.K X.mg X.base CX k f fd ps sp) (hr:bj k X.A) (hb:Binds X.K fd ps ds) (hd:Vals bH ds) (hx:Passes CX X E)
  (I:Inv X pins σ H s) (r:Vals vs us) (h:sp (vs++bH) H Q E):wpAny (model X.prog X.w) X.A (call (.ref f) us) (EP X pins σ Q) X.xe s:=by
 have r2:Vals (vs++bH) (us++ds):=r.append hd
 have hl:(us++ds).length=ps.length:=by rw [<- r2.length];exact F.len _ _ _ _ h
 refine wpAny_call (codeAny_mono (F.run X.A X.stack s H ⟨us,[]⟩ (us++ds) (vs++bH) Q E hr I.pL (hb s us I.cU hl) r2 h) λr s' hq=>?_)
 cases r with
 | error e=>exact hx pins σ H s e s' I hq
 | ok fl =>
  cases fl with
  | ret u=>exact I.after hq
  | next=>exact False.elim hq
  | brk=>exact False.elim hq
  | cont=>exact False.elim hq
theorem nM (F:bN X.prog X.w X.K X.mg X.base CX k f fd ps sp) (hr:bj k X.A) (hg:Gl X x) (hm:X.mg x=some (.ref f)) (hk:PySem.W.keepIn X.K (.ref f)=true) (hb:Binds X.K fd ps ds) (hd:Vals bH ds) (hx:Passes CX X E)
  (ha:PA X (e::es) t) (hdb:(x==("__debug__":Str))=false:=by decide) (he:starEach (e::es) X.env=(false,eval e X.env)::starEach es X.env:=by rfl) (hpl:(backTo pos (starEach es X.env)).any (·.1)=false:=by rfl) :
  PE X (.Call (.Name x p) (e::es) [] pos) (ka sp bH E t):=by
 intro pins s σ H Q I h
 refine wpAny_Call_Name_kw (dc I hg hm ?_ hdb)
 refine PySem.W.callWith_K (h₀:=X.base) I.ok.mod.kin hk (a8 (ha pos pins s σ H _ I h) λus s1 ⟨vs,H1,I1,r,q⟩=>⟨I1.cU,?_⟩) he hpl
 exact qh F hr hb hd hx I1 r q
end
section
variable {X:Cx} {CX:fF} {k:Nat} {f C:Addr} {fd:FuncData} {ps ks:List Str} {sp:Sp} {E:XK} {x m:Str} {p pos apos kpos:Pos} {e o:Expr} {es:List Expr} {kws:List Keyword} {te ta:TE} {t tk:TA} {nm:Option Str}
variable {g:List Value->List Value->List Value} {gV:List V->List V->List V}
end
structure ay (N P:List Str) (sc:Scope):Prop where
 kind:sc.kind=.function
 co:sc.isCoroutine=false
 gen:sc.isGenerator=false
 nd:N.Nodup
 pre:N.take P.length=P
 par:∀ x∈P,sc.names.lookup x=some .local∨sc.names.lookup x=some .cell
 nofree:∀ y∈sc.names,y.2≠.free
theorem fU {kindOf:Str->Option NameKind} {x:Str}:∀{binds:List (Str × Value)} {m:Str->Option Value},(∀ v,(x,v)∉binds)->bindL kindOf binds m x=m x
 | [],_,_=>rfl
 | (n,v)::r,m,h=>by
  unfold bindL
  rw [fU λw hw=>h w (List.mem_cons_of_mem _ hw)]
  split
  ·have:x≠n:=by rintro rfl;exact h v List.mem_cons_self
   simp [this]
  ·rfl
theorem fR {kindOf:Str->Option NameKind} {x:Str}:∀{binds:List (Str × Value)} {m:Str->Option Value},(∀ v,(x,v)∉binds)->bindC kindOf binds m x=m x
 | [],_,_=>rfl
 | (n,v)::r,m,h=>by
  unfold bindC
  rw [fR λw hw=>h w (List.mem_cons_of_mem _ hw)]
  split
  ·rfl
  ·have:x≠n:=by rintro rfl;exact h v List.mem_cons_self
   simp [this]
theorem fS {kindOf:Str->Option NameKind} {x:Str} {v:Value}:∀{P:List Str} {vs:List Value} {i:Nat} {m:Str->Option Value},P.Nodup->P[i]?=some x->vs[i]?=some v->kindOf x=some .local ->
  bindL kindOf (P.zip vs) m x=some v
 | [],_,_,_,_,h,_,_=>by simp at h
 | _::_,[],_,_,_,_,h,_=>by simp at h
 | p::P,w::vs,0,m,nd,h1,h2,hk=>by
  simp at h1 h2;subst h1;subst h2
  show bindL kindOf ((p,w)::P.zip vs) m p=_
  unfold bindL
  rw [fU λv hv=>(List.nodup_cons.mp nd).1 (List.of_mem_zip hv).1,if_pos hk]
  simp
 | p::P,w::vs,i+1,m,nd,h1,h2,hk=>by
  show bindL kindOf ((p,w)::P.zip vs) m x=_
  unfold bindL
  exact fS (i:=i) (List.nodup_cons.mp nd).2 (by simpa using h1) (by simpa using h2) hk
theorem fQ {kindOf:Str->Option NameKind} {x:Str} {v:Value}:∀{P:List Str} {vs:List Value} {i:Nat} {m:Str->Option Value},P.Nodup->P[i]?=some x->vs[i]?=some v->kindOf x≠some .local ->
  bindC kindOf (P.zip vs) m x=some v
 | [],_,_,_,_,h,_,_=>by simp at h
 | _::_,[],_,_,_,_,h,_=>by simp at h
 | p::P,w::vs,0,m,nd,h1,h2,hk=>by
  simp at h1 h2;subst h1;subst h2
  show bindC kindOf ((p,w)::P.zip vs) m p=_
  unfold bindC
  rw [fR λv hv=>(List.nodup_cons.mp nd).1 (List.of_mem_zip hv).1,if_neg hk]
  simp
 | p::P,w::vs,i+1,m,nd,h1,h2,hk=>by
  show bindC kindOf ((p,w)::P.zip vs) m x=_
  unfold bindC
  exact fQ (i:=i) (List.nodup_cons.mp nd).2 (by simpa using h1) (by simpa using h2) hk
def start (N:List Str) (vs:List V):St:=vs.map some++List.replicate (N.length-vs.length) none
def cF (CX:fF) (P:Program) (w:World) (K:PySem.W.Frag) (mg:Str->Option Value) (base:Heap) (N:List Str) (qual:Str) (scope:Scope) (f:Addr) (cd:Value) (A:Around) (outer:List Env) (s:Shared) (H:Hp) (E:XK):Cx where
 prog:=P
 w:=w
 K:=K
 mg:=mg
 base:=base
 A:=A.deeper (envOfC qual scope s.heap.objs.size f cd)
 N:=N
 s₀:=s
 H₀:=H
 env:=envOfC qual scope s.heap.objs.size f cd
 outer:=outer
 stack:=envOfC qual scope s.heap.objs.size f cd::outer
 ex:=[]
 calm:=true
 fn:=λ_=>true
 pn:=[]
 xe:=λe s'=>wpAny (model P w) (A.deeper (envOfC qual scope s.heap.objs.size f cd)) (leaving (envOfC qual scope s.heap.objs.size f cd) e) (λ_ s''=>CX outer H s E e s'') (λe' s''=>CX outer H s E e' s'') s'
theorem ix {sc:Scope} {n:Nat} {x:Str} (h:sc.names.lookup x=some .cell):∃ c,(cellsFrom n sc.names []).lookup x=some c:=by
 have q:=PySem.W.cellsFrom_some sc.names n [] (.inl h)
 exact Option.isSome_iff_exists.mp q
theorem kA {CX:fF} {P:Program} {w:World} {K:PySem.W.Frag} {mg:Str->Option Value} {base:Heap} {N ps:List Str} {qual:Str} {scope:Scope} {f:Addr} {cd:Value} {A:Around} {outer:List Env} {s s1:Shared} {H:Hp} {E:XK} {us:List Value} {vs:List V}
  (S:ay N ps scope) (hd:A.handled=none) (e0:i6 P w K mg base A outer s H) (hl:vs.length=ps.length) (r:Vals vs us)
  (x:InCallC s s.heap.objs.size (bindL (envOfC qual scope s.heap.objs.size f cd).kindOf (ps.zip us) λ_=>none) (cellsFrom (s.heap.objs.size+1) scope.names []) (bindC (envOfC qual scope s.heap.objs.size f cd).kindOf (ps.zip us) λ_=>none) s1) :
  Inv (cF CX P w K mg base N qual scope f cd A outer s H E) [] (start N vs) H s1:=by
 have hpl:ps.length<=N.length:=by have:=congrArg List.length S.pre;rw [List.length_take] at this;omega
 obtain⟨h1,tk,rfl,hk⟩:=x.done
 have noA:∀ b:Addr,b∉(cF CX P w K mg base N qual scope f cd A outer s H E).ex:=λb z=>absurd (show b∈([]:List Addr) from z) (by simp)
 refine⟨⟨e0.mod,S.kind,rfl,rfl,Nat.le_refl _,λy z c h1 h2=>?_,λy hy=>?_,λy c _ h=>?_,λ_=>hd,Around.frames_deeper e0.frames,.inr ⟨rfl,rfl⟩,λb z=>absurd z (noA b),e0.bs,e0.bsz,λb _ _=>noA b,λb z=>absurd z (noA b),e0.d4,e0.frf⟩,
  rfl,e0.bare,Un.kept hk,⟨_,x.toInCall.ns,λi y v h1 h2 h3=>?_⟩,λy c h=>⟨_,x.cell y c h⟩,e0.hok.fresh (Nat.le_refl _),λy c h=>?_,λp hp=>absurd (show p∈([]:List (Addr × Obj)) from hp) (by simp),e0.hok.kept hk,?_⟩
 ·exact name_of_addr x.apart (PySem.mem_of_lookup h1) (PySem.mem_of_lookup h2)
 ·have hy:scope.names.lookup y=some .cell∨scope.names.lookup y=some .free:=hy
  rcases hy with hy | hy
  ·exact ix hy
  ·exact absurd rfl (S.nofree _ (PySem.mem_of_lookup hy))
 ·exact Nat.le_of_lt (x.above y c (PySem.mem_of_lookup h))
 ·have hi:i<vs.length:=by
   unfold start at h2
   by_cases hi:i<vs.length
   ·exact hi
   ·rw [List.getElem?_append_right (by simpa using hi)] at h2
    rw [List.getElem?_replicate] at h2
    split at h2<;>cases h2
  have ha:vs[i]?=some v:=by
   unfold start at h2
   rw [List.getElem?_append_left (by simpa using hi),List.getElem?_map] at h2
   cases e:vs[i]? with
   | none=>rw [e] at h2;cases h2
   | some a=>rw [e] at h2;cases h2;rfl
  obtain⟨u,hu,rv⟩:=r.get ha
  have hp:ps[i]?=some y:=by
   rw [<- S.pre,List.getElem?_take_of_lt (by omega)];exact h1
  have ndP:ps.Nodup:=by rw [<- S.pre];exact S.nd.sublist (List.take_sublist _ _)
  refine⟨u,rv,?_⟩
  rcases S.par y (List.mem_of_getElem? hp) with k | k
  ·exact .inl ⟨k,fS ndP hp hu k⟩
  ·obtain⟨c,e⟩:=ix (n:=s.heap.objs.size+1) k
   refine .inr ⟨.inl k,c,e,?_⟩
   have q:=x.cell y c e
   rw [fQ ndP hp hu (by show scope.names.lookup y≠_;rw [k];decide)] at q
   exact q
 ·exact e0.hok.fresh (Nat.le_of_lt (x.above y c (PySem.mem_of_lookup h)))
 ·unfold start
  show _=N.length
  rw [List.length_append,List.length_map,List.length_replicate]
  omega
theorem oE {CX:fF} {P:Program} {w:World} {K:PySem.W.Frag} {mg:Str->Option Value} {base:Heap} {k:Nat} {f:Addr} {name qual:Str} {params:Arguments} {body:List Stmt} {scope:Scope} {dV kV doc pm cdv ct oc:Value} {an od:Option Addr}
  {osl:Array (Option Value)} {N ps:List Str} {sp:Sp} (lk:K.lookup f=some ⟨oc,od,.func (PySem.W.fnOf name qual params body scope dV kV doc pm an cdv ct),osl⟩) (hcd:PySem.W.codeIn K cdv qual=true) (S:ay N ps scope)
  (len:∀ vs H Q E,sp vs H Q E->vs.length=ps.length)
  (hbody:∀(A:Around) (outer:List Env) (s:Shared) (H:Hp) (vs:List V) (Q:VK) (E:XK),bj k (A.deeper (envOfC qual scope s.heap.objs.size f cdv))->sp vs H Q E ->
   ∃ t,eA (cF CX P w K mg base N qual scope f cdv A outer s H E) body t/\t { nx:=λ_ H'=>Q .non H',rt:=Q } (start N vs) H) :
  bN P w K mg base CX (k+1) f (PySem.W.fnOf name qual params body scope dV kV doc pm an cdv ct) ps sp:=by
 refine⟨len,λA outer s H args us vs Q E hr e0 hb r hsp=>?_⟩
 have hl:=len _ _ _ _ hsp
 have KX:K.In s.heap:=e0.mod.kin.keeps λb o e=>(e0.bs b o e).1
 have lim:s.heap.NoLimit:=e0.mod.nolimit.keeps λb o e=>(e0.bs b o e).1
 have hkind:∀ y∈ps.zip us,scope.names.lookup y.1=some .local∨(scope.names.lookup y.1=some .cell/\((cellsFrom (s.heap.objs.size+1) scope.names []).lookup y.1).isSome=true):=fun⟨n,v⟩ hy=>by
  rcases S.par n (List.of_mem_zip hy).1 with q | q
  ·exact .inl q
  ·exact .inr ⟨q,PySem.W.cellsFrom_some _ _ _ (.inl q)⟩
 refine codeAny_call_function hr.depth (KX _ _ lk) rfl S.co S.gen rfl (PySem.W.codeRec_of KX hcd) (hb _ _ _ _ ?_)
 refine wpAny_newFunctionEnv_cells S.kind hkind λenv he s1 x=>?_
 subst he
 refine⟨lim.keeps x.toInCall.keep,codeAny_func ?_⟩
 obtain⟨t,ht,hq⟩:=hbody A outer s H vs Q E (hr.deeper _) hsp
 have I:Inv (cF CX P w K mg base N qual scope f cdv A outer s H E) [] (start N vs) H s1:=kA S hr.hd e0 hl r x
 refine wpAny_mono (ht [] s1 (start N vs) H _ I hq) (λfl s' hs=>?_) λe s' hs=>hs
 have fin:∀{σ':St} {H':Hp} {v:V} {u:Value},Inv (cF CX P w K mg base N qual scope f cdv A outer s H E) [] σ' H' s'->RelV v u->Q v H'->CE outer P w H s Q u s' :=
  λ{σ' H' v u} J rv q=>⟨v,H',J.os,J.bare,J.base,J.hok,rv,q⟩
 cases fl with
 | ret u =>
  obtain⟨v,σ',H',J,rv,q⟩:=hs
  exact fin J rv q
 | next =>
  obtain⟨σ',H',J,q⟩:=hs
  exact fin (v:=V.non) (u:=Value.none) J rfl q
 | brk =>
  obtain⟨_,_,_,q⟩:=hs
  exact False.elim q
 | cont =>
  obtain⟨_,_,_,q⟩:=hs
  exact False.elim q
section
variable {X:Cx} {x:Str} {p pos:Pos} {e:Expr} {es:List Expr} {t:TA} {id T:String} {r:List V->Hp->VK->Prop}
def sN (r:List V->Hp->VK->Prop) (t:TA):TE:=λσ H Q=>t σ H λvs H1=>r vs H1 Q
theorem aB (hc:cp X (.builtin id) r) (hg:Gl X x) (hm:X.mg x=none) (hv:bootBuiltins x=some (.builtin id)) (ha:PA X (e::es) t) (hn:x ≠ "__name__":=by decide) (hdb:(x==("__debug__":Str))=false:=by decide)
  (he:starEach (e::es) X.env=(false,eval e X.env)::starEach es X.env:=by rfl) (hpl:(backTo pos (starEach es X.env)).any (·.1)=false:=by rfl):PE X (.Call (.Name x p) (e::es) [] pos) (sN r t):=by
 intro pins s σ H Q I h
 refine wpAny_Call_Name_kw (fc I hg hm hv ?_ hn hdb)
 exact PyProof.Rows.callWith_builtin1 (a8 (ha pos pins s σ H _ I h) λus s1 ⟨vs,H1,I1,r1,q1⟩=>hc pins s1 σ H1 vs us Q I1 r1 q1) he hpl
theorem gj (hc:cp X (.type T) r) (hg:Gl X x) (hm:X.mg x=none) (hv:bootBuiltins x=some (.type T)) (ha:PA X (e::es) t) (hn:x ≠ "__name__":=by decide) (hdb:(x==("__debug__":Str))=false:=by decide)
  (he:starEach (e::es) X.env=(false,eval e X.env)::starEach es X.env:=by rfl) (hpl:(backTo pos (starEach es X.env)).any (·.1)=false:=by rfl):PE X (.Call (.Name x p) (e::es) [] pos) (sN r t):=by
 intro pins s σ H Q I h
 refine wpAny_Call_Name_kw (fc I hg hm hv ?_ hn hdb)
 exact PyProof.Rows.callWith_type1 (a8 (ha pos pins s σ H _ I h) λus s1 ⟨vs,H1,I1,r1,q1⟩=>hc pins s1 σ H1 vs us Q I1 r1 q1) he hpl
end
end L2
namespace HT
open PySem PyProof.Rows
section
open PySem.SeqAt
open PySem.AutoSeq1 (wpAny_loadPart')
open PySem.MeetsSeq PySem.MeetsSeq2 PySem.MeetsSeq3
end
section
variable {prog:Program} {w:World} {A:Around} {E:Value->Shared->Prop} {s:Shared}
def jD (n d:Nat):Option Int->Nat
 | none=>d
 | some v=>if v<0 then (v+(n:Int)).toNat else min v.toNat n
end
end HT
namespace L2
open PySem PySem.Spec PyProof.Rows
abbrev TO:=St->Hp->(Option Int->Hp->Prop)->Prop
def PO (X:Cx) (e:Option Expr) (t:TO):Prop :=
 ∀(pins:List (Addr × Obj)) (s:Shared) (σ:St) (H:Hp) (Q:Option Int->Hp->Prop),Inv X pins σ H s->t σ H Q ->
  wpAny (model X.prog X.w) X.A (evalPart e X.env) (λu s'=>∃ o H',Inv X pins σ H' s'/\IsPart u o/\Q o H') X.xe s
def kc:TO:=λ_ H Q=>Q none H
def o6 (t:TE):TO:=λσ H Q=>t σ H λx H1=>∃ i,x=.int i/\Q (some i) H1
section
variable {X:Cx} {e:Expr} {te:TE} {lo hi:Option Expr} {tl th:TO} {pos p2:Pos}
theorem nP:PO X none kc:=by
 intro pins s σ H Q I h
 rw [evalPart_none]
 exact wpAny_pure ⟨none,H,I,.none,h⟩
theorem nQ (h:PE X e te):PO X (some e) (o6 te):=by
 intro pins s σ H Q I hw
 rw [evalPart_some]
 refine a8 (h pins s σ H _ I hw) λu s1 ⟨x,H1,I1,r1,q1⟩=>?_
 obtain⟨i,rfl,q⟩:=q1
 obtain⟨t,rfl⟩:=r1
 exact⟨some i,H1,I1,.int i t,q⟩
def sX (X:Cx) (r:V->Option Int->Option Int->Hp->VK->Prop):Prop :=
 ∀(pins:List (Addr × Obj)) (s:Shared) (σ:St) (H:Hp) (x:V) (v vl vu:Value) (lo hi:Option Int) (sl:Addr) (Q:VK),Inv X pins σ H s->RelV x v->s.heap.IsSliceOf sl vl vu .none->IsPart vl lo->IsPart vu hi->r x lo hi H Q ->
  ∃ T id,typeLookup (.type T) "__getitem__"=pure (some (.builtin id))/\s.TypeIs v T/\wpAny (model X.prog X.w) X.A (getItem v (.ref sl)) (EP X pins σ Q) X.xe s
def tF (r:V->Option Int->Option Int->Hp->VK->Prop) (te:TE) (tl th:TO):TE:=λσ H Q=>te σ H λx H1=>tl σ H1 λl H2=>th σ H2 λu H3=>r x l u H3 Q
theorem md {r:V->Option Int->Option Int->Hp->VK->Prop} (hr:sX X r) (he:PE X e te) (hl:PO X lo tl) (hu:PO X hi th):PE X (.Subscript e (.Slice lo hi none p2) pos) (tF r te tl th):=by
 intro pins s σ H Q I h
 refine Subscript_ (a8 (he pins s σ H _ I h) λv s1 ⟨x,H1,I1,r1,q1⟩=>?_)
 refine wpAny_Slice (a8 (hl pins s1 σ H1 _ I1 q1) λvl s2 ⟨l,H2,I2,pl,q2⟩=>a8 (hu pins s2 σ H2 _ I2 q2) λvu s3 ⟨u,H3,I3,pu,q3⟩=>?_)
 rw [evalPart_none]
 refine wpAny_pure ?_
 have I4:Inv X pins σ H3 { s3 with heap:=s3.heap.push { cls:=.type "slice",data:=.fields #[vl,vu,.none] } }:=I3.kept (t':=s3.toks) λb ob q=>Heap.get?_push_of_some _ q
 obtain⟨T,id,hT,ht,hg⟩:=hr pins { s3 with heap:=s3.heap.push { cls:=.type "slice",data:=.fields #[vl,vu,.none] } } σ H3 x v vl vu l u s3.heap.objs.size Q I4 r1 (Heap.IsSliceOf.new ..) pl pu q3
 show wpAny (model X.prog X.w) X.A (subscriptTail e (.Slice lo hi none p2) v (.ref s3.heap.objs.size)) (EP X pins σ Q) X.xe { s3 with heap:=s3.heap.push { cls:=.type "slice",data:=.fields #[vl,vu,.none] } }
 exact tail_any (ops:=[.ref s3.heap.objs.size,v]) ht hT hg (by with_unfolding_all rfl)
def iz (xs:List V) (lo hi:Option Int):List V:=(xs.drop (HT.jD xs.length 0 lo)).take (HT.jD xs.length xs.length hi-HT.jD xs.length 0 lo)
theorem iA (xs:List V) (lo hi:Option Int):(iz xs lo hi).length<=xs.length:=by
 unfold iz
 rw [List.length_take,List.length_drop]
 omega
end
def nh (n:Nat) (i:Int):Option Nat:=if 0<=i then (if i<n then some i.toNat else none) else if -(n:Int)<=i then some (i+n).toNat else none
def jO {α:Type} (xs:List α) (i:Int):Option α:=(nh xs.length i).bind λj=>xs[j]?
theorem ni {n:Nat} {i:Int} {j:Nat} (h:nh n i=some j):seqIndex? i n=some j/\j<n /\ -(n:Int)<=i/\i<n:=by
 unfold nh at h
 by_cases h0:0<=i
 ·rw [if_pos h0] at h
  by_cases h1:i<n
  ·rw [if_pos h1] at h
   have e:i.toNat=j:=Option.some.inj h
   exact⟨by rw [seqIndex_of h0 h1,e],by omega,by omega,h1⟩
  ·rw [if_neg h1] at h;cases h
 ·rw [if_neg h0] at h
  by_cases h1:-(n:Int)<=i
  ·rw [if_pos h1] at h
   have e:(i+n).toNat=j:=Option.some.inj h
   exact⟨by rw [seqIndex_neg (by omega) h1,e],by omega,h1,by omega⟩
  ·rw [if_neg h1] at h;cases h
theorem jP {α:Type} {xs:List α} {i:Int} {v:α} (h:jO xs i=some v):∃ j,seqIndex? i xs.length=some j/\xs[j]?=some v/\j<xs.length /\ -(xs.length:Int)<=i/\i<xs.length:=by
 unfold jO at h
 cases e:nh xs.length i with
 | none=>rw [e] at h;cases h
 | some j =>
  rw [e] at h
  obtain⟨h1,h2,h3,h4⟩:=ni e
  exact⟨j,h1,h,h2,h3,h4⟩
theorem mV {α:Type} {xs:List α} {j:Nat} {v:α} (h:xs[j]?=some v):jO xs (j:Int)=some v:=by
 have hj:j<xs.length:=(List.getElem?_eq_some_iff.mp h).1
 have e:nh xs.length (j:Int)=some j:=by
  unfold nh
  rw [if_pos (by omega),if_pos (by omega)];simp
 unfold jO;rw [e];exact h
def mP (b:Expr):Prop:=∀ o i,subscripted b false o i=operate [o,i] (getItem o i)
def rS (X:Cx) (r:R2):Prop :=
 ∀(value slice:Expr) (pins:List (Addr × Obj)) (s:Shared) (σ:St) (H:Hp) (x y:V) (v u:Value) (Q:VK),Inv X pins σ H s->RelV x v->RelV y u->r x y H Q ->
  subscripted slice false v u=operate [v,u] (getItem v u)->wpAny (model X.prog X.w) X.A (subscriptTail value slice v u) (EP X pins σ Q) X.xe s
def sV (X:Cx) (id:String) (r:V->List V->Hp->VK->Prop):Prop :=
 ∀(pins:List (Addr × Obj)) (s:Shared) (σ:St) (H:Hp) (x:V) (xs:List V) (v:Value) (us:List Value) (Q:VK),Inv X pins σ H s->RelV x v->Vals xs us->r x xs H Q ->
  wpAny (model X.prog X.w) X.A (call (.builtin id) (v::us)) (EP X pins σ Q) X.xe s
section
variable {X:Cx} {a b:Expr} {ta tb:TE} {pos:Pos}
theorem aD {r:R2} (hr:rS X r) (ha:PE X a ta) (hb:PE X b tb) (hs:mP b):PE X (.Subscript a b pos) (rK r ta tb):=by
 intro pins s σ H Q I h
 exact Subscript_ (pF ha hb I h λv u s2 x y H2 I2 rx ry q=>hr a b pins s2 σ H2 x y v u Q I2 rx ry q (hs _ _))
def mn (K:PySem.W.Frag):R2:=λx y H Q=>∃ p xs i v,x=.ref p/\y=.int i/\bh K H p xs/\jO xs i=some v/\Q v H
def qg (K:PySem.W.Frag):R2:=λx y H Q=>∃ p xs i v,x=.ref p/\y=.int i/\cn K H p xs/\jO xs i=some v/\Q v H
theorem aV:rS X (mn X.K):=by
 intro value slice pins s σ H x y v u Q I rx ry h hs
 obtain⟨p,xs,i,z,rfl,rfl,hq,he,q⟩:=h
 cases rx
 obtain⟨t,rfl⟩:=ry
 obtain⟨its,r,pl,hz⟩:=I.list hq
 obtain⟨j,h1,h2,h3,h4,h5⟩:=jP he
 obtain⟨w,ew,rw'⟩:=r.get h2
 have hl:=r.length
 have hn:=gS
 have fin:EP X pins σ Q w s:=⟨z,H,I,rw',q⟩
 by_cases h0:0<=i
 ·have hj:i.toNat=j:=by
   rw [seqIndex_of h0 h5] at h1
   exact Option.some.inj h1
  exact item_listR pl.isList h0 (by omega) (by rw [hj];simpa using ew) fin hs
 ·have hj:(i+(its.toArray.size:Int)).toNat=j:=by
   rw [seqIndex_neg (by omega) h4] at h1
   rw [List.size_toArray,<- hl]
   exact Option.some.inj h1
  exact subscriptTail_builtinR (x:=w) pl.isList.typeIs slot_list_getitem.lookup
   (wpAny_getItem_list_neg (Q:=λr s'=>r=w/\EP X pins σ Q r s') pl.isList (by omega) (by rw [List.size_toArray]<;>omega) (by omega) (by rw [hj];simpa using ew) ⟨rfl,fin⟩) hs
theorem aH:rS X (qg X.K):=by
 intro value slice pins s σ H x y v u Q I rx ry h hs
 obtain⟨p,xs,i,z,rfl,rfl,hq,he,q⟩:=h
 cases rx
 obtain⟨t,rfl⟩:=ry
 obtain⟨its,r,pl,hz⟩:=I.tuple hq
 obtain⟨j,h1,h2,h3,h4,h5⟩:=jP he
 obtain⟨w,ew,rw'⟩:=r.get h2
 have hl:=r.length
 have hn:=gS
 have fin:EP X pins σ Q w s:=⟨z,H,I,rw',q⟩
 exact subscriptTail_builtinR (x:=w) pl.typeIs slot_tuple_getitem.lookup
  (getItem_tuple (j:=j) (Q:=λr s'=>r=w/\EP X pins σ Q r s') pl (by omega) (by omega) (by rw [List.size_toArray,<- hl];exact h1) (by simpa using ew) ⟨rfl,fin⟩) hs
theorem Inv.lst {pins:List (Addr × Obj)} {σ:St} {H:Hp} {s:Shared} {p:Addr} {xs:List V} (I:Inv X pins σ H s) (h:H p=some (.lst xs)) :
  ∃(its:List Value) (n:Nat),Vals xs its/\s.heap.get? p=some { cls:=.type "list",data:=.seq its.toArray n }/\xs.length<=sizeLine:=by
 obtain⟨z,its,n,r,e⟩:=I.hok p _ h
 exact⟨its,n,r,e,z⟩
theorem ik (lo hi:Option Int) (n:Nat):(sliceBounds lo hi none n).1=((HT.jD n 0 lo:Nat):Int)/\(sliceBounds lo hi none n).2.1=((HT.jD n n hi:Nat):Int)/\(sliceBounds lo hi none n).2.2=1:=by
 refine⟨?_,?_,rfl⟩
 ·cases lo with
  | none=>simp [sliceBounds,HT.jD]
  | some i =>
   simp only [sliceBounds,HT.jD,Option.getD_none,show (1:Int) > 0 by decide,if_true]
   by_cases h:i<0
   ·simp only [h,if_true]<;>omega
   ·simp only [h,if_false]<;>omega
 ·cases hi with
  | none=>simp [sliceBounds,HT.jD]
  | some i =>
   simp only [sliceBounds,HT.jD,Option.getD_none,show (1:Int) > 0 by decide,if_true]
   by_cases h:i<0
   ·simp only [h,if_true]<;>omega
   ·simp only [h,if_false]<;>omega
theorem fM (its:List Value) (lo hi:Option Int):slicePick its.toArray lo hi none=((its.drop (HT.jD its.length 0 lo)).take (HT.jD its.length its.length hi-HT.jD its.length 0 lo)).toArray:=by
 obtain⟨h1,h2,h3⟩:=ik lo hi its.toArray.size
 unfold slicePick
 rw [h1,h2,h3]
 simp only [sliceRange_one,pick_run,List.size_toArray]<;>rfl
def sJ (K:PySem.W.Frag):V->Option Int->Option Int->Hp->VK->Prop:=λx lo hi H Q=>∃ a xs,x=.ref a/\bh K H a xs/\∀ p,H p=none->Q (.ref p) (upd H p (.lst (iz xs lo hi)))
theorem n6:sX X (sJ X.K):=by
 intro pins s σ H x v vl vu lo hi sl Q I rx hs pl pu h
 obtain⟨a,xs,rfl,hx,q⟩:=h
 cases rx
 obtain⟨its,r,ht,hz⟩:=I.list hx
 have hlen:=r.length
 refine⟨"list",_,slot_list_getitem.lookup,ht.isList.typeIs,?_⟩
 refine wpAny_getItem_list_slice ht.isList hs pl pu .none (by simp) ?_ (by rw [List.size_toArray]<;>omega)
 rw [fM,<- hlen]
 refine⟨.ref s.heap.objs.size,_,I.laid (t':=s.toks) (o:=.lst (iz xs lo hi)) (λb ob q=>Heap.get?_push_of_some _ q) (Nat.le_refl _) ?_,rfl,q _ (I.hok.fresh (Nat.le_refl _))⟩
 exact⟨Nat.le_trans (iA xs lo hi) hz,_,0,(r.drop (HT.jD xs.length 0 lo)).take (HT.jD xs.length xs.length hi-HT.jD xs.length 0 lo),Heap.get?_push_size _ rfl⟩
def oC:V->Bool
 | .non=>true
 | .bl _=>true
 | .int _=>true
 | .str _=>true
 | _=>false
def tM:V->V->Bool
 | .non,.non=>true
 | .bl a,.bl b=>a==b
 | .bl a,.int b=>(if a then 1 else 0)==b
 | .int a,.bl b=>a==(if b then 1 else 0)
 | .int a,.int b=>a==b
 | .str a,.str b=>a==b
 | _,_=>false
theorem gB:cp X (.builtin "len") (λxs H Q=>∃ p ys,xs=[.ref p]/\(bh X.K H p ys∨cn X.K H p ys)/\Q (.int ys.length) H):=by
 intro pins s σ H xs us Q I r h
 obtain⟨p,ys,rfl,hq,q⟩:=h
 obtain⟨u,rfl,rx⟩:=vals1 r
 cases rx
 have hn:=gS
 rcases hq with hq | hq
 ·obtain⟨its,r',pl,hz⟩:=I.list hq
  have hlen:=r'.length
  exact Calls.call_len_list pl.isList (by simp only [List.size_toArray]<;>omega) ⟨.int ys.length,H,I.tok _,⟨s.toks+1,by rw [List.size_toArray,hlen]⟩,q⟩
 ·obtain⟨its,r',pl,hz⟩:=I.tuple hq
  have hlen:=r'.length
  exact len_tuple pl (by simp only [List.size_toArray]<;>omega) ⟨.int ys.length,H,I.tok _,⟨s.toks+1,by rw [List.size_toArray,hlen]⟩,q⟩
theorem fH:cp X (.type "tuple") (λxs H Q=>∃ p ys,xs=[.ref p]/\((bh X.K H p ys/\∀ l,H l=none->Q (.ref l) (upd H l (.tup ys)))∨(cn X.K H p ys/\Q (.ref p) H))):=by
 intro pins s σ H xs us Q I r h
 obtain⟨p,ys,rfl,h⟩:=h
 obtain⟨u,rfl,rx⟩:=vals1 r
 cases rx
 rcases h with⟨hq,q⟩|⟨hq,q⟩
 ·obtain⟨its,r',pl,hz⟩:=I.list hq
  have hlen:=r'.length
  refine call_tuple_list pl.isList (λh' kp=>?_) (by simp only [List.size_toArray]<;>omega)
  have I1:Inv X pins σ H { s with heap:=h' }:=I.kept (t':=s.toks) kp
  have I2:Inv X pins σ (upd H h'.objs.size (.tup ys)) { s with heap:=h'.push { cls:=.type "tuple",data:=.seq its.toArray } } :=
   I1.laid (t':=s.toks) (λb o e=>Heap.get?_push_of_some _ e) (Nat.le_refl _) (show aY X.prog X.w _ _ _ (.tup ys) from ⟨hz,its,r',IsTup.new _ _⟩)
  exact⟨.ref h'.objs.size,_,I2,rfl,q _ (I1.hok.fresh (Nat.le_refl _))⟩
 ·obtain⟨its,r',pl,hz⟩:=I.tuple hq
  exact call_tuple_same pl ⟨.ref p,H,I,rfl,q⟩
def sR (K:PySem.W.Frag) (T:String) (x:V) (H:Hp):Prop:=match x with
 | .str _=>T = "str"
 | .int _=>T = "int"
 | .ref p=>(T = "list"/\∃ xs,bh K H p xs)∨(T = "tuple"/\∃ o,K.lookup p=some o/\o.cls=.type "tuple"/\o.dict=none) ∨
   (T = "dict"/\((∃ kvs,H p=some (.dK kvs))∨∃ kvs,H p=some (.dT kvs)))∨(T = "set"/\∃ S n,H p=some (.set S n))
 | _=>False
theorem qu {pins:List (Addr × Obj)} {σ:St} {H:Hp} {s:Shared} {T:String} {x:V} {v:Value} (I:Inv X pins σ H s) (r:RelV x v) (ty:sR X.K T x H) :
  s.TypeIs v T/\∀ a,v=.ref a->∃ ob,s.heap.get? a=some ob/\ob.dict=none:=by
 cases x with
 | str z =>
  obtain⟨t,rfl⟩:=r
  cases (show T = "str" from ty)
  exact⟨typeIs_str s z t,λ_ e=>nomatch e⟩
 | int i =>
  obtain⟨t,rfl⟩:=r
  cases (show T = "int" from ty)
  exact⟨typeIs_int s i t,λ_ e=>nomatch e⟩
 | ref p =>
  cases r
  rcases ty with⟨rfl,xs,hq⟩|⟨rfl,o,hk,hc,hd⟩|⟨rfl,hk⟩|⟨rfl,S,n,hk⟩
  ·obtain⟨its,_,pl,_⟩:=I.list hq
   refine⟨pl.isList.typeIs,λa e=>?_⟩
   cases e
   obtain⟨o,n,e,c,hd,_⟩:=pl
   exact⟨o,e,hd⟩
  ·refine⟨⟨o,I.cU p o hk,hc⟩,λa e=>?_⟩
   cases e
   exact⟨o,I.cU _ o hk,hd⟩
  ·have z:∃ o,s.heap.get? p=some o/\o.ExactDict:=by
    rcases hk with⟨kvs,hk⟩|⟨kvs,hk⟩
    ·obtain⟨_,_,_,_,o,_,_,e,ex,_⟩:=I.hok p _ hk
     exact⟨o,e,ex⟩
    ·obtain⟨_,_,_,_,o,_,_,e,ex,_⟩:=I.hok p _ hk
     exact⟨o,e,ex⟩
   obtain⟨o,e,ex⟩:=z
   refine⟨⟨o,e,ex.1⟩,λa e2=>?_⟩
   cases e2
   exact⟨o,e,ex.2.1⟩
  ·obtain⟨o,_,_,_,e,ex,_⟩:=I.hok p _ hk
   refine⟨⟨o,e,ex.1⟩,λa e2=>?_⟩
   cases e2
   exact⟨o,e,ex.2.1⟩
 | _=>exact False.elim ty
def sM (K:PySem.W.Frag) (T:String) (r:V->List V->Hp->VK->Prop) (to:TE):TE:=λσ H Q=>to σ H λx H1=>sR K T x H1/\r x [] H1 Q
def tu (K:PySem.W.Frag) (T:String) (r:V->List V->Hp->VK->Prop) (to:TE) (t:TA):TE:=λσ H Q=>to σ H λx H1=>sR K T x H1/\t σ H1 λxs H2=>r x xs H2 Q
variable {o e:Expr} {es:List Expr} {to:TE} {t:TA} {name:Str} {apos cpos:Pos} {T id:String} {r:V->List V->Hp->VK->Prop}
theorem l8 (pa:PlainAttrs T) (slot:Slot T name id) (hty:typeOf (.builtin id)=pure (.type "method_descriptor")) (hm:sV X id r) (ho:PE X o to) (ha:PA X (e::es) t)
  (hbase:attributeBase o name X.env (eval o X.env)=eval o X.env:=by rfl)
  (hfew:((backTo cpos (starEach (e::es) X.env)).all (λx=>!x.1) && (backToKw cpos (keywordEach [] X.env)).all (λx=>x.1.isSome)
   && decide ((e::es).length+([]:List Keyword).length+(if ([]:List Keyword).isEmpty then 0 else 1)<30))=true:=by rfl)
  (hline:(apos.endLine==cpos.line)=true:=by rfl) (hs:starEach (e::es) X.env=(false,eval e X.env)::starEach es X.env:=by rfl) (hplain:(backTo cpos (starEach es X.env)).any (·.1)=false:=by rfl) :
  PE X (.Call (.Attribute o name apos) (e::es) [] cpos) (tu X.K T r to t):=by
 intro pins s σ H Q I h
 refine wpAny_Call_method_late hbase hfew hline rfl (a8 (ho pins s σ H _ I h) λv s1 ⟨x,H1,I1,r1,ty,q1⟩=>?_)
 obtain⟨h1,h2⟩:=qu I1 r1 ty
 refine⟨T,id,pa,slot,hty,h1,h2,?_⟩
 have hA:=ha cpos pins s1 σ H1 _ I1 q1
 rw [hs] at hA ⊢
 refine Calls.callWith_builtin (by show (false || (backTo cpos (starEach es X.env)).any (·.1))=false;rw [hplain]<;>rfl) (Calls.evalArgs_plain ?_)
 exact a8 hA λus s2 ⟨vs,H2,I2,r2,q2⟩=>hm pins s2 σ H2 x vs v us Q I2 r1 r2 q2
/- xs.append(e),list.index on a module's tuple .. are sV facts of 06m -/
end
def tJ (X:Cx) (id:String) (r:V->List V->Hp->VK->Prop):Prop :=
 ∀(pins:List (Addr × Obj)) (s:Shared) (σ:St) (H:Hp) (x:V) (xs:List V) (v:Value) (us:List Value) (Q:VK),Inv X pins σ H s->RelV x v->Vals xs us->r x xs H Q ->
  wpAny (model X.prog X.w) X.A (call (.builtin id) (v::us)) (EP X pins σ Q) X.xe s
theorem Vals.zero:∀{us:List Value},Vals [] us->us=[]
 | _,.nil=>rfl
theorem Vals.ow:∀{x:V} {xs:List V} {us:List Value},Vals (x::xs) us->∃ u vs,us=u::vs/\RelV x u/\Vals xs vs
 | _,_,_,.cons r t=>⟨_,_,rfl,r,t⟩
theorem Vals.one {x:V} {us:List Value} (h:Vals [x] us):∃ u,us=[u]/\RelV x u:=by
 obtain⟨u,vs,rfl,r,t⟩:=h.ow
 exact⟨u,congrArg (u::·) t.zero,r⟩
theorem Vals.two {x y:V} {us:List Value} (h:Vals [x,y] us):∃ u v,us=[u,v]/\RelV x u/\RelV y v:=by
 obtain⟨u,vs,rfl,r,t⟩:=h.ow
 obtain⟨v,rfl,q⟩:=t.one
 exact⟨u,v,rfl,r,q⟩
theorem Vals.reverse {xs:List V} {us:List Value} (h:Vals xs us):Vals xs.reverse us.reverse:=by
 induction h with
 | nil=>exact .nil
 | cons r t ih=>rw [List.reverse_cons,List.reverse_cons];exact Vals.append ih (.cons r .nil)
section
variable {X:Cx} {pins:List (Addr × Obj)} {σ:St} {H:Hp} {s:Shared} {l b:Addr} {xs ys zs:List V}
theorem Inv.sD {its its':List Value} {n:Nat} {f:Array Value->Array Value} {t':Nat} (I:Inv X pins σ H s) (hH:H l=some (.lst xs))
  (e:s.heap.get? l=some { cls:=.type "list",data:=.seq its.toArray n }) (hf:f its.toArray=its'.toArray) (hv:Vals ys its') (hz:ys.length<=sizeLine) :
  Inv X pins σ (upd H l (.lst ys)) { s with heap:=s.heap.update l (Obj.mapSeq f),toks:=t' }:=by
 have q:=PySem.IsL.update e f
 rw [hf] at q
 refine I.write (x:=l) (e:=l) (by rw [hH];exact trivial) (.inl rfl) (λb' u hb hu=>(Heap.get?_update_other s.heap (Obj.mapSeq f) (Ne.symm hb)).trans hu) ⟨_,q⟩ ?_
 exact⟨hz,its',_,hv,q⟩
theorem Inv.sC {its:List Value} {t':Nat} (I:Inv X pins σ H s) (hv:Vals ys its) (hz:ys.length<=sizeLine) :
  Inv X pins σ (upd H s.heap.objs.size (.lst ys)) { s with heap:=s.heap.push { cls:=.type "list",data:=.seq its.toArray },toks:=t' } :=
 I.laid (λ_ _ q=>Heap.get?_push_of_some _ q) (Nat.le_refl _) ⟨hz,its,0,hv,Heap.get?_push_size _ rfl⟩
theorem Inv.fresh (I:Inv X pins σ H s):H s.heap.objs.size=none:=I.hok.fresh (Nat.le_refl _)
theorem Inv.pV (I:Inv X pins σ H s) (hH:H l=some (.lst xs)):xs.length<=sizeLine/\∃(its:List Value) (n:Nat),Vals xs its/\xs.length=its.length/\s.heap.get? l=some { cls:=.type "list",data:=.seq its.toArray n }:=by
 obtain⟨z,its,n,r,e⟩:=I.hok l _ hH
 exact⟨z,its,n,r,r.length,e⟩
end
section
variable {X:Cx}
def j4:V->List V->Hp->VK->Prop:=λx vs H Q=>∃ l xs y,x=.ref l/\vs=[y]/\H l=some (.lst xs)/\xs.length<sizeLine/\Q .non (upd H l (.lst (xs++[y])))
theorem d5:tJ X "list.append" j4:=by
 intro pins s σ H x vs v us Q I rx rv h
 obtain⟨l,xs,y,rfl,rfl,hH,hz,q⟩:=h
 cases rx
 obtain⟨u,rfl,ru⟩:=rv.one
 obtain⟨z,its,n,r,hl,e⟩:=I.pV hH
 refine call_meets F.slot_list_append ⟨_,e,rfl⟩ F.entry_list_append (F.args_list_append_2 _ _) (PySem.list_append l its.toArray n u (by rw [List.size_toArray];omega)) ⟨e,?_⟩
 refine⟨.non,_,I.sD (its':=its++[u]) hH e (by simp) (r.append (.cons ru .nil)) ?_,rfl,q⟩
 rw [List.length_append,List.length_singleton]
 omega
def sI:R2:=λx y H Q=>∃ l b xs zs,x=.ref l/\y=.ref b/\H l=some (.lst xs)/\H b=some (.lst zs)/\xs.length+zs.length<=sizeLine/\∀ p,H p=none->Q (.ref p) (upd H p (.lst (xs++zs)))
theorem p8:ez X (binaryOp .Add) sI:=by
 intro pins s σ H x y v u Q I rx ry h
 obtain⟨l,b,xs,zs,rfl,rfl,hH,hB,hz,q⟩:=h
 cases rx
 cases ry
 obtain⟨z,its,n,r,hl,e⟩:=I.pV hH
 obtain⟨z2,its2,n2,r2,hl2,e2⟩:=I.pV hB
 refine PySem.P.add_list e e2 ?_ (by rw [List.size_toArray,List.size_toArray];omega)
 have ea:its.toArray++its2.toArray=(its++its2).toArray:=by simp
 rw [ea]
 exact⟨.ref _,_,I.sC (t':=s.toks) (r.append r2) (by rw [List.length_append];omega),rfl,q _ I.fresh⟩
end
section
variable {prog:Program} {w:World} {A:Around} {E:Value->Shared->Prop} {s:Shared}
end
section
variable {X:Cx}
end
end L2
namespace Att
open PySem PySem.W PySem.Calls PyProof.Rows
theorem eP {P:Params} {h:Heap}:∀(ns:List Int) (vs:List Value),WellAll P h vs (ns.map WData.int)->IntsAre vs ns:=by
 intro ns
 induction ns with
 | nil =>
  intro vs w
  rw [List.map_nil] at w
  cases w
  exact .nil
 | cons n ns ih =>
  intro vs w
  rw [List.map_cons] at w
  cases w with
  | cons a b =>
   cases a
   exact .cons _ _ (ih _ b)
theorem kL {l:OpenLaw} {n:Nat} (hn:l.most=some n) {P:Params} {h:Heap} {args:List WData} {vals:List Value}
  (hpre:l.row.toRowW.claim.pre args=true) (hwl:WellAll P h vals args) :
  ∃ a vs ns,vals=[Value.ref a]/\args=[WData.list (ns.map WData.int)]/\h.get? a=some { cls:=.type "list",data:=.seq vs.toArray }/\IntsAre vs ns/\ns.length<=n:=by
 have hsh:WShape.hasAll [] args [.list .int]=true:=(pre_splitW hpre).1
 have hc:l.pre.holds [] { args:=args }=true:=(pre_splitW hpre).2
 obtain⟨d,r,rfl,h1,h2⟩:=hasAllW_cons hsh
 obtain rfl:=hasAllW_nil h2
 obtain⟨xs,rfl,h3⟩:=hasW_list h1
 obtain⟨ns,rfl⟩:=items_int h3
 have hlen:ns.length<=n:=by
  unfold OpenLaw.pre at hc
  have h4:(WTm.not (.lt (.lit (.int (n:Int))) (.len (.arg 0)))).holds [] { args:=[.list (ns.map .int)] }=true:=by
   have h4:=(holds_andW hc).1
   rw [hn] at h4
   exact h4
  have h5:=condW_of h4 (w_not (w_lt w_lit (w_len_list (w_arg rfl))))
  rw [List.length_map] at h5
  refine Nat.le_of_not_lt λq=>?_
  have q':(n:Int)<((ns.length:Nat):Int):=by omega
  first
   | (rw [decide_eq_true q'] at h5;exact absurd h5 (by decide))
   | (simp at h5;omega)
 cases hwl with
 | cons w1 w2 =>
  cases w2
  cases w1 with
  | list ho hall=>exact⟨_,_,ns,rfl,rfl,ho,eP ns _ hall,hlen⟩
theorem kJ (l:OpenLaw) (args:List WData):l.row.toRowW.claim.post args (.bool true) args=true :=
 postW_of (r:=l.row.toRowW) (X:=(true==true))
  (show WShape.has [] (.bool true) .bool=true by first | rfl | decide | simp [WShape.has,WShape.arms,WShape.armsAll])
  (show (WTm.eq .res (.lit (.bool true))).value [] { args:=args,res:=some (.bool true),after:=args }=some (.bool (true==true)) from w_eq_bool (w_res rfl) w_lit) rfl
theorem iv {l:OpenLaw} {n:Nat} {q:Program} {loose:List Str} {XP:(Str->Option Value)->Heap->Prop} {YP:World->Heap->Prop} {d:DefRec}
  (hn:l.most=some n) (hdf:d.params.defaults=[])
  (call:∀(w:World) (s₀ s₁:Shared) (mg mb:Str->Option Value) (fa:Addr) (o:Obj) (pm cd doc:Value) (a:Addr) (vs:List Value) (ns:List Int),
   Ground q loose [] XP w s₀ mg mb s₁.heap->YP w s₁.heap ->
   s₁.heap.get? fa=some o->o.data=.func (docDef d.name d.params d.body d.scope pm cd doc)->s₁.heap.CodeRec cd d.name->mg d.name=some (.ref fa) ->
   s₁.heap.get? a=some { cls:=.type "list",data:=.seq vs.toArray }->IntsAre vs ns->ns.length<=n->s₁.gens=#[] ->
   codeAny (model l.prog w) callerA (.call (.ref fa) ⟨[.ref a],[]⟩) (λr s'=>r=.ok (.ret (.bool true))/\OldK s₁.heap s'.heap/\s'.os=s₁.os/\AllBare s'.gens) s₁) :
  WalkO q loose XP YP l.row.toRowW d [] (λf vs=>PySem.call f vs):=by
 intro w s₀ s₁ mg mb G Y fa o pm cd doc dV kV ho hd hcd hD hmg hg args vals as hpre hlay hrd hwl hlo
 obtain rfl:dV=.none:=Dflts.none hD hdf
 obtain rfl:kV=.none:=Dflts.noKw hD
 obtain⟨a,vs,ns,rfl,rfl,hobj,hints,hlen⟩:=kL hn hpre hwl
 refine enter_call (codeAny_mono (call w s₀ s₁ mg mb fa o pm cd doc a vs ns G Y ho (fd_plain hd) hcd hmg hobj hints hlen hg) λr s' hq=>?_)
 obtain⟨rfl,h2,h3,h4⟩:=hq
 exact⟨.inl ⟨.bool true,.bool true,[],rfl,λ_=>rfl,.bool true,kJ l _,λ_=>⟨List.Pairwise.nil,λ_ hm=>(nomatch hm)⟩⟩,h2,h3,h4⟩
section
variable {prog:Program} {w:World} {A:Around} {E:Value->Shared->Prop} {s:Shared} {K:Frag}
end
end Att
namespace L2
open PySem PySem.Spec PyProof.Rows
theorem gw:∀{vs:List Value} {ns:List Int},IntsAre vs ns->Vals (ns.map V.int) vs
 | _,_,.nil=>.nil
 | _,_,.cons n t h=>.cons ⟨t,rfl⟩ (gw h)
def mN (H:Hp):Prop:=∀ b,H b=none∨∃ o xs,H b=some (.frz o (.lst xs))
theorem lK {P:Program} {w:World} {K:PySem.W.Frag} {mg mb:Str->Option Value} {CX:fF} {k:Nat} {fa a:Addr} {fd:FuncData} {x:Str} {sp:Sp} {s₁:Shared} {vs:List Value} {ns:List Int}
  (KX:K.In s₁.heap) (hns:s₁.heap.Ns mainGlobals mg) (hb:s₁.heap.Ns builtinsNs mb) (hbb:∀ x:Str,x ≠ "__name__"->mb x=bootBuiltins x) (hlim:s₁.heap.NoLimit) (hg:s₁.gens=#[])
  (ha:s₁.heap.get? a=some { cls:=.type "list",data:=.seq vs.toArray }) (hi:IntsAre vs ns) (hl:ns.length<=sizeLine) (hr:bj k callerA)
  (F:∀ base:Heap,K.In base->base.Ns mainGlobals mg->bN P w K mg base CX k fa fd [x] sp) (hbind:∀(s:Shared) (u:Value),BindsTo s fd ⟨[u],[]⟩ [(x,u)])
  (hsp:∀ H:Hp,mN H->bh K H a (ns.map V.int)->sp [.ref a] H (λv _=>v=.bl true) λ_ _ _=>False)
  (hCX:∀ H e s',CX [] H s₁ (λ_ _ _=>False) e s'->False) :
  codeAny (model P w) callerA (.call (.ref fa) ⟨[.ref a],[]⟩) (λr s'=>r=.ok (.ret (.bool true))/\OldK s₁.heap s'.heap/\s'.os=s₁.os/\AllBare s'.gens) s₁:=by
 have rv:=gw hi
 have lenV:=hi.length
 -- from an abstract heap in which nothing but the script may be tracked
 have core:∀ H:Hp,mN H->bh K H a (ns.map V.int)->dh P w H s₁.heap->(∀ b,H b≠none->b=a)->(H a≠none->K.lookup a=none) ->
   codeAny (model P w) callerA (.call (.ref fa) ⟨[.ref a],[]⟩) (λr s'=>r=.ok (.ret (.bool true))/\OldK s₁.heap s'.heap/\s'.os=s₁.os/\AllBare s'.gens) s₁:=by
  intro H hO hS hok hA hK
  have base_of:∀{b:Addr} {o:Obj},s₁.heap.get? b=some o->H b=none->(gL s₁.heap H).get? b=some o:=λe n=>lB e n
  have noA:∀{b:Addr} {o:Obj} {es:Array DictEntry} {ep:Nat},s₁.heap.get? b=some o->o.data=.dict es ep->H b=none:=λ{b o es ep} e d=>by
   cases q:H b with
   | none=>rfl
   | some u =>
    have e':b=a:=hA b (by rw [q];simp)
    subst e'
    rw [ha] at e;cases e
    have d':Data.seq vs.toArray _=Data.dict es ep:=d
    cases d'
  have nsK:∀{b:Addr} {m:Str->Option Value},s₁.heap.Ns b m->(gL s₁.heap H).Ns b m:=λ{b m} ⟨o,es,ep,e,d,r⟩=>⟨o,es,ep,base_of e (noA e d),d,r⟩
  have hKb:K.In (gL s₁.heap H):=λb o e=>base_of (KX b o e) (by
   cases q:H b with
   | none=>rfl
   | some u =>
    have e':b=a:=hA b (by rw [q];simp)
    subst e'
    rw [hK (by rw [q];simp)] at e;cases e)
  have hM:Mod K mg (gL s₁.heap H):=⟨hKb,nsK hns,⟨mb,nsK hb,hbb⟩,let ⟨mc,h1,h2⟩:=hlim;⟨mc,nsK h1,h2⟩⟩
  have e0:i6 P w K mg (gL s₁.heap H) callerA [] s₁ H:=⟨rfl,hM,λb o e=>nz e,Nat.le_of_eq (kx _ _),trivial,λb hb=>absurd (show b∈([]:List Addr) from hb) (by simp),hok,.of_eq hg⟩
  refine codeAny_mono ((F _ hKb (nsK hns)).run callerA [] s₁ H ⟨[.ref a],[]⟩ [.ref a] [.ref a] _ _ hr e0 (hbind s₁ (.ref a)) (.cons rfl .nil) (hsp H hO hS)) λr s' h=>?_
  cases r with
  | error e=>exact (hCX H e s' h).elim
  | ok fl =>
   cases fl with
   | next=>exact False.elim h
   | brk=>exact False.elim h
   | cont=>exact False.elim h
   | ret u =>
    obtain⟨v,H',os,bare,un,hok',r',q⟩:=h
    have q':v=.bl true:=q
    subst q'
    obtain rfl:u=Value.bool true:=r'
    refine⟨rfl,OldK.of_keep λb o e=>?_,os,bare⟩
    cases q:H b with
    | none=>exact un.keep b o e q (by intro z;exact absurd (show b∈([]:List Addr) from z) (by simp)) (by simp)
    | some u =>
     rcases hO b with z | ⟨ob,xs,z⟩
     ·rw [q] at z;cases z
     ·have z2:=un.frzs b ob _ z
      obtain⟨e1,_⟩:=hok b _ z
      obtain⟨e2,_⟩:=hok' b _ z2
      rw [e] at e1;cases e1
      exact e2
 cases hk:K.lookup a with
 | some o =>
  -- the script is one of the module's own objects
  have e:=KX a o hk
  rw [ha] at e
  cases e
  refine core (λ_=>none) (λ_=>.inl rfl) (.inr ⟨_,vs.toArray,_,hk,rfl,rfl,rfl,by rw [List.size_toArray,lenV];exact hl,by simpa using rv⟩) (λb u z=>by have z':(none:Option HO)=some u:=z;cases z') (λb z=>absurd rfl z) λz=>absurd rfl z
 | none =>
  refine core (λb=>if b=a then some (.frz { cls:=.type "list",data:=.seq vs.toArray } (.lst (ns.map V.int))) else none) (λb=>?_) (.inl (.inr ⟨{ cls:=.type "list",data:=.seq vs.toArray },if_pos rfl⟩)) (λb u z=>?_) (λb z=>?_) λ_=>hk
  ·by_cases hb:b=a
   ·exact .inr ⟨_,_,if_pos hb⟩
   ·exact .inl (if_neg hb)
  ·by_cases hb:b=a
   ·have z':=(if_pos hb).symm.trans z
    cases z'
    subst hb
    exact⟨ha,by rw [List.length_map];exact hl,vs,_,rv,ha⟩
   ·have z':=(if_neg hb).symm.trans z
    cases z'
  ·by_cases hb:b=a
   ·exact hb
   ·exact absurd (if_neg hb) z
abbrev eJ {K:PySem.W.Frag} {h:Heap} (_:K.In h):PySem.W.Frag:=K
theorem ke {l:PySem.W.OpenLaw} {n k:Nat} {q:Program} {loose:List Str} {XP:(Str->Option Value)->Heap->Prop} {YP:World->Heap->Prop} {d:DefRec} {K:Params->PySem.W.Frag} {CX:World->fF} {sp:World->Sp} {x:Str}
  (hn:l.most=some n) (hn2:n<=sizeLine) (hdf:d.params.defaults=[]) (hr:bj k callerA)
  (hY:∀(w:World) (h:Heap),YP w h->(K w.params).In h)
  (F:∀(w:World) (mg:Str->Option Value) (fa:Addr) (h:Heap),(K w.params).In h->h.Ns mainGlobals mg->mg d.name=some (.ref fa) ->
   ∃ fd:FuncData,(∀(s:Shared) (u:Value),BindsTo s fd ⟨[u],[]⟩ [(x,u)]) /\
    ∀ base:Heap,(K w.params).In base->base.Ns mainGlobals mg->bN l.prog w (K w.params) mg base (CX w) k fa fd [x] (sp w))
  (hsp:∀(w:World) (H:Hp) (a:Addr) (ns:List Int),ns.length<=n->mN H->bh (K w.params) H a (ns.map V.int)->sp w [.ref a] H (λv _=>v=.bl true) λ_ _ _=>False)
  (hCX:∀(w:World) (H:Hp) (s:Shared) (e:Value) (s':Shared),CX w [] H s (λ_ _ _=>False) e s'->False) :
  PySem.W.WalkO q loose XP YP l.row.toRowW d [] (λf vs=>PySem.call f vs):=by
 refine Att.iv hn hdf λw s₀ s₁ mg mb fa o pm cd doc a vs ns G Y ho hd hcd hmg hobj hints hlen hg=>?_
 have KX:=hY w _ Y
 obtain⟨fd,hb,hF⟩:=F w mg fa _ KX G.T.g hmg
 exact lK KX G.T.g G.T.b G.T.builtins G.T.nolimit hg hobj hints (Nat.le_trans hlen hn2) hr hF hb (λH hO hS=>hsp w H a ns hlen hO hS) λH e s'=>hCX w H s₁ e s'
theorem mJ {l:PySem.W.OpenLaw} {n k:Nat} {q:Program} {loose:List Str} {XP:(Str->Option Value)->Heap->Prop} {YP:World->Heap->Prop} {d:DefRec} {K:Params->PySem.W.Frag} {CX:fF} {sp:PySem.W.Frag->Sp} {x:Str}
  (hn:l.most=some n) (hn2:n<=sizeLine) (hdf:d.params.defaults=[]) (hr:bj k callerA)
  (hY:∀(w:World) (h:Heap),YP w h->(K w.params).In h)
  (F:∀(w:World) (mg:Str->Option Value) (fa:Addr) (h:Heap),(K w.params).In h->h.Ns mainGlobals mg->mg d.name=some (.ref fa) ->
   ∃ fd:FuncData,(∀(s:Shared) (u:Value),BindsTo s fd ⟨[u],[]⟩ [(x,u)]) /\
    ∀ base:Heap,(K w.params).In base->base.Ns mainGlobals mg->bN l.prog w (K w.params) mg base CX k fa fd [x] (sp (K w.params)))
  (hsp:∀(K:PySem.W.Frag) (H:Hp) (a:Addr) (ns:List Int),ns.length<=n->mN H->bh K H a (ns.map V.int)->sp K [.ref a] H (λv _=>v=.bl true) λ_ _ _=>False)
  (hCX:∀(H:Hp) (s:Shared) (e:Value) (s':Shared),CX [] H s (λ_ _ _=>False) e s'->False) :
  PySem.W.WalkO q loose XP YP l.row.toRowW d [] (λf vs=>PySem.call f vs) :=
 ke (K:=K) (CX:=λ_=>CX) (sp:=λw=>sp (K w.params)) hn hn2 hdf hr hY F (λw H a ns h1 h2 h3=>hsp (K w.params) H a ns h1 h2 h3) λ_ H s e s'=>hCX H s e s'
end L2
/- THE LAST THEOREM (shape;LID,My.* are yours):
   My.Adr: a structure of the addresses that your layer names (classes,functions);My.Txt K t: a structure (Prop) of the equations over K;
   My.txt_mk:{K} {implicit addresses ..} (e1:nsIn K mainGlobals "law"=some (some (.ref f))) (e2:K.lookup f=some ⟨oc,od,.func (fnOf "law" "law" params body scope dV kV doc pm an cdv ct),sl⟩) (e3:codeIn K cdv "law"=true) ..:∃ t,My.Txt K t
set_option maxRecDepth 100000 in
set_option maxHeartbeats 0 in
theorem PySem.Challenge.cw_LID_holds : PySem.Challenge.rw_LID.Holds := by
 w_on;o_law;k_head;(case hw=>w_witness2)
 k_fill
 refine L2.ke (l:=PySem.Challenge.rw_LID) (n:=63) (k:=40) (x := "script") (CX:=λw=>..) (sp:=λ_=>My.sp_law) rfl (by decide) rfl ⟨rfl,by decide,by decide⟩ (λw h Y=>PySem.W.kIn_of Y) ?F ?S ?C
 case F =>
  intro w mg fa h KX G hmg
  have T:∃ t,My.Txt (L2.eJ KX) t:=by
   dsimp only [L2.eJ]                          -- K must stand as «<heap const> w.params» for k_is
   refine' My.txt_mk ?e1 ?e2 ?e3 ..
   (case e1=>PySem.W.k_is)                    -- in the order: a name -> its address -> its object -> its parts
   (case e2=>PySem.W.k_is)
   ..
  obtain⟨t,T⟩:=T
  have e0:=hmg.symm.trans (PySem.W.mg_of KX G T.law)
  cases e0                                       -- fa is the law's own address
  exact⟨_,λs u=>.of_eq rfl,λbase kb nb=>My.law_fn T kb nb⟩     -- if «.of_eq rfl» comes too early: refine' ⟨_,?b,λbase kb nb=>My.law_fn T kb nb⟩;exact λs u=>.of_eq rfl
 case S=>exact λw H a ns hl hO hS=>..
 case C=>exact ..
(the tactic k_is has no namespace: write k_is) -/
namespace L2
open PySem PySem.Spec PyProof.Rows
def inClass (s:Stmt) (j:Nat):Stmt:=match s with
 | .ClassDef _ _ _ body _ _ _ _ _ _ _=>body.getD j (.Pass ⟨0,0,0,0⟩)
 | _=>.Pass ⟨0,0,0,0⟩
def ba (s:Stmt):Arguments:=match s with
 | .FunctionDef _ a _ _ _ _ _ _ _ _=>a
 | _=>{ posonlyargs:=[],args:=[],vararg:=none,kwonlyargs:=[],kw_defaults:=[],kwarg:=none,defaults:=[] }
def aG (s:Stmt):List Stmt:=match s with
 | .FunctionDef _ _ b _ _ _ _ _ _ _=>b
 | _=>[]
def ah (s:Stmt):Scope:=match s with
 | .FunctionDef _ _ _ _ _ _ sc _ _ _=>sc
 | _=>{ kind:=.function,names:=[],isGenerator:=false,isCoroutine:=false }
abbrev bf:fF:=λ_ _ _ _ _ _=>False
abbrev E0:XK:=λ_ _ _=>False
theorem aN {X:Cx}:Passes bf X E0:=λ_ _ _ _ _ _ _ h=>h.elim
structure mK (K:PySem.W.Frag) (x qual:Str) (st:Stmt) (f:Addr) (fd:FuncData):Prop where
 ex:∃(oc:Value) (od:Option Addr) (kV doc pm:Value) (an:Option Addr) (cdv ct:Value) (osl:Array (Option Value)),
  fd=PySem.W.fnOf x qual (ba st) (aG st) (ah st) .none kV doc pm an cdv ct/\K.lookup f=some ⟨oc,od,.func fd,osl⟩/\PySem.W.codeIn K cdv qual=true
 kp:PySem.W.keepIn K (.ref f)=true
section
variable {P:Program} {w:World} {K:PySem.W.Frag} {mg:Str->Option Value} {base:Heap}
theorem mK.ok {x qual:Str} {st:Stmt} {f:Addr} {fd:FuncData} {N ps:List Str} {k:Nat} {sp:Sp} (F:mK K x qual st f fd) (S:ay N ps (ah st)) (len:∀ vs H Q E,sp vs H Q E->vs.length=ps.length)
  (hbody:∀(cdv:Value) (A:Around) (outer:List Env) (s:Shared) (H:Hp) (vs:List V) (Q:VK) (E:XK),bj k (A.deeper (envOfC qual (ah st) s.heap.objs.size f cdv))->sp vs H Q E ->
   ∃ t,eA (cF bf P w K mg base N qual (ah st) f cdv A outer s H E).gW (aG st) t/\t { nx:=λ_ H'=>Q .non H',rt:=Q } (start N vs) H):bN P w K mg base bf (k+1) f fd ps sp:=by
 obtain⟨oc,od,kV,doc,pm,an,cdv,ct,osl,rfl,lk,hcd⟩:=F.ex
 refine oE lk hcd S len λA outer s H vs Q E hr hsp=>?_
 obtain⟨t,h,q⟩:=hbody cdv A outer s H vs Q E hr hsp
 exact⟨t,h.gW,q⟩
theorem mK.binds {x qual:Str} {st:Stmt} {f:Addr} {fd:FuncData} {ps:List Str} (F:mK K x qual st f fd)
  (h:∀(kV doc pm:Value) (an:Option Addr) (cdv ct:Value) (us:List Value),us.length=ps.length->bindArgs (PySem.W.fnOf x qual (ba st) (aG st) (ah st) .none kV doc pm an cdv ct) ⟨us,[]⟩=pure (ps.zip us)):Binds K fd ps []:=by
 obtain⟨oc,od,kV,doc,pm,an,cdv,ct,osl,rfl,lk,hcd⟩:=F.ex
 exact .all (h kV doc pm an cdv ct)
theorem ly {x qual:Str} {st:Stmt} {f:Addr} {oc:Value} {od an:Option Addr} {osl:Array (Option Value)} {kV doc pm cdv ct:Value} (l:K.lookup f=some ⟨oc,od,.func (PySem.W.fnOf x qual (ba st) (aG st) (ah st) .none kV doc pm an cdv ct),osl⟩)
  (c:PySem.W.codeIn K cdv qual=true) (k:PySem.W.keepIn K (.ref f)=true):mK K x qual st f (PySem.W.fnOf x qual (ba st) (aG st) (ah st) .none kV doc pm an cdv ct):=⟨⟨oc,od,kV,doc,pm,an,cdv,ct,osl,rfl,l,c⟩,k⟩
end
theorem kM {n:Nat} (h:n<=1000):n<sizeLine:=Nat.lt_of_le_of_lt h (by decide)
section
variable {X:Cx}
theorem pv (i:Nat) {x:Str} {pos:Pos} (hN:X.N[i]?=some x:=by rfl) (hv:pk X.env.scope x:=by first | exact Or.inl rfl | exact Or.inr (Or.inl rfl) | exact Or.inr (Or.inr rfl)) (hd:(x==("__debug__":Str))=false:=by decide)
  (hcd:(x==("__classdict__":Str))=false:=by decide):PE X (.Name x pos) (mD i):=jB hN hv hd hcd
end
theorem bC {c A B:Prop} [Decidable c] (h1:c->A) (h2:¬c->B):if c then A else B:=by
 by_cases h:c
 ·rw [if_pos h]
  exact h1 h
 ·rw [if_neg h]
  exact h2 h
def au (H H':Hp):Prop:=∀ b o,H b=some o->H' b=some o
theorem au.refl (H:Hp):au H H:=λ_ _ h=>h
theorem au.trans {H H1 H2:Hp} (a:au H H1) (b:au H1 H2):au H H2:=λc o h=>b c o (a c o h)
theorem au.free {H H':Hp} (e:au H H') {l:Addr} (h:H' l=Option.none):H l=Option.none:=by
 cases q:H l with
 | none=>rfl
 | some o =>
  rw [e l o q] at h
  cases h
theorem au.seq {K:PySem.W.Frag} {H H':Hp} {a:Addr} {xs:List V} (e:au H H') (h:bh K H a xs):bh K H' a xs:=by
 rcases h with (h | ⟨o,h⟩) | h
 ·exact .inl (.inl (e _ _ h))
 ·exact .inl (.inr ⟨o,e _ _ h⟩)
 ·exact .inr h
end L2
set_option maxHeartbeats 1000000
namespace L2
open PySem PySem.Spec PyProof.Rows
theorem gG {Ex:Value->Shared->Prop} {prog:Program} {w:World} {A:Around} {R:Result->Shared->Prop} {s:Shared} {elt target:Expr} {gens:List Comprehension} {scope:Scope} {pos ps:Pos} {ifs:List Expr} {d:Nat} {B:Sem Unit} {it acc:Value} {env:Env} (I:Nat->Shared->Prop)
  (ht:compTurn (.ListComp elt gens scope pos) d it acc env=(do
   standAt ps
   match <- pyNext it with
   | none=>pure (.done .next)
   | some v =>
    letOwnedTupleGo target it v
    assign target env v
    let mut ok:=true
    for c in ifs do
     if ok then ok <- isTrue c env (eval c env)
    if ok then B
    again (.compLoop (.ListComp elt gens scope pos) d it acc env)))
  (turn:∀ n s,I n s->wpAny (model prog w) A (pyNext it) (λr s₁=>match r with
   | none=>R (.ok .next) s₁
   | some v=>wpAny (model prog w) A (letOwnedTupleGo target it v) (λ_ s₁'=>wpAny (model prog w) A (assign target env v) (λ_ s₂ =>
     wpAny (model prog w) A (forIn ifs true λc r=>if r=true then do let ok <- isTrue c env (eval c env);pure (ForInStep.yield ok) else pure (ForInStep.yield r)) (λok s₃ =>
      if ok=true then wpAny (model prog w) A B (λ_ s₅=>∃ m,m<n/\I m s₅) Ex s₃
      else ∃ m,m<n/\I m s₃) Ex s₂) Ex s₁') Ex s₁) Ex s)
  (n:Nat) (h:I n s) (hE:∀ e s',Ex e s'->notedBy (model prog w) A env (λe s''=>R (.error e) s'') e s') :
  codeAny (model prog w) A (.compLoop (.ListComp elt gens scope pos) d it acc env) R s:=by
 refine codeAny_loop rfl I (λn s hI=>?_) n h
 show wpAny _ A ((compTurn (.ListComp elt gens scope pos) d it acc env).onRaise (λx=>do noteFrame x env;theTreesLotGoes x)) _ _ s
 refine wpAny_noted ?_
 rw [ht]
 refine wpAny_bind (wpAny_standAt (wpAny_bind (wpAny_mono (turn n s hI) (λr s₁ h₁=>?_) λ_ _ h'=>hE _ _ h')))
 cases r with
 | none=>exact wpAny_pure h₁
 | some v =>
  refine wpAny_bind (wpAny_mono h₁ (λ_ s₁' h₁'=>?_) λ_ _ h'=>hE _ _ h')
  refine wpAny_bind (wpAny_mono h₁' (λ_ s₂ h₂=>wpAny_bind (wpAny_mono h₂ (λok s₃ h₃=>?_) λ_ _ h'=>hE _ _ h')) λ_ _ h'=>hE _ _ h')
  cases ok with
  | false=>exact wpAny_pure ⟨rfl,h₃⟩
  | true=>exact wpAny_bind (wpAny_mono h₃ (λ_ s₅ h₅=>wpAny_pure ⟨rfl,h₅⟩) λ_ _ h'=>hE _ _ h')
def jQ (elt:Expr) (acc:Value) (env:Env):Sem Unit:=do let _ <- call (.builtin "list.append") [acc,<- eval elt env]
theorem mG (elt target iter:Expr) (ifs:List Expr) (scope:Scope) (pos:Pos) (it acc:Value) (env:Env) :
  compTurn (.ListComp elt [⟨target,iter,ifs,0⟩] scope pos) 0 it acc env=(do
   standAt iter.pos
   match <- pyNext it with
   | none=>pure (.done .next)
   | some v =>
    letOwnedTupleGo target it v
    assign target env v
    let mut ok:=true
    for c in ifs do
     if ok then ok <- isTrue c env (eval c env)
    if ok then jQ elt acc env
    again (.compLoop (.ListComp elt [⟨target,iter,ifs,0⟩] scope pos) 0 it acc env)):=by rfl
def bB (X:Cx) (Ex:Value->Shared->Prop) (N':List Str) (scope:Scope) (cl:List (Str × Addr)) (C:Addr) (s₂:Shared) (H₂:Hp) (fp:List Addr):Cx :=
 { X with N:=N',s₀:=s₂,H₀:=H₂,env:=compEnvC scope (cellsFrom (C+1) scope.names cl) C X.env,outer:=X.stack,stack:=X.stack,ex:=fp,fn:=λx=>scope.names.lookup x==some .cell,pn:=[],xe:=Ex }
abbrev gF (X:Cx):=bB X λ_ _=>False
def AllIn (env:Env):List (Str × Addr)->Prop
 | []=>True
 | p::r=>env.cells.lookup p.1=some p.2/\AllIn env r
theorem AllIn.get {env:Env}:∀{l:List (Str × Addr)},AllIn env l->∀ y c,l.lookup y=some c->env.cells.lookup y=some c
 | [],_,_,_,h=>by simp at h
 | (z,d)::r,a,y,c,h=>by
  rw [List.lookup_cons] at h
  cases e:y==z with
  | true =>
   rw [e] at h
   have q:y=z:=by simpa using e
   subst q
   cases h
   exact a.1
  | false =>
   rw [e] at h
   exact AllIn.get a.2 y c h
def cf (js:List (Option Nat)) (σ:St):St:=js.map λo=>match o with | none=>none | some j=>(σ[j]?).join
structure eX (X:Cx) (N':List Str) (js:List (Option Nat)) (scope:Scope) (cl:List (Str × Addr)):Prop where
 clos:closureFor scope X.env=pure cl
 kind:scope.kind=.function
 nocell:∀ y∈scope.names,y.2=.cell->scope.names.lookup y.1=some .cell/\∀ p∈js.zip N',p.1.isSome=true->p.2≠y.1
 names:∀ y∈scope.names,y.2=.local->scope.names.lookup y.1=some .local
 sub:AllIn X.env cl
 has:∀ y∈scope.names,y.2=.free->(cl.lookup y.1).isSome=true
 jlen:js.length=N'.length
 jok:∀(i j:Nat) x,js[i]?=some (some j)->N'[i]?=some x->X.N[j]?=some x/\(cl.lookup x).isSome=true/\pk X.env.scope x/\X.env.kindOf x≠some .local/\((relabel scope X.env).names.lookup x=some .cell∨(relabel scope X.env).names.lookup x=some .free)
theorem eE {scope:Scope} {env:Env} {x:Str} {k:NameKind} (h:(relabel scope env).names.lookup x=some k) (hk:k=.cell∨k=.free):∃ y∈scope.names,y.1=x/\(y.2=.free∨y.2=.cell):=by
 have hm:=PySem.mem_of_lookup h
 obtain⟨⟨n,q⟩,hm',e⟩:=List.mem_map.mp hm
 dsimp only at e
 split at e
 ·rename_i hc
  have e1:n=x:=congrArg Prod.fst e
  refine⟨(n,q),hm',e1,.inl ?_⟩
  have:(q==NameKind.free)=true:=by
   simp only [Bool.and_eq_true] at hc
   exact hc.1.1
  simpa using this
 ·have e1:n=x:=congrArg Prod.fst e
  have e2:q=k:=congrArg Prod.snd e
  refine⟨(n,q),hm',e1,?_⟩
  rcases hk with hk | hk
  ·exact .inr (e2.trans hk)
  ·exact .inl (e2.trans hk)
theorem dG {x:Str} {c:Addr}:∀(ns:List (Str × NameKind)) (n:Nat) (acc:List (Str × Addr)),(cellsFrom n ns acc).lookup x=some c->acc.lookup x=some c∨n<=c
 | [],_,_,h=>.inl h
 | (y,k)::r,n,acc,h=>by
  unfold cellsFrom at h
  split at h
  ·rcases dG r _ _ h with z | z
   ·rw [List.lookup_cons] at z
    split at z
    ·cases z;exact .inr (Nat.le_refl _)
    ·exact .inl z
   ·exact .inr (Nat.le_of_succ_le z)
  ·exact dG r _ _ h
theorem jf {x:Str} {c:Addr}:∀(ns:List (Str × NameKind)) (n:Nat) (acc:List (Str × Addr)),ns.lookup x=some .cell->(cellsFrom n ns acc).lookup x=some c->n<=c
 | [],_,_,h,_=>by cases h
 | (y,k)::r,n,acc,h,e=>by
  rw [List.lookup_cons] at h
  unfold cellsFrom at e
  split at h
  ·rename_i hy
   cases h
   rcases dG r _ _ e with z | z
   ·rw [List.lookup_cons,hy] at z
    cases z;exact Nat.le_refl _
   ·exact Nat.le_of_succ_le z
  ·split at e
   ·exact Nat.le_of_succ_le (jf r _ _ h e)
   ·exact jf r _ _ h e
theorem gD {x:Str}:∀(ns:List (Str × NameKind)) (n:Nat) (acc:List (Str × Addr)),(∀ y∈ns,y.2=.cell->x≠y.1)->(cellsFrom n ns acc).lookup x=acc.lookup x
 | [],_,_,_=>rfl
 | (y,k)::r,n,acc,h=>by
  unfold cellsFrom
  split
  ·rename_i hk
   rw [gD r _ _ λz hz=>h z (List.mem_cons_of_mem _ hz),List.lookup_cons]
   have:(x==y)=false:=by simpa using h (y,k) List.mem_cons_self (by simpa using hk)
   rw [this]
  ·exact gD r _ _ λz hz=>h z (List.mem_cons_of_mem _ hz)
theorem je:∀(ns:List (Str × NameKind)) (n:Nat) (acc:List (Str × Addr)),(∀ x c,acc.lookup x=some c->c<n)->(∀ x y c,acc.lookup x=some c->acc.lookup y=some c->x=y) ->
  ∀ x y c,(cellsFrom n ns acc).lookup x=some c->(cellsFrom n ns acc).lookup y=some c->x=y
 | [],_,_,_,h=>h
 | (z,k)::r,n,acc,hl,hi=>by
  unfold cellsFrom
  split
  ·refine je r _ _ (λx c e=>?_) λx y c e1 e2=>?_
   ·rw [List.lookup_cons] at e
    split at e
    ·cases e;exact Nat.lt_succ_self _
    ·exact Nat.lt_succ_of_lt (hl x c e)
   ·rw [List.lookup_cons] at e1 e2
    split at e1<;>split at e2
    ·rename_i a _ b
     rw [eq_of_beq a,eq_of_beq b]
    ·cases e1;exact absurd (hl y _ e2) (Nat.lt_irrefl _)
    ·cases e2;exact absurd (hl x _ e1) (Nat.lt_irrefl _)
    ·exact hi x y c e1 e2
  ·exact je r _ _ hl hi
theorem gC:∀(ns:List (Str × NameKind)) (h:Heap) (acc:List (Str × Addr)),(∀ x c,acc.lookup x=some c->∃ v,h.IsCell c v)->∀ x c,(cellsFrom h.objs.size ns acc).lookup x=some c->∃ v,(pushCells h ns).IsCell c v
 | [],_,_,h=>h
 | (z,k)::r,h,acc,hl=>by
  unfold cellsFrom pushCells
  split
  ·have:=gC r (h.push { cls:=.type "cell",data:=.cell none }) ((z,h.objs.size)::acc) λx c e=>by
    rw [List.lookup_cons] at e
    split at e
    ·cases e;exact⟨none,_,Heap.get?_push_size _ rfl,rfl⟩
    ·obtain⟨v,q⟩:=hl x c e
     exact⟨v,q.keeps λb o e=>Heap.get?_push_of_some _ e⟩
   rwa [Heap.size_push] at this
  ·exact gC r h acc hl
theorem fP {M:Model} {A:Around} {E:Value->Shared->Prop} {s:Shared} {scope:Scope} {g:Addr} {cl:List (Str × Addr)} {qual:Str} {env:Env} {Q:Env->Shared->Prop}
  (h:Q (newEnv scope s.heap.objs.size g (cellsFrom (s.heap.objs.size+1) scope.names cl) qual none .none (some env) builtinsNs) { s with heap:=pushCells (s.heap.push { cls:=.type "dict",data:=.dict #[] }) scope.names }) :
  wpAny M A (newFunctionEnv scope g cl [] qual none .none (some env)) Q E s:=by
 simp only [newFunctionEnv,Option.isSome_some,if_true]
 refine wpAny_bind (wpAny_alloc ?_)
 refine wpAny_bind (wpAny_layCells _ (λname kind cells=>by cases hkc:kind==NameKind.cell<;>simp [hkc]) _ _ _ _ ?_)
 rw [show ({ s with heap:=s.heap.push { cls:=.type "dict",data:=.dict #[] } }:Shared).heap.objs.size=s.heap.objs.size+1 from Heap.size_push ..]
 exact wpAny_bind (wpAny_pure (wpAny_pure h))
def lobj (ys:List Value):Obj:={ cls:=.type "list",data:=.seq ys.toArray ys.length }
def mO (X:Cx) (ifs:List Expr) (t:TT):Prop :=
 ∀(pins:List (Addr × Obj)) (s:Shared) (σ:St) (H:Hp) (Q:Bool->Hp->Prop),Inv X pins σ H s->t σ H Q ->
  wpAny (model X.prog X.w) X.A (forIn ifs true λc r=>if r=true then do let ok <- isTrue c X.env (eval c X.env);pure (ForInStep.yield ok) else pure (ForInStep.yield r)) (TP X pins σ Q) X.xe s
def oX:TT:=λ_ H Q=>Q true H
theorem cZ {X:Cx}:mO X [] oX:=λpins s σ H Q I h=>wpAny_tests_nil ⟨H,I,h⟩
def a6:List (Option V)->List (Option V)->Prop
 | [],[]=>True
 | none::r,_::r'=>a6 r r'
 | some v::r,some u::r'=>u=v/\a6 r r'
 | _,_=>False
theorem a6.len:∀{a b:List (Option V)},a6 a b->a.length=b.length
 | [],[],_=>rfl
 | none::r,_::r',h=>by simp [a6.len (a:=r) (b:=r') h]
 | some v::r,some u::r',h=>by simp [a6.len (a:=r) (b:=r') h.2]
 | some v::r,none::r',h=>h.elim
 | some v::r,[],h=>h.elim
 | none::r,[],h=>h.elim
 | [],_::_,h=>h.elim
theorem a6.get:∀{a b:List (Option V)},a6 a b->∀(i:Nat) v,a[i]?=some (some v)->b[i]?=some (some v)
 | [],[],_,i,v,h=>by simp at h
 | none::r,_::r',h,0,v,e=>by simp at e
 | none::r,_::r',h,i+1,v,e=>by
  have:=a6.get (a:=r) (b:=r') h i v (by simpa using e)
  simpa using this
 | some v::r,some u::r',h,0,v',e=>by
  have q:v=v':=by simpa using e
  have:=h.1
  simp [this,q]
 | some v::r,some u::r',h,i+1,v',e=>by
  have:=a6.get (a:=r) (b:=r') h.2 i v' (by simpa using e)
  simpa using this
 | some v::r,none::r',h,_,_,_=>h.elim
 | some v::r,[],h,_,_,_=>h.elim
 | none::r,[],h,_,_,_=>h.elim
 | [],_::_,h,_,_,_=>h.elim
def tD (js:List (Option Nat)) (wi:TI) (g:TG) (tt:TT) (te:TE):TE:=λσ H Q=>wi σ H λJ H1=>∃ W:Nat->Nat->List V->Hp->Prop,(∃ m,W 0 m [] H1)/\∀ i m ys H,W i m ys H ->
 (J.stop i H/\ys.length<=sizeLine/\∀ p,H p=none->Q (.ref p) (upd H p (.lst ys))) ∨
 (J.go i H/\ys.length<sizeLine/\∃ N:List V->Hp->Prop,(∀ ys' H',N ys' H'->∃ m',m'<m/\W (i+1) m' ys' H') /\
  ∀ x H',J.yld i H x H'->g x (cf js σ) H' λσ2 H2=>a6 (cf js σ) σ2/\tt σ2 H2 λb H3=>if b=true then te σ2 H3 λv H4=>N (ys++[v]) H4 else N ys H3)
structure i8 (X:Cx) (C:Addr) (s₂:Shared) (H₂:Hp) (fp:List Addr):Prop where
 inv:∃ pins σ,Inv X pins σ H₂ s₂
 new:∀ b∈fp,X.s₀.heap.objs.size<=b∨b∈X.ex
 nof:∀ b∈cQ X.stack,b∉fp
 le:s₂.heap.objs.size<=C
def pf (X:Cx) (elt target:Expr) (gens:List Comprehension) (ifs:List Expr) (scope:Scope) (pos:Pos) (Bd:(Value->Shared->Prop)->Value->Env->(Shared->Prop)->Shared->Prop):Prop :=
 ∀(Ex:Value->Shared->Prop) (R:Result->Shared->Prop) (s:Shared) (it acc:Value) (env:Env) (I:Nat->Shared->Prop),
  (∀ n s,I n s->wpAny (model X.prog X.w) X.A (pyNext it) (λr s₁=>match r with
   | none=>R (.ok .next) s₁
   | some v=>wpAny (model X.prog X.w) X.A (letOwnedTupleGo target it v) (λ_ s₁'=>wpAny (model X.prog X.w) X.A (assign target env v) (λ_ s₂ =>
     wpAny (model X.prog X.w) X.A (forIn ifs true λc r=>if r=true then do let ok <- isTrue c env (eval c env);pure (ForInStep.yield ok) else pure (ForInStep.yield r)) (λok s₃ =>
      if ok=true then Bd Ex acc env (λs₅=>∃ m,m<n/\I m s₅) s₃ else ∃ m,m<n/\I m s₃) Ex s₂) Ex s₁') Ex s₁) Ex s) ->
  ∀ n,I n s->(∀ e s',Ex e s'->notedBy (model X.prog X.w) X.A env (λe s''=>R (.error e) s'') e s')->codeAny (model X.prog X.w) X.A (.compLoop (.ListComp elt gens scope pos) 0 it acc env) R s
structure jL (Y:Cx) (D:Addr) (P:List (Addr × Obj)):Prop where
 ne:∀ p∈P,p.1≠D
 new:Y.s₀.heap.objs.size<=D
 cell:∀ x c,Y.env.cells.lookup x=some c->c≠D
theorem pU {X:Cx} {Ex:Addr->Shared->Hp->List Addr->Value->Shared->Prop} {elt target iter:Expr} {rest:List Comprehension} {ifs:List Expr} {scope:Scope} {pos:Pos} {N':List Str} {js:List (Option Nat)} {cl:List (Str × Addr)} {g:TG} {tt:TT} {Cc:List V->Prop} {tb:List V->St->Hp->(List V->Hp->Prop)->Prop} {Bd:(Value->Shared->Prop)->Value->Env->(Shared->Prop)->Shared->Prop} (hcalm:X.calm=true) (hloop:pf X elt target (⟨target,iter,ifs,0⟩::rest) ifs scope pos Bd)
  (K:eX X N' js scope cl)
  (hg:∀ C s₂ H₂ fp,i8 X C s₂ H₂ fp->PG (bB X (Ex C s₂ H₂ fp) N' scope cl C s₂ H₂ fp) target g) (ht:∀ C s₂ H₂ fp,i8 X C s₂ H₂ fp->mO (bB X (Ex C s₂ H₂ fp) N' scope cl C s₂ H₂ fp) ifs tt) (hB:∀ C s₂ H₂ fp,i8 X C s₂ H₂ fp->∀(D:Addr) ys vys P σ H s N Ps,Inv (bB X (Ex C s₂ H₂ fp) N' scope cl C s₂ H₂ fp) ([(D,lobj ys)]++P) σ H s->Vals vys ys->jL (bB X (Ex C s₂ H₂ fp) N' scope cl C s₂ H₂ fp) D P->Cc vys->tb vys σ H N ->
   (∀ ys' vys' H' s',Inv (bB X (Ex C s₂ H₂ fp) N' scope cl C s₂ H₂ fp) ([(D,lobj ys')]++P) σ H' s'->Vals vys' ys'->N vys' H'->Ps s')->Bd (Ex C s₂ H₂ fp) (.ref D) (bB X (Ex C s₂ H₂ fp) N' scope cl C s₂ H₂ fp).env Ps s)
  (herr:∀ C s₂ H₂ fp use Q' acc e s',Ex C s₂ H₂ fp e s'->notedBy (model X.prog X.w) X.A (compEnvC scope (cellsFrom (C+1) scope.names cl) C X.env) (λe s''=>compPost (model X.prog X.w) X.A X.xe use Q' acc C (.error e) s'') e s')
  {pins:List (Addr × Obj)} {σ:St} {Q:VK} {use:Option (Value->Sem Unit)} {Q':Value->Shared->Prop} {itv:Value} {s2:Shared}
  (h2:rV X pins σ target (λJ H1=>∃ W:Nat->Nat->List V->Hp->Prop,(∃ m,W 0 m [] H1)/\∀ i m ys H,W i m ys H ->
 (J.stop i H/\ys.length<=sizeLine/\∀ p,H p=none->Q (.ref p) (upd H p (.lst ys))) ∨
 (J.go i H/\Cc ys/\∃ N:List V->Hp->Prop,(∀ ys' H',N ys' H'->∃ m',m'<m/\W (i+1) m' ys' H') /\
  ∀ x H',J.yld i H x H'->g x (cf js σ) H' λσ2 H2=>a6 (cf js σ) σ2/\tt σ2 H2 λb H3=>if b=true then tb ys σ2 H3 N else N ys H3)) itv s2)
  (hok:∀ C D vys H4 s5,(∃ m,s5.heap.Ns C m)->s2.heap.objs.size<=D->D<=C->D≠C->H4 D=none->H4 C=none->(∀ h',Heap.SameBut C s5.heap h'->Inv X pins σ (upd H4 D (.lst vys)) { s5 with heap:=h' })->Q (.ref D) (upd H4 D (.lst vys))->compPost (model X.prog X.w) X.A X.xe use Q' (.ref D) C (.ok .next) s5) :
  wpAny (model X.prog X.w) X.A (newList []) (λacc s₃=>wpAny (model X.prog X.w) X.A (newFunctionEnv scope X.env.globals cl [] X.env.qual none .none (some X.env)) (λcenv s₄ =>
   codeAny (model X.prog X.w) X.A (.compStart (.ListComp elt (⟨target,iter,ifs,0⟩::rest) scope pos) 0 itv acc { cenv with scope:=relabel scope X.env }) (compPost (model X.prog X.w) X.A X.xe use Q' acc cenv.locals) s₄) X.xe s₃) X.xe s2:=by
 obtain⟨it,fp,tn,J,H2,e,I2,T,st2,f2,W,⟨m0,w0⟩,turn⟩:=h2
 subst e
 refine wpAny_newObj_type (fP ?_)
 dsimp only
 generalize hP2:s2.heap.push { cls:=.type "list",dict:=none,data:=.seq ([]:List Value).toArray }=P2
 generalize hh₁:pushCells (P2.push { cls:=.type "dict",data:=.dict #[] }) scope.names=h₁
 have hns₁:h₁.Ns P2.objs.size λ_=>none:=hh₁▸(Heap.Ns.new P2 (.type "dict")).keeps (pushCells_keeps _ _)
 have upP:∀ b o,P2.get? b=some o->h₁.get? b=some o:=λb o e=>hh₁▸pushCells_keeps _ _ b o (Heap.get?_push_of_some _ e)
 have hcel:∀ x c,(cellsFrom (P2.objs.size+1) scope.names cl).lookup x=some c->∃ v,h₁.IsCell c v:=by
  have:=gC scope.names (P2.push { cls:=.type "dict",data:=.dict #[] }) cl λx c e=>by
   obtain⟨v,q⟩:=I2.cell x c (K.sub.get x c e)
   exact⟨v,q.keeps λb o e=>Heap.get?_push_of_some _ (hP2▸Heap.get?_push_of_some _ e)⟩
  rw [Heap.size_push,hh₁] at this
  exact this
 have hC:P2.objs.size=s2.heap.objs.size+1:=by rw [<- hP2,Heap.size_push]
 have hDC:s2.heap.objs.size≠P2.objs.size:=by rw [hC];exact Nat.ne_of_lt (Nat.lt_succ_self _)
 have below:∀ b,b<s2.heap.objs.size->b≠P2.objs.size/\b≠s2.heap.objs.size:=λb hb=>⟨by rw [hC];exact Nat.ne_of_lt (Nat.lt_succ_of_lt hb),Nat.ne_of_lt hb⟩
 have old:∀ b o,s2.heap.get? b=some o->h₁.get? b=some o:=λb o e=>upP b o (hP2▸Heap.get?_push_of_some _ e)
 have hacc:h₁.get? s2.heap.objs.size=some (lobj []):=upP _ _ (hP2▸Heap.get?_push_size _ rfl)
 generalize hCe:P2.objs.size=C at *
 generalize hDe:s2.heap.objs.size=D at *
 let Y:Cx:=bB X (Ex C s2 H2 fp) N' scope cl C s2 H2 fp
 have clLt:∀ y c,cl.lookup y=some c->c<D:=λy c e=>by
  obtain⟨v,q⟩:=I2.cell y c (K.sub.get y c e)
  rw [<- hDe]
  exact q.lt
 have cellsX:∀ y c,Y.env.cells.lookup y=some c->cl.lookup y=some c∨C+1<=c:=λy c e=>dG _ _ _ e
 have cellNe:∀ y c,Y.env.cells.lookup y=some c->c≠D:=λy c e=>by
  rcases cellsX y c e with z | z
  ·exact Nat.ne_of_lt (clLt y c z)
  ·exact Nat.ne_of_gt (by omega)
 have freshH:∀ a,D<=a->H2 a=none:=λa ha=>I2.hok.fresh (by rw [hDe];exact ha)
 have hDleC:D<=C:=by rw [hC];exact Nat.le_succ _
 have lc:i8 X C s2 H2 fp:=⟨⟨pins,σ,I2⟩,λb hb=>((f2 b hb).2.2.2.1).symm,λb hf hb=>by
   rcases List.mem_cons.mp (I2.c7 b hf) with z | z
   ·exact (f2 b hb).2.1 z
   ·exact (f2 b hb).2.2.1 z,by rw [hDe];exact hDleC⟩
 have hbelowfp:∀ b∈fp,b<D:=λb hb=>by
  obtain⟨o,e,_⟩:=T.obj _ _ st2 b hb
  rw [<- hDe]
  exact Heap.lt_size e
 have okY:Y.Ok:=by
  refine⟨I2.ok.mod,K.kind,I2.ok.glob,I2.ok.blt,?_,je _ _ _ (λx c e=>Nat.lt_succ_of_lt (Nat.lt_of_lt_of_le (clLt x c e) hDleC)) (λx y c e1 e2=>I2.ok.inj x y c (K.sub.get x c e1) (K.sub.get y c e2)),λx hx=>?_,λx c hf hc=>?_,I2.ok.hd,I2.ok.frames,.inl rfl,λb hb=>?_,I2.bs,Nat.le_trans I2.ok.bsz I2.sz,λb o e hb=>?_,λb hb hf=>?_,I2.stack,I2.cJ⟩
  ·show s2.heap.objs.size<=C
   rw [hDe];exact hDleC
  ·have hx':(relabel scope X.env).names.lookup x=some .cell∨(relabel scope X.env).names.lookup x=some .free:=hx
   have:∃ y∈scope.names,y.1=x/\(y.2=.free∨y.2=.cell):=by
    rcases hx' with q | q
    ·exact eE q (.inl rfl)
    ·exact eE q (.inr rfl)
   obtain⟨y,hm,e1,e2⟩:=this
   refine Option.isSome_iff_exists.mp (PySem.W.cellsFrom_some _ _ _ ?_)
   rcases e2 with e2 | e2
   ·have q:=K.has y hm e2
    rw [e1] at q
    exact .inr q
   ·exact .inl (e1▸(K.nocell y hm e2).1)
  ·have hf':scope.names.lookup x=some .cell:=by simpa using (show (scope.names.lookup x==some .cell)=true from hf)
   have:=jf _ _ _ hf' hc
   show s2.heap.objs.size<=c
   rw [hDe];exact Nat.le_trans hDleC (Nat.le_of_succ_le this)
  ·refine⟨Nat.ne_of_lt (Nat.lt_of_lt_of_le (hbelowfp b hb) hDleC),λx c e=>?_⟩
   rcases cellsX x c e with z | z
   ·exact (f2 b hb).2.2.2.2.1 x c (K.sub.get x c z)
   ·exact Nat.ne_of_gt (Nat.lt_of_lt_of_le (Nat.lt_of_lt_of_le (hbelowfp b hb) hDleC) (Nat.le_of_succ_le z))
  ·rcases (f2 b hb).2.2.2.1 with z | z
   ·exact I2.ok.noex b o e z
   ·exact absurd (Nat.lt_of_lt_of_le (Heap.lt_size e) (Nat.le_trans I2.ok.bsz z)) (Nat.lt_irrefl _)
  ·rcases List.mem_cons.mp (I2.c7 b hf) with z | z
   ·exact (f2 b hb).2.1 z
   ·exact (f2 b hb).2.2.1 z
 -- the block's names
 have locY:∀{s':Shared} {H':Hp} {σ':St},True:=λ{_ _ _}=>trivial
 have invY0:Inv Y [(D,lobj [])] (cf js σ) H2 { s2 with heap:=h₁ }:=by
  refine⟨okY,rfl,I2.bare,Un.kept old,⟨_,hns₁,λi x v e1 e2 vis=>?_⟩,hcel,freshH C hDleC,λy c e=>?_,λp hp=>?_,I2.hok.kept old,?_⟩
  ·-- a name of the block that has a value stands outside in a cell
   have e2':(cf js σ)[i]?=some (some v):=e2
   unfold cf at e2'
   rw [List.getElem?_map] at e2'
   cases ej:js[i]? with
   | none=>rw [ej] at e2';cases e2'
   | some o =>
    rw [ej] at e2'
    cases o with
    | none=>cases e2'
    | some j =>
     obtain⟨n1,n2,n3,n4,n5⟩:=K.jok i j x ej e1
     have e3:(σ[j]?).join=some v:=by simpa using e2'
     have e4:σ[j]?=some (some v):=by
      cases q:σ[j]? with
      | none=>rw [q] at e3;cases e3
      | some z=>rw [q] at e3;simpa using e3
     obtain⟨m,hn,hl⟩:=I2.loc
     obtain⟨u,r,l⟩:=hl j x v n1 e4 n3
     refine⟨u,r,.inr ⟨n5,?_⟩⟩
     rcases l with⟨k,_⟩|⟨k,c,ec,z⟩
     ·exact absurd k n4
     ·obtain⟨c',ec'⟩:=Option.isSome_iff_exists.mp n2
      have ee:=K.sub.get x c' ec'
      rw [ec] at ee
      cases ee
      refine⟨c,(gD _ _ _ λy hy hk=>(K.nocell y hy hk).2 (some j,x) ?_ rfl).trans ec',?_⟩
      ·exact List.mem_of_getElem? (i:=i) (by rw [List.getElem?_zip_eq_some];exact⟨ej,e1⟩)
      obtain⟨o,ho,hd⟩:=z
      exact⟨o,old c o ho,hd⟩
  ·rcases cellsX y c e with z | z
   ·exact I2.freeC y c (K.sub.get y c z)
   ·exact freshH c (by omega)
  ·have hp':p∈[(D,lobj [])]:=hp
   have e:p=(D,lobj []):=by simpa using hp'
   subst e
   refine⟨hacc,freshH D (Nat.le_refl _),hDC,λz=>?_,λv z=>by cases z⟩
   rcases List.mem_cons.mp (I2.c7 D z) with q | q
   ·exact absurd (q▸I2.lt) (by rw [hDe];exact Nat.lt_irrefl _)
   ·exact I2.pX (by rw [hDe];exact Nat.le_refl _) q
  ·show (cf js σ).length=N'.length
   unfold cf
   rw [List.length_map]
   exact K.jlen
 have hDfs:D∉Y.fs:=λz=>by
  rcases List.mem_cons.mp (I2.c7 D z) with q | q
  ·exact absurd (q▸I2.lt) (by rw [hDe];exact Nat.lt_irrefl _)
  ·exact I2.pX (by rw [hDe];exact Nat.le_refl _) q
 have stat:∀{H':Hp} {ys:List Value},(∀ b∈fp,H' b=none)->∀ b∈fp,i7 Y [(D,lobj ys)] H' b:=λ{H' ys} hn b hb=>by
  refine⟨hn b hb,Nat.ne_of_lt (Nat.lt_of_lt_of_le (hbelowfp b hb) hDleC),okY.exfs b hb,.inl hb,okY.exf b hb |>.2,λp hp=>?_⟩
  have hp':p∈[(D,lobj ys)]:=hp
  have e:p=(D,lobj ys):=by simpa using hp'
  subst e
  exact Nat.ne_of_gt (hbelowfp b hb)
 have loop:∀ s3:Shared,s3={ s2 with heap:=h₁ } ->
   codeAny (model X.prog X.w) X.A (.compLoop (.ListComp elt (⟨target,iter,ifs,0⟩::rest) scope pos) 0 (.ref it) (.ref D) (compEnvC scope (cellsFrom (C+1) scope.names cl) C X.env)) (compPost (model X.prog X.w) X.A X.xe use Q' (.ref D) C) s3:=by
  rintro s3 rfl
  refine hloop _ _ _ _ _ _ (λn s'=>∃ i ys vys H',Inv Y [(D,lobj ys)] (cf js σ) H' s'/\tn i s'.heap/\(∀ b∈fp,H' b=none)/\Vals vys ys/\W i n vys H') ?_ m0
   ⟨0,[],[],H2,invY0,T.keep _ _ _ st2 λb _ o e=>old b o e,λb hb=>(f2 b hb).1,.nil,w0⟩ λe s' z=>herr C s2 H2 fp use Q' (.ref D) e s' z
  rintro n s4 ⟨i,ys,vys,H4,I4,st4,fr4,rv,w4⟩
  rcases turn i n vys H4 w4 with⟨stop,hz,qn⟩|⟨go,hz,Nn,hN,step⟩
  ·refine a8 (T.done Y rfl rfl rfl hcalm i _ s4 _ H4 (Ex C s2 H2 fp) I4 (stat fr4) st4 stop) λr s5 ⟨hr,I5⟩=>?_
   subst hr
   obtain⟨m5,hn5,_⟩:=I5.loc
   obtain⟨pD,nD,_,_,_⟩:=I5.pin (D,lobj ys) (by show _∈[(D,lobj ys)];simp)
   have nC:H4 C=none:=I5.free
   refine hok C D vys H4 s5 ⟨m5,hn5⟩ (Nat.le_refl _) hDleC hDC nD nC (λh' hsb=>?_) (qn D nD)
   have pD':h'.get? D=some (lobj ys):=hsb.extBut _ _ hDC pD
   refine I2.ot (s':={ s5 with heap:=h' }) (ch:=fp) I5.os ?_ ?_ I5.bare (λb hb=>?_)
   ·-- kept
    have u:=I5.base
    have neC:∀ b o,s2.heap.get? b=some o->b≠C/\b≠D:=λb o e=>by
     have:=Heap.lt_size e
     rw [hDe] at this
     exact⟨Nat.ne_of_lt (Nat.lt_of_lt_of_le this hDleC),Nat.ne_of_lt this⟩
    refine⟨λb o e nn hb hx=>hsb.extBut b o (neC b o e).1 (u.keep b o e nn hb hx),λb o e nn hb hx=>?_,λb o e nn hx=>?_,λb o e hx=>?_,λb xs e=>?_,λb o xs e=>?_,λb ps e=>?_⟩
    ·obtain⟨sl,q⟩:=u.slot b o e nn hb hx
     exact⟨sl,hsb.extBut b _ (neC b o e).1 q⟩
    ·rw [ak (neC b o e).2]
     exact u.free b o e nn hx
    ·obtain⟨o',q⟩:=u.there b o e hx
     exact⟨o',hsb.extBut b _ (neC b o e).1 q⟩
    ·rw [ak (aM (u.tups b xs e) nD)]
     exact u.tups b xs e
    ·rw [ak (aM (u.frzs b o xs e) nD)]
     exact u.frzs b o xs e
    ·obtain⟨more,q⟩:=u.tbls b ps e
     exact⟨more,by rw [ak (aM q nD)];exact q⟩
   ·intro b o e
    by_cases hb:b=D
    ·subst hb
     rw [ai] at e
     cases e
     exact⟨hz,ys,_,rv,pD'⟩
    ·rw [ak hb] at e
     refine (I5.hok b o e).fN (λc w' hc q=>hsb.extBut c w' ?_ q) (λc q=>by rw [ak (aM q nD)];exact q) λc xs q=>by rw [ak (aM q nD)];exact q
     rintro rfl
     rcases hc with rfl | hc
     ·rw [nC] at e;cases e
     ·rw [nC] at hc;cases hc
   ·exact⟨(f2 b hb).2.2.2.1,(f2 b hb).2.1,(f2 b hb).2.2.2.2.1,(f2 b hb).2.2.2.2.2⟩
  ·refine a8 (T.item Y rfl rfl rfl hcalm i _ s4 _ H4 (Ex C s2 H2 fp) I4 (stat fr4) st4 go) λr s5 ⟨u,hr,h5⟩=>?_
   subst hr
   refine a8 h5 λ_ s6 ⟨x,H6,I6,r6,y6,st6,fr6⟩=>?_
   have I6':=I6.pinned (stat fr6) (T.obj _ _ st6)
   refine a8 (hg C s2 H2 fp lc _ s6 _ H6 x u _ I6' r6 (step x H6 y6)) λ_ s7 ⟨σ7,H7,I7,k7,q7⟩=>?_
   refine a8 (ht C s2 H2 fp lc _ s7 σ7 H7 _ I7 q7) λb s8 ⟨H8,I8,q8⟩=>?_
   -- behind the tests and the element: the state goes back to what the next turn wants
   have again:∀{ys':List Value} {s9:Shared} {H9:Hp},Inv Y ([(D,lobj ys')]++d7 fp s6.heap) σ7 H9 s9->Inv Y [(D,lobj ys')] (cf js σ) H9 s9/\tn (i+1) s9.heap/\∀ b∈fp,H9 b=none:=λ{ys' s9 H9} I9=>by
    refine⟨(I9.dS).weak k7.len k7.get,T.keep _ _ _ st6 λb hb o e=>(I9.pin (b,o) (List.mem_append_right _ (List.mem_append_right _ (cG hb e)))).1,λb hb=>?_⟩
    obtain⟨o,e,d⟩:=T.obj _ _ st6 b hb
    exact (I9.pin (b,o) (List.mem_append_right _ (List.mem_append_right _ (cG hb e)))).2.1
   cases b with
   | false =>
    rw [if_neg Bool.false_ne_true] at q8 ⊢
    obtain⟨m',hm,w8⟩:=hN _ _ q8
    obtain⟨J8,t8,f8⟩:=again I8
    exact⟨m',hm,i+1,ys,vys,H8,J8,t8,f8,rv,w8⟩
   | true =>
    rw [if_pos rfl] at q8 ⊢
    have aok:jL Y D (d7 fp s6.heap):=⟨λp hp z=>absurd (hbelowfp p.1 (gd hp).1) (by rw [z];exact Nat.lt_irrefl _),by show s2.heap.objs.size<=D;rw [hDe];exact Nat.le_refl _,λx c e=>cellNe x c e⟩
    refine hB C s2 H2 fp lc D ys vys _ σ7 H8 s8 Nn _ I8 rv aok hz q8 λys' vys' H9 s9 I9 rv' q9=>?_
    obtain⟨J9,t9,f9⟩:=again I9
    obtain⟨m',hm,w9⟩:=hN _ _ q9
    exact⟨m',hm,i+1,ys',vys',H9,J9,t9,f9,rv',w9⟩
 exact codeAny_compStart_list (loop _ rfl) (T.self _ 0 _ _ _ (T.keep _ _ _ st2 λb _ o e=>old b o e) (loop _ rfl))
theorem mU {Y:Cx} {D:Addr} {ys:List Value} {P:List (Addr × Obj)} {σ:St} {H:Hp} {s:Shared} {y:Value} {Q:Value->Shared->Prop} {E:Value->Shared->Prop} (hpn:Y.pn=[]) (I:Inv Y ([(D,lobj ys)]++P) σ H s) (ok:jL Y D P) (z:ys.length<sizeLine)
  (q:∀ s',Inv Y ([(D,lobj (ys++[y]))]++P) σ H s'->Q .none s'):wpAny (model Y.prog Y.w) Y.A (call (.builtin "list.append") [.ref D,y]) Q E s:=by
 obtain⟨pD,nD,neD,nfD,_⟩:=I.pin (D,lobj ys) (by rw [hpn];simp)
 refine append_at (hsz:=by show ys.toArray.size<=sizeLine;rw [List.size_toArray];exact Nat.le_of_lt z) (show s.heap.get? D=some { cls:=.type "list",data:=.seq ys.toArray ys.length } from pD) λh' hsb hD'=>q _ ?_
 have eD:h'.get? D=some (lobj (ys++[y])):=by
  rw [hD']
  unfold lobj
  rw [List.length_append,List.length_singleton,List.push_toArray]
 have J1:Inv Y P σ H s:=I.eT λp hp=>I.pin p (List.mem_append_right _ (List.mem_append_right _ hp))
 have J2:Inv Y P σ H { s with heap:=h' }:=J1.turned (t':=s.toks) (it:=D) (λb o hb e=>hsb.extBut b o hb e) nD neD (.inr ok.new) ok.cell λp hp=>ok.ne p (by rw [hpn] at hp;simpa using hp)
 refine J2.eT λp hp=>?_
 rcases List.mem_append.mp hp with hp | hp
 ·have e:p=(D,lobj (ys++[y])):=by simpa using hp
  subst e
  exact⟨eD,nD,neD,nfD,λv z=>by cases z⟩
 ·exact J2.pin p (List.mem_append_right _ hp)
theorem k9 {Y:Cx} {D:Addr} {ys:List Value} {vys:List V} {P:List (Addr × Obj)} {σ:St} {H:Hp} {s:Shared} {elt:Expr} {te:TE} {N:List V->Hp->Prop} {Ps:Shared->Prop} (hpn:Y.pn=[]) (he:PE Y elt te) (I:Inv Y ([(D,lobj ys)]++P) σ H s) (rv:Vals vys ys) (ok:jL Y D P) (z:vys.length<sizeLine) (q:te σ H λv H4=>N (vys++[v]) H4)
  (k:∀ ys' vys' H' s',Inv Y ([(D,lobj ys')]++P) σ H' s'->Vals vys' ys'->N vys' H'->Ps s'):wpAny (model Y.prog Y.w) Y.A (jQ elt (.ref D) Y.env) (λ_ s'=>Ps s') Y.xe s:=by
 unfold jQ
 refine wpAny_bind (a8 (he _ s σ H _ I q) λy s9 ⟨vy,H9,I9,r9,q9⟩=>?_)
 exact wpAny_bind (mU hpn I9 ok (by rw [<- rv.length];exact z) λs' I'=>wpAny_pure (k _ _ _ _ I' (rv.append (.cons r9 .nil)) q9))
theorem ny {X:Cx} {Ex:Addr->Shared->Hp->List Addr->Value->Shared->Prop} {elt target iter:Expr} {ifs:List Expr} {scope:Scope} {pos:Pos} {N':List Str} {js:List (Option Nat)} {cl:List (Str × Addr)} {g:TG} {tt:TT} {te:TE} (hcalm:X.calm=true)
  (K:eX X N' js scope cl)
  (hg:∀ C s₂ H₂ fp,i8 X C s₂ H₂ fp->PG (bB X (Ex C s₂ H₂ fp) N' scope cl C s₂ H₂ fp) target g) (ht:∀ C s₂ H₂ fp,i8 X C s₂ H₂ fp->mO (bB X (Ex C s₂ H₂ fp) N' scope cl C s₂ H₂ fp) ifs tt) (he:∀ C s₂ H₂ fp,i8 X C s₂ H₂ fp->PE (bB X (Ex C s₂ H₂ fp) N' scope cl C s₂ H₂ fp) elt te)
  (herr:∀ C s₂ H₂ fp use Q' acc e s',Ex C s₂ H₂ fp e s'->notedBy (model X.prog X.w) X.A (compEnvC scope (cellsFrom (C+1) scope.names cl) C X.env) (λe s''=>compPost (model X.prog X.w) X.A X.xe use Q' acc C (.error e) s'') e s')
  {pins:List (Addr × Obj)} {σ:St} {Q:VK} {use:Option (Value->Sem Unit)} {Q':Value->Shared->Prop} {itv:Value} {s2:Shared}
  (h2:rV X pins σ target (λJ H1=>∃ W:Nat->Nat->List V->Hp->Prop,(∃ m,W 0 m [] H1)/\∀ i m ys H,W i m ys H ->
 (J.stop i H/\ys.length<=sizeLine/\∀ p,H p=none->Q (.ref p) (upd H p (.lst ys))) ∨
 (J.go i H/\ys.length<sizeLine/\∃ N:List V->Hp->Prop,(∀ ys' H',N ys' H'->∃ m',m'<m/\W (i+1) m' ys' H') /\
  ∀ x H',J.yld i H x H'->g x (cf js σ) H' λσ2 H2=>a6 (cf js σ) σ2/\tt σ2 H2 λb H3=>if b=true then te σ2 H3 λv H4=>N (ys++[v]) H4 else N ys H3)) itv s2)
  (hok:∀ C D vys H4 s5,(∃ m,s5.heap.Ns C m)->s2.heap.objs.size<=D->D<=C->D≠C->H4 D=none->H4 C=none->(∀ h',Heap.SameBut C s5.heap h'->Inv X pins σ (upd H4 D (.lst vys)) { s5 with heap:=h' })->Q (.ref D) (upd H4 D (.lst vys))->compPost (model X.prog X.w) X.A X.xe use Q' (.ref D) C (.ok .next) s5) :
  wpAny (model X.prog X.w) X.A (newList []) (λacc s₃=>wpAny (model X.prog X.w) X.A (newFunctionEnv scope X.env.globals cl [] X.env.qual none .none (some X.env)) (λcenv s₄ =>
   codeAny (model X.prog X.w) X.A (.compStart (.ListComp elt [⟨target,iter,ifs,0⟩] scope pos) 0 itv acc { cenv with scope:=relabel scope X.env }) (compPost (model X.prog X.w) X.A X.xe use Q' acc cenv.locals) s₄) X.xe s₃) X.xe s2 :=
 pU (Bd:=λEx acc env Ps s=>wpAny (model X.prog X.w) X.A (jQ elt acc env) (λ_ s'=>Ps s') Ex s) (Cc:=λys=>ys.length<sizeLine) (tb:=λys σ2 H3 N=>te σ2 H3 λv H4=>N (ys++[v]) H4) hcalm
  (λ_ _ _ it acc env I turn n h hE=>gG I (mG elt target iter ifs scope pos it acc env) turn n h hE) K hg ht
  (λC s₂ H₂ fp lc D ys vys P σ H s N Ps I rv ok z q k=>k9 rfl (he C s₂ H₂ fp lc) I rv ok z q k) herr h2 hok
theorem iS {X:Cx} {elt target iter:Expr} {ifs:List Expr} {scope:Scope} {pos:Pos} {N':List Str} {js:List (Option Nat)} {cl:List (Str × Addr)} {wi:TI} {g:TG} {tt:TT} {te:TE} (hcalm:X.calm=true)
  (K:eX X N' js scope cl) (hi:PI X target iter wi)
  (hg:∀ C s₂ H₂ fp,PG (gF X N' scope cl C s₂ H₂ fp) target g) (ht:∀ C s₂ H₂ fp,mO (gF X N' scope cl C s₂ H₂ fp) ifs tt) (he:∀ C s₂ H₂ fp,PE (gF X N' scope cl C s₂ H₂ fp) elt te)
  (hs:∀ x,foldedSetIterable iter X.env x=pure x:=by intro _;rfl):PE X (.ListComp elt [⟨target,iter,ifs,0⟩] scope pos) (tD js wi g tt te):=by
 intro pins s σ H Q I h
 rw [eval_ListComp]
 refine wpAny_comprehension_free (use:=none) rfl hs K.clos K.kind K.names (a8 (hi pins s σ H _ I h) λv s1 h1=>a8 h1 λitv s2 h2=>?_)
 exact ny (Ex:=λ_ _ _ _ _ _=>False) hcalm K (λC s H f _=>hg C s H f) (λC s H f _=>ht C s H f) (λC s H f _=>he C s H f) (λ_ _ _ _ _ _ _ _ _ z=>z.elim) h2 λC D vys H4 s5 ⟨m,hn⟩ _ _ _ _ _ hI q=>⟨m,hn,λh' hsb=>⟨.ref D,_,hI h' hsb,rfl,q⟩⟩
def Bd (i:Int):Prop:=i.natAbs<2^4000
theorem k8:(10:Nat)^250<=2^4000:=by decide +kernel
theorem Bd.of {i:Int} (h1:-(10^250)<i) (h2:i<10^250):Bd i:=by
 refine Nat.lt_of_lt_of_le ?_ k8
 have:((10:Nat)^250:Nat)=((10:Int)^250).toNat:=by decide +kernel
 rw [this]
 omega
theorem Bd.mono {i j:Int} (h:Bd j) (h':i.natAbs<=j.natAbs):Bd i:=Nat.lt_of_le_of_lt h' h
theorem Bd.bits {i:Int} (h:Bd i):Builtin.Int.intBits i<=2^20 :=
 Nat.le_trans (intBits_le h) (by decide)
theorem Bd.sZ {i j:Int} (h:Bd j):Builtin.divisionGoesByPylong i j=false:=by
 refine PyProof.noPylong_of_log2 ?_
 by_cases z:j.natAbs=0
 ·rw [z];decide
 ·exact Nat.lt_of_lt_of_le ((Nat.log2_lt z).mpr h) (by decide)
section
variable {X:Cx}
theorem aQ:ez X (binaryOp .Mult) (rI (λi j=>Bd i/\Bd j) λi j=>.int (i*j)):=qY λ_ _ _ _ _ _ _ hc q=>mul_int q (IntMulOk.of_bits hc.1.bits hc.2.bits)
theorem br:ez X (binaryOp .FloorDiv) (rI (λ_ j=>0<j/\Bd j) λi j=>.int (i/j)):=qY λi j _ _ _ _ _ hc q=>by
 have h1:(0:Int)<j:=hc.1
 exact floordiv_int (by omega) (by rw [Int.fdiv_eq_ediv_of_nonneg i (by omega)];exact q) (.inl hc.2.sZ)
theorem iI:ez X (inplaceOp .FloorDiv) (rI (λ_ j=>0<j/\Bd j) λi j=>.int (i/j)):=qY λi j _ _ _ _ _ hc q=>by
 have h1:(0:Int)<j:=hc.1
 exact ifloordiv_int (by omega) (by rw [Int.fdiv_eq_ediv_of_nonneg i (by omega)];exact q) (.inl hc.2.sZ)
theorem iJ {op:Operator} {r:R2} (ho:ez X (inplaceOp op) r):sW X op r:=λpins s σ H x y v u Q I r1 r2 h=>ho pins s σ H x y v u Q I r1 r2 h
def oZ (i j k:Nat) (ta:TA):TS:=λD σ H=>ta σ H λvs H1=>∃ v w u,vs=[v,w,u]/\D.nx (((σ.set i (some v)).set j (some w)).set k (some u)) H1
theorem j3 {i j k:Nat} {x y z:Str} {a b c:Expr} {ta:TA} {px py pz pt pos:Pos} {kt k2 pt2} (hc:X.calm=true) (hN:X.N.Nodup) (hi:X.N[i]?=some x) (hj:X.N[j]?=some y) (hk:X.N[k]?=some z) (hij:i≠j) (hik:i≠k) (hjk:j≠k)
  (hx:X.env.scope.names.lookup x=some .local) (hy:X.env.scope.names.lookup y=some .local) (hz:X.env.scope.names.lookup z=some .local) (ha:PA X [a,b,c] ta)
  (hw:swappedStores [.Tuple [.Name x px,.Name y py,.Name z pz] kt pt] (.Tuple [a,b,c] k2 pt2) X.env=pure (some [x,y,z]))
  (hs:swapsWithSole [.Tuple [.Name x px,.Name y py,.Name z pz] kt pt] (.Tuple [a,b,c] k2 pt2) pos.line X.env=pure false:=by rfl) :
  PS X (.Assign [.Tuple [.Name x px,.Name y py,.Name z pz] kt pt] (.Tuple [a,b,c] k2 pt2) pos) (oZ i j k ta):=by
 intro pins s σ H D I h
 rw [exec_Assign_arm]
 refine wpAny_bind (wpAny_standAt ?_)
 rw [hs]
 refine wpAny_bind (wpAny_pure ?_)
 rw [if_neg (by decide)]
 refine wpAny_bind (Tuple_ (a8 (ha _ pins s σ H _ I h) λus s1 ⟨vs,H1,I1,r1,q1⟩=>?_))
 obtain⟨v,w,u,e1,q1⟩:=q1
 subst e1
 obtain⟨u1,u2,u3,rfl,rv,rw',ru⟩:∃ u1 u2 u3,us=[u1,u2,u3]/\RelV v u1/\RelV w u2/\RelV u u3:=by
  cases r1 with
  | cons p q =>
   cases q with
   | cons p' q' =>
    cases q' with
    | cons p'' q'' =>
     cases q''
     exact⟨_,_,_,rfl,p,p',p''⟩
 refine wpAny_newObj_type ?_ (by show 3<=sizeLine;decide)
 have I2:Inv X pins σ H1 { s1 with heap:=s1.heap.push { cls:=.type "tuple",data:=.seq [u1,u2,u3].toArray } }:=I1.kept (t':=s1.toks) λb o e=>Heap.get?_push_of_some _ e
 rw [hw]
 refine wpAny_bind (wpAny_pure ?_)
 show wpAny (model X.prog X.w) X.A (do rule "assign.swapped-stores";let items <- unpackItems (.ref s1.heap.objs.size) 3 none;assignInOrder [λv=>bindName X.env z v,λv=>bindName X.env y v,λv=>bindName X.env x v] items.reverse;pure Flow.next) _ _ _
 refine wpAny_bind (wpAny_rule (wpAny_bind (unpackItems_tuple (items:=#[u1,u2,u3]) (I.ok.hd hc) (IsTup.new s1.heap _) λh' hx'=>?_)))
 have I3:=I2.kept (h':=h') (t':=s1.toks) λb o e=>hx' b o (Nat.ne_of_lt (Heap.lt_size e)) e
 show wpAny _ _ (assignInOrder [λv=>bindName X.env z v,λv=>bindName X.env y v,λv=>bindName X.env x v] [u3,u2,u1] >>= λ_=>pure Flow.next) _ _ _
 refine wpAny_bind (assignInOrder_cons (wpAny_bindName (bo I3 hN hk (.inl hz) ru (λs2 I4=>?_) (.inr hz))))
 refine assignInOrder_cons (wpAny_bindName (bo I4 hN hj (.inl hy) rw' (λs3 I5=>?_) (.inr hy)))
 refine assignInOrder_cons (wpAny_bindName (bo I5 hN hi (.inl hx) rv (λs4 I6=>assignInOrder_nil (wpAny_pure ?_)) (.inr hx)))
 have e:((σ.set k (some u)).set j (some w)).set i (some v)=((σ.set i (some v)).set j (some w)).set k (some u):=by
  rw [List.set_comm _ _ (Ne.symm hij),List.set_comm _ _ (Ne.symm hik),List.set_comm _ _ (Ne.symm hjk)]
 rw [e] at I6
 exact⟨_,H1,I6,q1⟩
def rj (K:PySem.W.Frag):List V->Hp->VK->Prop:=λxs H Q=>∃(a:Addr) (bs:List Bool),xs=[.ref a]/\bh K H a (bs.map V.bl)/\Q (.bl (bs.all id)) H
theorem iw (hc:X.calm=true):cp X (.builtin "all") (rj X.K):=by
 intro pins s σ H xs us Q I r h
 obtain⟨a,bs,rfl,hq,q⟩:=h
 obtain⟨u,rfl,ru⟩:=vals1 r
 cases ru
 obtain⟨its,rv,p,hz⟩:=I.list hq
 have hl:=p.isList
 have hlt:a<s.heap.objs.size:=by obtain⟨_,e,_⟩:=hl;exact Heap.lt_size e
 have hb:∀(i:Nat) v,its[i]?=some v->∃ b,bs[i]?=some b/\v=.bool b:=λi v e=>by
  have hi:i<its.length:=(List.getElem?_eq_some_iff.mp e).1
  have hi2:i<bs.length:=by have:=rv.length;rw [List.length_map] at this;omega
  obtain⟨u,e1,e2⟩:=rv.get (i:=i) (x:=V.bl bs[i]) (by rw [List.getElem?_map,List.getElem?_eq_getElem hi2];rfl)
  rw [e] at e1
  cases e1
  exact⟨bs[i],List.getElem?_eq_getElem hi2,e2⟩
 have hln:its.length=bs.length:=by have:=rv.length;rw [List.length_map] at this;omega
 refine call_all_walk (wpAny_pyIter_list hl ?_)
 refine⟨s.heap.objs.size,[s.heap.objs.size,a],[s.heap.objs.size],its.toArray.size,_,_,λi=>(bs[i]?).getD true,rfl,Walks.list (A:=X.A.in1) (I.ok.hd hc) _ a (Nat.ne_of_lt hlt) its.toArray,
  ⟨⟨_,Heap.get?_push_size _ rfl,rfl,rfl⟩,hl.push _⟩,λi v s' Q' E' hP hQ=>?_,λh' tk hk=>?_⟩
 ·obtain⟨b,e,rfl⟩:=hb i v (by simpa using hP)
  simp only [e,Option.getD_some] at hQ
  exact wpAny_truthy_bool hQ
 ·have e:((List.range its.toArray.size).all λi=>(bs[i]?).getD true)=bs.all id:=by
   rw [List.size_toArray,hln,Bool.eq_iff_iff]
   simp only [List.all_eq_true,List.mem_range,id]
   constructor
   ·intro z b hb'
    obtain⟨i,hi,rfl⟩:=List.mem_iff_getElem.mp hb'
    have:=z i hi
    rwa [List.getElem?_eq_getElem hi,Option.getD_some] at this
   ·intro z i hi
    rw [List.getElem?_eq_getElem hi,Option.getD_some]
    exact z _ (List.getElem_mem hi)
  rw [e]
  exact⟨.bl _,H,I.kept λb o eb=>hk b o (λhm=>by rw [List.mem_singleton.mp hm] at eb;exact Nat.lt_irrefl _ (Heap.lt_size eb)) (Heap.get?_push_of_some _ eb),rfl,q⟩
def lg:V->Option Value
 | .ty n=>some (.type n)
 | .ref a=>some (.ref a)
 | _=>none
end
def aw (K:PySem.W.Frag) (mg:Str->Option Value) (x:Str) (st:Stmt):Prop:=∃ f fd,mK K x x st f fd/\mg x=some (.ref f)
structure Callee (P:Program) (w:World) (K:PySem.W.Frag) (mg:Str->Option Value) (base:Heap) (CX:fF) (k:Nat) (x:Str) (ps:List Str) (sp:Sp):Prop where
 ex:∃ f fd,bN P w K mg base CX k f fd ps sp/\mg x=some (.ref f)/\PySem.W.keepIn K (.ref f)=true/\Binds K fd ps []
section
variable {P:Program} {w:World} {K:PySem.W.Frag} {mg:Str->Option Value} {base:Heap} {CX:fF} {k:Nat} {x:Str} {ps:List Str} {sp:Sp}
theorem Callee.imp {sp':Sp} (C:Callee P w K mg base CX k x ps sp) (h:∀ vs H Q E,sp' vs H Q E->sp vs H Q E):Callee P w K mg base CX k x ps sp':=by
 obtain⟨f,fd,F,a,b,c⟩:=C.ex
 exact⟨f,fd,F.imp h,a,b,c⟩
theorem Callee.mono {j:Nat} (C:Callee P w K mg base CX k x ps sp) (h:k<=j):Callee P w K mg base CX j x ps sp:=by
 obtain⟨f,fd,F,a,b,c⟩:=C.ex
 exact⟨f,fd,F.mono h,a,b,c⟩
theorem aI {X:Cx} {E:XK} {e:Expr} {es:List Expr} {t:TA} {p pos:Pos} (C:Callee X.prog X.w X.K X.mg X.base CX k x ps sp) (hr:bj k X.A) (hg:Gl X x) (hx:Passes CX X E)
  (ha:PA X (e::es) t) (hdb:(x==("__debug__":Str))=false:=by decide) (he:starEach (e::es) X.env=(false,eval e X.env)::starEach es X.env:=by rfl) (hpl:(backTo pos (starEach es X.env)).any (·.1)=false:=by rfl) :
  PE X (.Call (.Name x p) (e::es) [] pos) (ka sp [] E t):=by
 obtain⟨f,fd,F,hm,hk,hb⟩:=C.ex
 exact nM F hr hg hm hk hb .nil hx ha hdb he hpl
theorem km {st:Stmt} {N:List Str} (D:aw K mg x st)
  (hb:∀(kV doc pm:Value) (an:Option Addr) (cdv ct:Value) (us:List Value),us.length=ps.length->bindArgs (PySem.W.fnOf x x (ba st) (aG st) (ah st) .none kV doc pm an cdv ct) ⟨us,[]⟩=pure (ps.zip us))
  (S:ay N ps (ah st)) (len:∀ vs H Q E,sp vs H Q E->vs.length=ps.length)
  (hbody:∀(f:Addr) (cdv:Value) (A:Around) (outer:List Env) (s:Shared) (H:Hp) (vs:List V) (Q:VK) (E:XK),bj k (A.deeper (envOfC x (ah st) s.heap.objs.size f cdv))->sp vs H Q E ->
   ∃ t,eA (cF bf P w K mg base N x (ah st) f cdv A outer s H E).gW (aG st) t/\t { nx:=λ_ H'=>Q .non H',rt:=Q } (start N vs) H):Callee P w K mg base bf (k+1) x ps sp:=by
 obtain⟨f,fd,F,hm⟩:=D
 exact⟨f,fd,F.ok S len λcdv A outer s H vs Q E hr h=>hbody f cdv A outer s H vs Q E hr h,hm,F.kp,F.binds hb⟩
theorem lq {h:Heap} {f:Addr} {st:Stmt} {oc:Value} {od an:Option Addr} {osl:Array (Option Value)} {kV doc pm cdv ct:Value} (X:K.In h) (G:h.Ns mainGlobals mg)
  (a:PySem.W.nsIn K mainGlobals x=some (some (.ref f))) (l:K.lookup f=some ⟨oc,od,.func (PySem.W.fnOf x x (ba st) (aG st) (ah st) .none kV doc pm an cdv ct),osl⟩)
  (c:PySem.W.codeIn K cdv x=true) (kk:PySem.W.keepIn K (.ref f)=true):aw K mg x st:=⟨f,_,ly l c kk,PySem.W.mg_of X G a⟩
end
def dU (cl:List (Str × Addr)):List (Str × NameKind)->Prop
 | []=>True
 | y::r=>(match y.2 with | .free=>(cl.lookup y.1).isSome=true | _=>True)/\dU cl r
theorem dU.get {cl:List (Str × Addr)}:∀{l:List (Str × NameKind)},dU cl l->∀ y∈l,y.2=.free->(cl.lookup y.1).isSome=true
 | [],_,_,h,_=>nomatch h
 | z::r,a,y,h,e=>by
  rcases List.mem_cons.mp h with q | q
  ·subst q
   have:=a.1
   rw [e] at this
   exact this
  ·exact dU.get a.2 y q e
def dD (X:Cx) (scope:Scope) (cl:List (Str × Addr)):List (Option Nat)->List Str->Prop
 | none::r,_::n=>dD X scope cl r n
 | some j::r,x::n=>(X.N[j]?=some x/\(cl.lookup x).isSome=true/\(X.env.scope.names.lookup x=some .cell∨X.env.scope.names.lookup x=some .free)/\((relabel scope X.env).names.lookup x=some .cell∨(relabel scope X.env).names.lookup x=some .free))/\dD X scope cl r n
 | [],[]=>True
 | _,_=>False
theorem dD.len {X:Cx} {scope:Scope} {cl:List (Str × Addr)}:∀{js:List (Option Nat)} {N:List Str},dD X scope cl js N->js.length=N.length
 | [],[],_=>rfl
 | none::r,_::n,h=>by
  have h':dD X scope cl r n:=h
  simp [dD.len h']
 | some j::r,x::n,h=>by
  have h':dD X scope cl r n:=h.2
  simp [dD.len h']
 | [],_::_,h=>h.elim
 | none::_,[],h=>h.elim
 | some _::_,[],h=>h.elim
theorem dD.get {X:Cx} {scope:Scope} {cl:List (Str × Addr)}:∀{js:List (Option Nat)} {N:List Str},dD X scope cl js N->∀(i j:Nat) x,js[i]?=some (some j)->N[i]?=some x ->
  X.N[j]?=some x/\(cl.lookup x).isSome=true/\pk X.env.scope x/\X.env.kindOf x≠some .local/\((relabel scope X.env).names.lookup x=some .cell∨(relabel scope X.env).names.lookup x=some .free)
 | [],[],_,i,j,x,e,_=>by simp at e
 | none::r,y::n,h,0,j,x,e,_=>by simp at e
 | none::r,y::n,h,i+1,j,x,e,e2=>dD.get (js:=r) (N:=n) h i j x (by simpa using e) (by simpa using e2)
 | some k::r,y::n,h,0,j,x,e,e2=>by
  have q:k=j:=by simpa using e
  have q2:y=x:=by simpa using e2
  subst q;subst q2
  obtain⟨a,b,c,d⟩:=h.1
  refine⟨a,b,?_,?_,d⟩
  ·rcases c with c | c
   ·exact .inr (.inl c)
   ·exact .inr (.inr c)
  ·intro z
   have z':X.env.scope.names.lookup y=some .local:=z
   rcases c with c | c
   ·rw [c] at z';cases z'
   ·rw [c] at z';cases z'
 | some k::r,y::n,h,i+1,j,x,e,e2=>dD.get (js:=r) (N:=n) h.2 i j x (by simpa using e) (by simpa using e2)
 | [],_::_,h,_,_,_,_,_=>h.elim
 | none::_,[],h,_,_,_,_,_=>h.elim
 | some _::_,[],h,_,_,_,_,_=>h.elim
theorem pJ {X:Cx} {N':List Str} {js:List (Option Nat)} {scope:Scope} {cl:List (Str × Addr)} (clos:closureFor scope X.env=pure cl) (kind:scope.kind=.function) (nocell:∀ y∈scope.names,y.2=.cell->scope.names.lookup y.1=some .cell/\∀ p∈js.zip N',p.1.isSome=true->p.2≠y.1)
  (names:∀ y∈scope.names,y.2=.local->scope.names.lookup y.1=some .local) (sub:AllIn X.env cl) (has:dU cl scope.names) (j:dD X scope cl js N'):eX X N' js scope cl :=
 ⟨clos,kind,nocell,names,sub,has.get,j.len,j.get⟩
theorem boot_int:bootBuiltins "int"=some (.type "int"):=by decide +kernel
theorem boot_bool:bootBuiltins "bool"=some (.type "bool"):=by decide +kernel
theorem boot_tuple:bootBuiltins "tuple"=some (.type "tuple"):=by decide +kernel
theorem boot_abs:bootBuiltins "abs"=some (.builtin "abs"):=by decide +kernel
theorem boot_all:bootBuiltins "all"=some (.builtin "all"):=by decide +kernel
theorem az {H:Hp} {p:Addr} {o:HO} (h:H p=none):au H (upd H p o):=λb u q=>by rw [ak (aM q h)];exact q
theorem bG {α:Type} {c:TT} {tb:TS} {D:Ends} {σ:St} {H:Hp} (S:α->St) (Pv:α->Hp->Prop) (μ:α->Nat) (x₀:α) (hσ:σ=S x₀) (h0:Pv x₀ H)
  (hs:∀ x H,Pv x H->c (S x) H λb H1=>if b=true then (∃ N:St->Hp->Prop,(∀ σ' H',N σ' H'->∃ y,σ'=S y/\Pv y H'/\μ y<μ x)/\tb { D with nx:=N,ct:=N,bk:=D.nx } (S x) H1) else D.nx (S x) H1):mE c tb D σ H:=by
 subst hσ
 refine⟨λm σ H=>∃ x,σ=S x/\Pv x H/\m=μ x,⟨_,x₀,rfl,h0,rfl⟩,?_⟩
 rintro m σ H ⟨x,rfl,p,rfl⟩
 have q:=hs x H p
 have e:(λb H1=>if b=true then (∃ N:St->Hp->Prop,(∀ σ' H',N σ' H'->∃ y,σ'=S y/\Pv y H'/\μ y<μ x)/\tb { D with nx:=N,ct:=N,bk:=D.nx } (S x) H1) else D.nx (S x) H1) =
   (λb H1=>if b=true then (∃ N:St->Hp->Prop,(∀ σ' H',N σ' H'->∃ m',m'<μ x/\∃ y,σ'=S y/\Pv y H'/\m'=μ y)/\tb { D with nx:=N,ct:=N,bk:=D.nx } (S x) H1) else D.nx (S x) H1):=by
  funext b H1
  cases b with
  | false=>rfl
  | true =>
   simp only [if_true]
   refine propext ⟨fun⟨N,hN,z⟩=>⟨N,λσ' H' n=>?_,z⟩,fun⟨N,hN,z⟩=>⟨N,λσ' H' n=>?_,z⟩⟩
   ·obtain⟨y,e1,e2,e3⟩:=hN σ' H' n
    exact⟨_,e3,y,e1,e2,rfl⟩
   ·obtain⟨m',l,y,e1,e2,e3⟩:=hN σ' H' n
    exact⟨y,e1,e2,e3▸l⟩
 rw [e] at q
 exact q
end L2
namespace Gcd
structure J (A B g u v ng nu nv:Int):Prop where
 g0:0<=g
 n0:0<=ng
 e1:u*A+v*B=g
 e2:nu*A+nv*B=ng
 ex:∃ s U NU V NV:Int,(s=1∨s = -1)/\0<=U/\0<=NU/\0<=V/\0<=NV/\u=s*U/\nu = -s*NU/\v = -s*V/\nv=s*NV/\g*NU+ng*U=B/\g*NV+ng*V=A /\
  (U<=1∨U<=B)/\(NU<=1∨NU<=B)/\(V<=1∨V<=A)/\(NV<=1∨NV<=A)
theorem J.start {A B:Int} (ha:0<=A) (hb:0<=B):J A B A 1 0 B 0 1 :=
 ⟨ha,hb,by grind,by grind,1,1,0,0,1,.inl rfl,by decide,by decide,by decide,by decide,by grind,by grind,by grind,by grind,by grind,by grind,.inl (by decide),.inl (by decide),.inl (by decide),.inl (by decide)⟩
theorem fY {n x B:Int} (hn:0<n) (hx:0<=x) (h:n*x<=B):x<=B:=by
 have:1*x<=n*x:=Int.mul_le_mul_of_nonneg_right hn hx
 omega
theorem J.turn {A B g u v ng nu nv:Int} (j:J A B g u v ng nu nv) (hn:0<ng) :
  J A B ng nu nv (g-g/ng*ng) (u-g/ng*nu) (v-g/ng*nv)/\(g-g/ng*ng)<ng/\0<=g/ng/\g/ng<=g:=by
 have q0:0<=g/ng:=Int.ediv_nonneg j.g0 j.n0
 have r:=Int.emod_def g ng
 have r0:=Int.emod_nonneg g (show ng≠0 by omega)
 have r1:=Int.emod_lt_of_pos g hn
 have ql:g/ng<=g:=Int.ediv_le_self ng j.g0
 have e1:=j.e1
 have e2:=j.e2
 have hc:g/ng*ng=ng*(g/ng):=Int.mul_comm _ _
 generalize g/ng=q at *
 obtain⟨s,U,NU,V,NV,hs,hU,hNU,hV,hNV,eu,enu,ev,env,b1,b2,l1,l2,l3,l4⟩:=j.ex
 have hqNU:0<=q*NU:=Int.mul_nonneg q0 hNU
 have hqNV:0<=q*NV:=Int.mul_nonneg q0 hNV
 have rr:0<=g-q*ng:=by omega
 have i1:ng*(U+q*NU)+(g-q*ng)*NU=B:=by grind
 have i2:ng*(V+q*NV)+(g-q*ng)*NV=A:=by grind
 have n1:0<=(g-q*ng)*NU:=Int.mul_nonneg rr hNU
 have n2:0<=(g-q*ng)*NV:=Int.mul_nonneg rr hNV
 refine⟨⟨j.n0,rr,e2,by grind,-s,NU,U+q*NU,NV,V+q*NV,by omega,hNU,by omega,hNV,by omega,by grind,by grind,by grind,by grind,i1,i2,l2,.inr (fY hn (by omega) (by omega)),l4,.inr (fY hn (by omega) (by omega))⟩,by omega,q0,ql⟩
structure rQ (a b g u v:Int):Prop where
 g0:0<=g
 lin:u*a+v*b=g
 da:g∣a
 db:g∣b
 bu:u.natAbs<=max 1 b.natAbs
 bv:v.natAbs<=max 1 a.natAbs
theorem qJ {s U u:Int} (hs:s=1∨s = -1) (hU:0<=U) (e:u=s*U):u.natAbs=U.toNat:=by
 rcases hs with rfl | rfl<;>omega
theorem qI {s V v:Int} (hs:s=1∨s = -1) (hV:0<=V) (e:v = -s*V):v.natAbs=V.toNat:=by
 rcases hs with rfl | rfl<;>omega
theorem lD {a u:Int}:(if a<0 then -u else u).natAbs=u.natAbs:=by
 split
 ·exact Int.natAbs_neg u
 ·rfl
theorem lG {a u:Int}:(if a<0 then -u else u)*a=u*(if a<0 then -a else a):=by
 split
 ·rw [Int.neg_mul,Int.mul_neg]
 ·rfl
theorem lE {a g:Int} (h:g∣if a<0 then -a else a):g∣a:=by
 split at h
 ·exact Int.dvd_neg.mp h
 ·exact h
theorem lF {U b:Int} (h:U<=1∨U<=if b<0 then -b else b):U.toNat<=max 1 b.natAbs:=by
 split at h<;>omega
theorem J.done {a b g u v nu nv:Int} (j:J (if a<0 then -a else a) (if b<0 then -b else b) g u v 0 nu nv):rQ a b g (if a<0 then -u else u) (if b<0 then -v else v):=by
 have e1:=j.e1
 obtain⟨s,U,NU,V,NV,hs,hU,hNU,hV,hNV,eu,enu,ev,env,b1,b2,l1,l2,l3,l4⟩:=j.ex
 refine⟨j.g0,by rw [lG,lG];exact e1,lE ⟨NV,by rw [<- b2,Int.zero_mul,Int.add_zero]⟩,lE ⟨NU,by rw [<- b1,Int.zero_mul,Int.add_zero]⟩,?_,?_⟩
 ·rw [lD,qJ hs hU eu]
  exact lF l1
 ·rw [lD,qI hs hV ev]
  exact lF l3
theorem J.small {A B g u v ng nu nv M:Int} (j:J A B g u v ng nu nv) (hA:0<=A) (hB:0<=B) (hAM:A<=M) (hBM:B<=M) (hM:1<=M):(-M<=u/\u<=M)/\(-M<=v/\v<=M)/\(-M<=nu/\nu<=M)/\(-M<=nv/\nv<=M):=by
 obtain⟨s,U,NU,V,NV,hs,hU,hNU,hV,hNV,eu,enu,ev,env,b1,b2,l1,l2,l3,l4⟩:=j.ex
 rcases hs with rfl | rfl
 ·refine⟨⟨?_,?_⟩,⟨?_,?_⟩,⟨?_,?_⟩,⟨?_,?_⟩⟩<;>omega
 ·refine⟨⟨?_,?_⟩,⟨?_,?_⟩,⟨?_,?_⟩,⟨?_,?_⟩⟩<;>omega
end Gcd
namespace L2
open PySem PySem.Spec PyProof.Rows
theorem au.upd {H H1:Hp} {p:Addr} {o:HO} (h:au H H1) (hp:H p=none):au H (upd H1 p o):=λb u q=>by rw [ak (aM q hp)];exact h b u q
theorem au.sS {H H1:Hp} {p:Addr} {o:HO} (h:au H H1) (hp:H1 p=none):au H (L2.upd H1 p o):=h.upd (h.free hp)
theorem pE {α:Type} {xs:List α} {k:Int} (h0:0<=k) (h1:k<xs.length):∃ v,jO xs k=some v/\xs[k.toNat]?=some v:=by
 have hk:k.toNat<xs.length:=by omega
 refine⟨xs[k.toNat],?_,List.getElem?_eq_getElem hk⟩
 have:=mV (xs:=xs) (j:=k.toNat) (List.getElem?_eq_getElem hk)
 rwa [Int.toNat_of_nonneg h0] at this
theorem eR {K:PySem.W.Frag} {H:Hp} {p:Addr} {xs:List V} {k:Int} {Q:VK} (h:bh K H p xs) (h0:0<=k) (h1:k<xs.length) (q:∀ v∈xs,Q v H):mn K (.ref p) (.int k) H Q:=by
 obtain⟨v,e,e2⟩:=pE h0 h1
 exact⟨p,xs,k,v,rfl,rfl,h,e,q v (List.mem_of_getElem? e2)⟩
theorem nj {K:PySem.W.Frag} {H:Hp} {p:Addr} {xs:List Int} {k:Int} {Q:VK} (h:H p=some (.lst (xs.map V.int))) (h0:0<=k) (h1:k<xs.length) (q:∀ v∈xs,Q (.int v) H):mn K (.ref p) (.int k) H Q :=
 eR (bh.of h) h0 (by rw [List.length_map];exact h1) λv hv=>by
  obtain⟨i,hi,rfl⟩:=List.mem_map.mp hv
  exact q i hi
theorem jN {H:Hp} {p:Addr} {xs:List Int} {i:Int} {Q:VK} (h:H p=some (.lst (xs.map V.int))) (hz:xs.length<sizeLine) (q:Q .non (upd H p (.lst ((xs++[i]).map V.int)))):j4 (.ref p) [.int i] H Q :=
 ⟨p,xs.map V.int,.int i,rfl,rfl,h,by rw [List.length_map];exact hz,by rw [List.map_append] at q;exact q⟩
def Loop (J:It) (g:TG) (tb:TS) (D:Ends) (σ:St) (H:Hp):Prop:=∃ W:Nat->Nat->St->Hp->Prop,(∃ m,W 0 m σ H)/\∀ i m σ H,W i m σ H ->
 (J.stop i H/\D.nx σ H)∨(J.go i H/\∃ N:St->Hp->Prop,(∀ σ' H',N σ' H'->∃ m',m'<m/\W (i+1) m' σ' H')/\∀ x H',J.yld i H x H'->g x σ H' λσ2 H2=>tb { D with nx:=N,ct:=N,bk:=D.nx } σ2 H2)
theorem oa {wi:TI} {g:TG} {tb:TS} {D:Ends} {σ:St} {H:Hp}:rE wi g tb D σ H=wi σ H λJ H1=>Loop J g tb D σ H1:=rfl
theorem fe {lo:Int} {n:Nat} {g:TG} {tb:TS} {D:Ends} {σ:St} {H:Hp} (Pv:Nat->St->Hp->Prop) (h0:Pv 0 σ H)
  (hs:∀ i σ H,i<n->Pv i σ H->g (.int (lo+i)) σ H λσ2 H2=>tb { D with nx:=Pv (i+1),ct:=Pv (i+1),bk:=D.nx } σ2 H2) (hd:∀ σ H,Pv n σ H->D.nx σ H):Loop (mM lo n) g tb D σ H:=kq Pv h0 hs hd
theorem kB {K:PySem.W.Frag} {a:Addr} {xs:List V} {g:TG} {tb:TS} {D:Ends} {σ:St} {H:Hp} (Pv:Nat->St->Hp->Prop) (h0:Pv 0 σ H) (hl:∀ i σ H,i<=xs.length->Pv i σ H->bh K H a xs)
  (hs:∀ i x σ H,xs[i]?=some x->Pv i σ H->g x σ H λσ2 H2=>tb { D with nx:=Pv (i+1),ct:=Pv (i+1),bk:=D.nx } σ2 H2) (hd:∀ σ H,Pv xs.length σ H->D.nx σ H):Loop (o9 K a) g tb D σ H:=lx Pv h0 hl hs hd
theorem iL {K:PySem.W.Frag} {a:Addr} {xs:List V} {g:TG} {tb:TS} {D:Ends} {σ:St} {H:Hp} (Pv:Nat->St->Hp->Prop) (h0:Pv 0 σ H) (hl:∀ i σ H,i<=xs.length->Pv i σ H->cn K H a xs)
  (hs:∀ i x σ H,xs[i]?=some x->Pv i σ H->g x σ H λσ2 H2=>tb { D with nx:=Pv (i+1),ct:=Pv (i+1),bk:=D.nx } σ2 H2) (hd:∀ σ H,Pv xs.length σ H->D.nx σ H):Loop (pb K a) g tb D σ H:=m7 Pv h0 hl hs hd
def jM (J:It) (js:List (Option Nat)) (g:TG) (tt:TT) (te:TE) (σ:St) (Q:VK) (H1:Hp):Prop:=∃ W:Nat->Nat->List V->Hp->Prop,(∃ m,W 0 m [] H1)/\∀ i m ys H,W i m ys H ->
 (J.stop i H/\ys.length<=sizeLine/\∀ p,H p=none->Q (.ref p) (upd H p (.lst ys))) ∨
 (J.go i H/\ys.length<sizeLine/\∃ N:List V->Hp->Prop,(∀ ys' H',N ys' H'->∃ m',m'<m/\W (i+1) m' ys' H') /\
  ∀ x H',J.yld i H x H'->g x (cf js σ) H' λσ2 H2=>a6 (cf js σ) σ2/\tt σ2 H2 λb H3=>if b=true then te σ2 H3 λv H4=>N (ys++[v]) H4 else N ys H3)
theorem qj {js:List (Option Nat)} {wi:TI} {g:TG} {tt:TT} {te:TE} {σ:St} {H:Hp} {Q:VK}:tD js wi g tt te σ H Q=wi σ H λJ H1=>jM J js g tt te σ Q H1:=rfl
theorem e7 {K:PySem.W.Frag} {a:Addr} {xs:List V} {js:List (Option Nat)} {g:TG} {tt:TT} {te:TE} {σ:St} {Q:VK} {H1:Hp} (Pv:Nat->List V->Hp->Prop) (h0:Pv 0 [] H1) (hx:xs.length<=sizeLine) (hl:∀ i ys H,i<=xs.length->Pv i ys H->bh K H a xs/\ys.length<=i)
  (hs:∀ i x ys H,xs[i]?=some x->Pv i ys H->g x (cf js σ) H λσ2 H2=>a6 (cf js σ) σ2/\tt σ2 H2 λb H3=>if b=true then te σ2 H3 λv H4=>Pv (i+1) (ys++[v]) H4 else Pv (i+1) ys H3)
  (hd:∀ ys H p,Pv xs.length ys H->H p=none->Q (.ref p) (upd H p (.lst ys))):jM (o9 K a) js g tt te σ Q H1:=by
 refine⟨λi m ys H=>m=xs.length-i/\i<=xs.length/\Pv i ys H,⟨xs.length,by simp,Nat.zero_le _,h0⟩,?_⟩
 rintro i m ys H ⟨rfl,hi,p⟩
 obtain⟨q,hy⟩:=hl i ys H hi p
 by_cases hlt:i<xs.length
 ·refine .inr ⟨⟨xs,xs[i],q,by simp [hlt]⟩,by omega,Pv (i+1),λys' H' p'=>⟨xs.length-(i+1),by omega,rfl,hlt,p'⟩,λx H' y=>?_⟩
  obtain⟨e,y⟩:=y
  subst e
  exact hs i x ys _ (y xs q) p
 ·have e:i=xs.length:=by omega
  subst e
  exact .inl ⟨⟨xs,q,Nat.le_refl _⟩,by omega,λp' hp'=>hd ys H p' p hp'⟩
theorem fV {K:PySem.W.Frag} {a:Addr} {xs:List V} {js:List (Option Nat)} {g:TG} {tt:TT} {te:TE} {σ:St} {Q:VK} {H1:Hp} (Pv:Nat->List V->Hp->Prop) (h0:Pv 0 [] H1) (hx:xs.length<=sizeLine) (hl:∀ i ys H,i<=xs.length->Pv i ys H->cn K H a xs/\ys.length<=i)
  (hs:∀ i x ys H,xs[i]?=some x->Pv i ys H->g x (cf js σ) H λσ2 H2=>a6 (cf js σ) σ2/\tt σ2 H2 λb H3=>if b=true then te σ2 H3 λv H4=>Pv (i+1) (ys++[v]) H4 else Pv (i+1) ys H3)
  (hd:∀ ys H p,Pv xs.length ys H->H p=none->Q (.ref p) (upd H p (.lst ys))):jM (pb K a) js g tt te σ Q H1:=by
 refine⟨λi m ys H=>m=xs.length-i/\i<=xs.length/\Pv i ys H,⟨xs.length,by simp,Nat.zero_le _,h0⟩,?_⟩
 rintro i m ys H ⟨rfl,hi,p⟩
 obtain⟨q,hy⟩:=hl i ys H hi p
 by_cases hlt:i<xs.length
 ·refine .inr ⟨⟨xs,xs[i],q,by simp [hlt]⟩,by omega,Pv (i+1),λys' H' p'=>⟨xs.length-(i+1),by omega,rfl,hlt,p'⟩,λx H' y=>?_⟩
  obtain⟨e,y⟩:=y
  subst e
  exact hs i x ys _ (y xs q) p
 ·have e:i=xs.length:=by omega
  subst e
  exact .inl ⟨⟨xs,q,Nat.le_refl _⟩,by omega,λp' hp'=>hd ys H p' p hp'⟩
theorem tL {CX:fF} {P:Program} {w:World} {K:PySem.W.Frag} {mg:Str->Option Value} {base:Heap} {N:List Str} {qual:Str} {scope:Scope} {f:Addr} {cd:Value} {A:Around} {outer:List Env} {s:Shared} {H:Hp} {E:XK} :
  (cF CX P w K mg base N qual scope f cd A outer s H E).K=K:=rfl
theorem qK {X:Cx} {N':List Str} {scope:Scope} {cl:List (Str × Addr)} {C:Addr} {s₂:Shared} {H₂:Hp} {fp:List Addr}:(gF X N' scope cl C s₂ H₂ fp).K=X.K:=rfl
theorem bc {K:PySem.W.Frag} {b k:Bool} {H:Hp}:mR K (.bl b) H k=(k=b):=rfl
theorem mF {K:PySem.W.Frag} {i:Int} {k:Bool} {H:Hp}:mR K (.int i) H k=(k=(i != 0)):=rfl
def ro (K:PySem.W.Frag):List V->Hp->VK->Prop:=λxs H Q=>∃ p ys,xs=[.ref p]/\(bh K H p ys∨cn K H p ys)/\Q (.int ys.length) H
theorem dW {X:Cx}:cp X (.builtin "len") (ro X.K):=gB
theorem gR {K:PySem.W.Frag} {H:Hp} {p:Addr} {xs:List V} {Q:VK} (h:cn K H p xs) (q:Q (.int xs.length) H):ro K [.ref p] H Q:=⟨p,xs,rfl,.inr h,q⟩
theorem kZ {K:PySem.W.Frag} {H:Hp} {p:Addr} {bs:List Bool} {Q:VK} (h:bh K H p (bs.map V.bl)) (q:Q (.bl (bs.all id)) H):rj K [.ref p] H Q:=⟨p,bs,rfl,h,q⟩
theorem bF {a b:Int}:ig (.int a) (.int b)=true:=rfl
theorem nU {a b:Bool}:ig (.bl a) (.bl b)=true:=rfl
theorem nW {a:Int}:ig (.int a) .non=true:=rfl
theorem nX {a:Int}:ig .non (.int a)=true:=rfl
theorem nY:ig .non .non=true:=rfl
theorem nV {a:Bool}:ig (.bl a) .non=true:=rfl
theorem nZ {a b:Str}:ig (.str a) (.str b)=true:=rfl
def sO (t:TS):TS:=λD σ H=>∃ R:St->Hp->Prop,t { D with nx:=R } σ H/\∀ σ' H',R σ' H'->D.nx σ' H'
theorem fu {X:Cx} {st:Stmt} {t:TS} (h:PS X st t):PS X st (sO t):=by
 intro pins s σ H D I ⟨R,hw,hR⟩
 refine a8 (h pins s σ H _ I hw) λf s' q=>?_
 cases f with
 | next=>obtain⟨σ',H',I',r⟩:=q;exact⟨σ',H',I',hR _ _ r⟩
 | brk=>exact q
 | cont=>exact q
 | ret u=>exact q
theorem m6 {P:Program} {w:World} {K:PySem.W.Frag} {mg:Str->Option Value} {base:Heap} {k:Nat} {x:Str} {ps:List Str} {sp:Sp} {st:Stmt} {N:List Str} {f:Addr} {fd:FuncData} (F:mK K x x st f fd)
  (S:ay N ps (ah st)) (len:∀ vs H Q E,sp vs H Q E->vs.length=ps.length)
  (hbody:∀(cdv:Value) (A:Around) (outer:List Env) (s:Shared) (H:Hp) (vs:List V) (Q:VK) (E:XK),bj k (A.deeper (envOfC x (ah st) s.heap.objs.size f cdv))->sp vs H Q E ->
   ∃ t,eA (cF bf P w K mg base N x (ah st) f cdv A outer s H E).gW (aG st) t/\t { nx:=λ_ H'=>Q .non H',rt:=Q } (start N vs) H):bN P w K mg base bf (k+1) f fd ps sp :=
 F.ok S len λcdv A outer s H vs Q E hr h=>hbody cdv A outer s H vs Q E hr h
theorem nt {P:Program} {w:World} {K:PySem.W.Frag} {mg:Str->Option Value} {k:Nat} {x y:Str} {sp:Sp} {st:Stmt} {fa:Addr} (hfa:mg x=some (.ref fa)) (D:aw K mg x st)
  (hb:∀(kV doc pm:Value) (an:Option Addr) (cdv ct:Value) (u:Value),bindArgs (PySem.W.fnOf x x (ba st) (aG st) (ah st) .none kV doc pm an cdv ct) ⟨[u],[]⟩=pure [(y,u)])
  (ok:∀(base:Heap) (f:Addr) (fd:FuncData),K.In base->mK K x x st f fd->bN P w K mg base bf k f fd [y] sp) :
  ∃ fd:FuncData,(∀(s:Shared) (u:Value),BindsTo s fd ⟨[u],[]⟩ [(y,u)])/\∀ base:Heap,K.In base->base.Ns mainGlobals mg->bN P w K mg base bf k fa fd [y] sp:=by
 obtain⟨f,fd,F,hm⟩:=D
 have e:=hfa.symm.trans hm
 cases e
 refine⟨fd,λs u=>?_,λbase kb _=>ok base _ _ kb F⟩
 obtain⟨oc,od,kV,doc,pm,an,cdv,ct,osl,rfl,lk,hcd⟩:=F.ex
 exact .of_eq (hb kV doc pm an cdv ct u)
end L2
namespace L2
open PySem PySem.Spec PyProof.Rows PySem.W
def bp:List Value:=[.type "ValueError",.type "Exception",.type "BaseException",.type "object"]
def aU:List Value->Bool
 | .ref _::r=>aU r
 | l=>l==bp
theorem iY (self:Value):refuseLoop self "__setattr__" bp=pure ():=by kernel_rfl
theorem fw (self:Value):∀{l:List Value},aU l=true->refuseLoop self "__setattr__" l=pure ()
 | .ref c::r,e=>by rw [refuseLoop_ref];exact fw self (l:=r) e
 | [],e=>by cases e
 | .type n::r,e=>by
  have:Value.type n::r=bp:=by simpa [aU] using e
  rw [this];exact iY self
 | .none::r,e=>by simp [aU,bp] at e
 | .bool _::r,e=>by simp [aU,bp] at e
 | .int _ _::r,e=>by simp [aU,bp] at e
 | .str _ _::r,e=>by simp [aU,bp] at e
 | .bytes _ _::r,e=>by simp [aU,bp] at e
 | .float _ _::r,e=>by simp [aU,bp] at e
 | .builtin _::r,e=>by simp [aU,bp] at e
theorem dH {l:List Value}:aU l=true->l.contains (.type "object")=true/\l.contains (.type "BaseException")=true/\l.isEmpty=false:=by
 intro h
 induction l with
 | nil=>cases h
 | cons a r ih =>
  cases a with
  | ref c =>
   obtain⟨h1,h2,_⟩:=ih h
   exact⟨by rw [List.contains_cons,h1,Bool.or_true],by rw [List.contains_cons,h2,Bool.or_true],rfl⟩
  | type n =>
   have e:Value.type n::r=bp:=by simpa [aU] using h
   rw [e]
   exact⟨by decide,by decide,rfl⟩
  | _=>simp [aU,bp] at h
section
variable {prog:Program} {w:World} {A:Around} {E:Value->Shared->Prop} {s:Shared} {K:PySem.W.Frag} {x C:Addr} {name:Str} {v:Value} {cd:ClassData}
theorem mZ {vs:Array Value} {sl:Array (Option Value)} {Q:Unit->Shared->Prop} (X:K.In s.heap) (hx:s.heap.get? x=some ⟨.ref C,none,.fields vs,sl⟩) (hc:clsIn K C=some cd) (hm:aU cd.mro=true) (hh:cd.hasDict=true)
  (hs:findIn K (.ref C) "__setattr__"=some (some (.builtin "object.__setattr__"))) (hn:findIn K (.ref C) name=some none)
  (h:∀ h',h'.get? x=some ⟨.ref C,some s.heap.objs.size,.fields vs,sl⟩->h'.Ns1 s.heap.objs.size (λy=>if y=name then some v else none)->(∀ b ob,b≠x->s.heap.get? b=some ob->h'.get? b=some ob)->Q () { s with heap:=h',toks:=s.toks+2 }) :
  wpAny (model prog w) A (setAttr (.ref x) name v) Q E s:=by
 have I:PySem.W.InstAt s.heap x ⟨.ref C,none,.fields vs,sl⟩ C none:=⟨hx,rfl,rfl,True.intro⟩
 obtain⟨m1,m2,m3⟩:=dH hm
 refine PySem.W.set_plain X I hs ?_
 have SF:=PySem.F.store_object
 have sub:Looks (model prog w) s.heap (isInstance (.ref x) (.type "object")) true:=I.type.andThen (looks_mroIn X (by unfold mroIn;rw [hc,Option.bind_some,if_neg (by rw [m3];decide),m1]))
 refine codeAny_call_builtin SF.slot.plain SF.entry (@check_slot (model prog w) _ _ { s with toks:=s.toks+1 } "object.__setattr__" "object" "__setattr__" (.ref x) [.str name s.toks,v] [] _ SF.kind SF.split sub (SF.args (.ref x) (.str name s.toks) v) ?_)
 have L1:Looks (model prog w) s.heap (mroOf (.ref C)) cd.mro:=(looks_clsIn X hc).andThen .now
 rw [osa_eq,refuse_eq]
 refine wpAny_bind (wpAny_bind (Looks.here (s:={ s with toks:=s.toks+1 }) I.type (wpAny_bind (Looks.here (s:={ s with toks:=s.toks+1 }) L1 ?_))))
 rw [fw _ hm]
 refine wpAny_pure (wpAny_bind (Looks.here (s:={ s with toks:=s.toks+1 }) I.type (wpAny_bind (Looks.here (s:={ s with toks:=s.toks+1 }) (looks_findIn X hn) (wpAny_bind (wpAny_pure ?_))))))
 show wpAny _ _ (Builtin.ObjectAttr.storeInOwnDict (.ref x) (.ref C) (.str name s.toks) name v false) _ _ _
 refine wpAny_bind (wpAny_pure (wpAny_bind (wpAny_bind (wpAny_loadPart hx (wpAny_bind (Looks.here (s:={ s with toks:=s.toks+1 }) (looks_clsIn X hc) ?_))))))
 rw [hh]
 refine wpAny_bind (wpAny_alloc ?_)
 have hlt:x≠s.heap.objs.size:=Nat.ne_of_lt (Heap.lt_size hx)
 have hp:(s.heap.push { cls:=.type "dict",data:=.dict #[] }).get? x=some ⟨.ref C,none,.fields vs,sl⟩:=Heap.get?_push_of_some _ hx
 refine wpAny_bind (wpAny_update (s:={ s with toks:=s.toks+1,heap:=s.heap.push { cls:=.type "dict",data:=.dict #[] } }) hp ?_)
 refine wpAny_pure ?_
 show wpAny _ _ (Builtin.ObjectAttr.storeInDict s.heap.objs.size (.str name s.toks) name v) _ _ _
 generalize hu:(s.heap.push { cls:=.type "dict",data:=.dict #[] }).update x (λo=>{ o with dict:=some s.heap.objs.size })=h1
 have g1:h1.get? x=some ⟨.ref C,some s.heap.objs.size,.fields vs,sl⟩:=by rw [<- hu];exact Heap.get?_update_self _ hp rfl
 have g2:∀ b,b≠x->h1.get? b=(s.heap.push { cls:=.type "dict",data:=.dict #[] }).get? b:=λb hb=>by rw [<- hu];exact Heap.get?_update_other _ _ (Ne.symm hb)
 have g3:h1.Ns1 s.heap.objs.size (λ_=>none):=by
  have e1:h1.get? s.heap.objs.size=some { cls:=.type "dict",data:=.dict #[] }:=by rw [g2 _ (Ne.symm hlt)];exact Heap.get?_push_size _ rfl
  have e3:h1.Ns s.heap.objs.size (λ_=>none):=⟨_,#[],_,e1,rfl,(λe he=>absurd he (by simp)),λ_=>rfl⟩
  exact Heap.Ns1.of_empty e3
 refine wpAny_bind (wpAny_pure (wpAny_bind ?_))
 refine wpAny_nsSet1 (s:={ s with toks:=s.toks+1,heap:=h1 }) g3 λh' hn2 hs2=>?_
 obtain⟨oD,esD,epD,hoD,hdD,hcD⟩:=hn2.count (ns:=[name]) (PySem.Within.cons name v (ns:=[]) (λy hy=>absurd rfl hy))
 refine wpAny_bind (wpAny_lookBehind hoD (by rw [hdD];exact pastItsLine_dict (Nat.le_trans hcD (by show 1<=sizeLine+1;decide))) ?_)
 refine wpAny_pure (h h' ((hs2.2 _ hlt).trans g1) hn2 λb ob hb e=>?_)
 have hb2:b≠s.heap.objs.size:=Nat.ne_of_lt (Heap.lt_size e)
 exact (hs2.2 b hb2).trans ((g2 b hb).trans (Heap.get?_push_of_some _ e))
theorem lr {ox:Obj} {od:Option Obj} {tk:Tok} {fill expr:Bool} {Q:Value->Shared->Prop} (X:K.In s.heap) (I:PySem.W.InstAt s.heap x ox C od) (hc:clsIn K C=some cd) (hm:aU cd.mro=true)
  (hga:findIn K (.ref C) "__getattribute__"=some (some (.builtin "BaseException.__getattribute__"))) (hk:findIn K (.ref C) "__getattr__"=some none)
  (h:wpAny (model prog w) A.in1 (Builtin.«object.__getattribute__» ⟨[.ref x,.str name tk],[]⟩)
   (λfin s'=>match fin with | .done (.ret v)=>handedIn v=true/\Q v s' | _=>False) (λ_ _=>False) s) :
  wpAny (model prog w) A (getAttrBy (.ref x) (.str name tk) fill expr) Q E s:=by
 obtain⟨hh',g,d,t,os⟩:=s
 obtain⟨m1,m2,m3⟩:=dH hm
 have L0:=I.type (M:=model prog w)
 have L1:=looks_findIn (M:=model prog w) X hga
 have L2:=looks_findIn (M:=model prog w) X hk
 have FX:=F.excAttr_ValueError
 have e0:(expr && onTheHeap (Value.builtin "BaseException.__getattribute__"))=false:=by cases expr<;>rfl
 unfold getAttrBy
 refine wpAny_holding (wpAny_bind (L0.at (wpAny_bind (L1.at ?_))))
 show wpAny _ _ (getAttrByItsOwn (.ref x) (.str name tk) (.ref C) (.builtin "BaseException.__getattribute__") fill expr) _ _ _
 unfold getAttrByItsOwn
 refine wpAny_bind (L2.at (wpAny_bind (wpAny_attempt (wpAny_holding ?_))))
 unfold callGetattribute
 rw [e0,if_neg Bool.false_ne_true]
 unfold boundAndCalled
 rw [FX.ga.bind]
 refine wpAny_bind (wpAny_pure (wpAny_call ?_))
 show codeAny _ _ (.call (.builtin "BaseException.__getattribute__") ⟨[.ref x,.str name tk],[]⟩) _ _
 have sub:Looks (model prog w) hh' (isInstance (.ref x) (.type "BaseException")) true:=L0.andThen (looks_mroIn X (by unfold mroIn;rw [hc,Option.bind_some,if_neg (by rw [m3];decide),m2]))
 have hk1:builtinKind "BaseException.__getattribute__"=some .slot:=by decide +kernel
 have hsplit:splitId "BaseException.__getattribute__"=some ("BaseException","__getattribute__"):=by decide +kernel
 refine codeAny_call_builtin FX.ga.plain F.entry_bexc_ga (@check_slot (model prog w) _ _ ⟨hh',g,d,t,os⟩ "BaseException.__getattribute__" "BaseException" "__getattribute__" (.ref x) [.str name tk] [] _ hk1 hsplit sub (F.args_bexc_ga (.ref x) (.str name tk)) ?_)
 refine wpAny_mono h (λfin s' z=>?_) λ_ _ z=>z.elim
 rcases fin with (_ | _ | _ | v) | _
 ·exact z.elim
 ·exact z.elim
 ·exact z.elim
 ·show wpAny _ _ (handedOut v) Q E s'
  rw [handedOut_of z.1]
  exact wpAny_pure z.2
 ·exact z.elim
theorem mX {ox:Obj} {od:Option Obj} {expr:Bool} {Q:Value->Shared->Prop} (X:K.In s.heap) (I:PySem.W.InstAt s.heap x ox C od) (hc:clsIn K C=some cd) (hm:aU cd.mro=true)
  (hga:findIn K (.ref C) "__getattribute__"=some (some (.builtin "BaseException.__getattribute__"))) (hk:findIn K (.ref C) "__getattr__"=some none)
  (hf:findObj K C od name=some (.value v)) (hv:handedIn v=true) (h:Q v { s with toks:=s.toks+1 }):wpAny (model prog w) A (getAttr (.ref x) name expr) Q E s:=by
 obtain⟨hh',g,d,t,os⟩:=s
 unfold getAttr
 refine wpAny_bind (wpAny_mkText (lr (s:=⟨hh',g,d,t+1,os⟩) X I hc hm hga hk ?_))
 have L0:=I.type (M:=model prog w)
 have L1:=looks_find (M:=model prog w) X I hf
 refine wpAny_bind (wpAny_pure (wpAny_bind (wpAny_pure (wpAny_bind (L0.at (wpAny_bind (L1.at ?_)))))))
 exact wpAny_pure ⟨hv,h⟩
structure aS (K:PySem.W.Frag) (C:Addr):Prop where
 cls:∃ cd,clsIn K C=some cd/\aU cd.mro=true/\cd.hasDict=true
 at_:∃ od cd sl,K.lookup C=some ⟨.type "type",od,.cls cd,sl⟩
 sa:findIn K (.ref C) "__setattr__"=some (some (.builtin "object.__setattr__"))
 ga:findIn K (.ref C) "__getattribute__"=some (some (.builtin "BaseException.__getattribute__"))
 gx:findIn K (.ref C) "__getattr__"=some none
 ca:findIn K (.ref C) "__class__"=some (some (.builtin "object.__class__"))
 gs:specialIn K (.builtin "object.__class__") "__get__"=some (some (.builtin "getset_descriptor.__get__"))
 tk:takesIn K (.builtin "object.__class__")=some true
theorem aS.obj (c:aS K C):mroIn K C (.type "object")=some true:=by
 obtain⟨cd,hc,hm,_⟩:=c.cls
 obtain⟨m1,m2,m3⟩:=dH hm
 unfold mroIn
 rw [hc,Option.bind_some,if_neg (by rw [m3];decide),m1]
theorem aS.there (c:aS K C) {h:Heap} (X:K.In h):∃ oc od cd sl,h.get? C=some ⟨oc,od,.cls cd,sl⟩:=by
 obtain⟨cd,hc,_⟩:=c.cls
 unfold clsIn at hc
 split at hc
 ·rename_i c' d' cd' sl' ho
  exact⟨_,_,_,_,X _ _ ho⟩
 ·cases hc
theorem jY {ox:Obj} {od:Option Obj} (c:aS K C):KitX K (.ref x) (.ref C) (λh=>PySem.W.InstAt h x ox C od) where
 ty:=λ_ _ _ I=>I.type
 it:=λ_ h X _=>by
  obtain⟨oc,od,cd,sl,ho⟩:=c.there X
  intro A' Q' E' s' k q
  unfold isType loadHead
  exact wpAny_bind (wpAny_loadPart (k _ _ ho) (wpAny_pure q))
 ne:=λh tp dd its n sl X htp=>by
  obtain⟨oc,od,cd,sl',ho⟩:=c.there X
  refine Bool.eq_false_iff.mpr λq=>?_
  have e:C=tp:=Value.ref.inj (beq_iff_eq.mp q)
  subst e
  rw [ho] at htp
  cases htp
 ca:=λ{prog w A E Q s} X I k=>by
  obtain⟨cd,hc,hm,_⟩:=c.cls
  have hf:findObj K C od "__class__"=some (.bind (.builtin "getset_descriptor.__get__") (.builtin "object.__class__")):=by
   unfold findObj
   rw [hc,Option.bind_some,c.ca,Option.bind_some]
   simp [c.gs,c.tk]
  obtain⟨hh',g,d,t,os⟩:=s
  unfold getAttr? getAttrBy?
  refine wpAny_bind (wpAny_mkText (wpAny_bind (wpAny_attempt (lr (s:=⟨hh',g,d,t+1,os⟩) X I hc hm c.ga c.gx ?_))))
  have L0:=I.type (M:=model prog w)
  have L1:=looks_find (M:=model prog w) X I hf
  refine wpAny_bind (wpAny_pure (wpAny_bind (wpAny_pure (wpAny_bind (L0.at (wpAny_bind (L1.at ?_)))))))
  show wpAny _ _ (holding [.builtin "object.__class__"] (call (.builtin "getset_descriptor.__get__") [.builtin "object.__class__",.ref x,.ref C]) >>= ret) _ _ _
  refine wpAny_bind (wpAny_holding (wpAny_call (class_get (s:=⟨hh',g,d,t+1,os⟩) (ox:=ox) (od:=od) X I c.obj ?_)))
  exact wpAny_pure ⟨rfl,wpAny_pure k⟩
end
section
variable {prog:Program} {w:World} {A:Around} {E:Value->Shared->Prop} {h:Heap} {g:Array GenState} {d:Drawn} {t:Nat} {os:OsState}
variable {nm q:Str} {C N:Addr} {bs bm:List Value} {hdct:Bool} {sn:List Str} {sub:List Value} {ab:Bool} {col:Option Bool} {dd:Option Addr} {k0 k1 k2 k3 k5:Option Value}
abbrev fO:String := "ValueError.__new__"
abbrev newExc (C a:Addr):Obj:={ cls:=.ref C,data:=.fields #[.ref a,.none,.none,.none,.bool false,.none] }
theorem mY (hB:bm.contains (.type "ValueError")=true) (hA:bm.contains (.type "AttributeError")=false) (hN:bm.contains (.type "NameError")=false) {rest:List Value} {R:Result->Shared->Prop}
  (hC:h.get? C=some (excClassObj nm q C N bs bm hdct sn sub ab col dd k0 k1 k2 k3 k5 fO)) (hrest:rest.length<=sizeLine)
  (hq:R (.ok (.ret (.ref (h.objs.size+1)))) ⟨(h.push { cls:=.type "tuple",data:=.seq rest.toArray }).push (newExc C h.objs.size),g,d,t,os⟩) :
  codeAny (model prog w) A (.builtin fO ⟨.ref C::rest,[]⟩) R ⟨h,g,d,t,os⟩:=by
 have Fn:=PySem.F.excBase_ValueError
 have hends:=Fn.ends
 have cB:(Value.ref C::bm).contains (.type "ValueError")=true:=by rw [List.contains_cons,hB,Bool.or_true]
 have cA:(Value.ref C::bm).contains (.type "AttributeError")=false:=by rw [List.contains_cons,hA];rfl
 have cN:(Value.ref C::bm).contains (.type "NameError")=false:=by rw [List.contains_cons,hN];rfl
 refine codeAny_builtinAt Fn.entry ?_
 unfold Builtin.«BaseException.__new__»
 refine PySem.wpAt_bind ?_
 show PySem.wpAt _ _ _ (stack >>= _) _ _ _
 refine PySem.wpAt_bind (PySem.wpAt_stack λp below=>PySem.wpAt_of_wpAny ?_)
 wp_walk
 refine PySem.wpAt_of_wpAny ?_
 rw [Fn.owner]
 repeat (first | with_reducible refine wpAny_madeHere_exc Fn.canon hC ?_ | with_reducible refine wpAny_loadPart_at hC ?_ | (with_reducible refine wpAny_isSubtype_exc hC ?_;first | rw [cB] | rw [cA] | rw [cN]) | wp_step)
 show R _ _
 rw [Heap.size_push]
 exact hq
theorem fI (hB:bm.contains (.type "ValueError")=true) {rest:List Value} {M:Model} {Q:Unit->Shared->Prop} (hC:h.get? C=some (excClassObj nm q C N bs bm hdct sn sub ab col dd k0 k1 k2 k3 k5 fO))
  (hq:Q () ⟨h,g,d,t,os⟩):wpAny M A (checkBuiltinCall fO ⟨.ref C::rest,[]⟩) Q E ⟨h,g,d,t,os⟩:=by
 have Fn:=PySem.F.excBase_ValueError
 have cB:(Value.ref C::bm).contains (.type "ValueError")=true:=by rw [List.contains_cons,hB,Bool.or_true]
 have hstar:=Fn.noStar
 simp only [checkBuiltinCall,Fn.newKind,Fn.newSplit,Fn.newRow]
 repeat (first | refine wpAny_loadPart_at hC ?_ | (refine wpAny_isSubtype_exc hC ?_;rw [cB]) | refine wpAny_staticBase_exc hC ?_ | refine wpAny_madeBy_exc hC ?_ | simp only [bne_self_eq_false,Bool.false_eq_true,if_false] | wp_step)
 exact hq
theorem gH {K:PySem.W.Frag} {i:Value} {rest:List Value} {Q:Fin->Shared->Prop} (X:K.In h) (hB:bm.contains (.type "ValueError")=true) (hA:bm.contains (.type "AttributeError")=false) (hN:bm.contains (.type "NameError")=false)
  (hC:h.get? C=some (excClassObj nm q C N bs bm hdct sn sub ab col dd k0 k1 k2 k3 k5 fO)) (hrest:rest.length<=sizeLine) (hi:findIn K (.ref C) "__init__"=some (some i)) {j:Value}
  (hb:Looks (model prog w) h (bindSpecial i (.ref (h.objs.size+1))) (j,[.ref (h.objs.size+1)]))
  (hq:codeAny (model prog w) A (.call j ⟨.ref (h.objs.size+1)::rest,[]⟩) (λr s'=>match r with | .ok (.ret v)=>v=.none/\Q (.done (.ret (.ref (h.objs.size+1)))) s' | .ok _=>False | .error e=>E e s')
   ⟨(h.push { cls:=.type "tuple",data:=.seq rest.toArray }).push (newExc C h.objs.size),g,d,t,os⟩) :
  wpAny (model prog w) A (Builtin.«type.__call__» ⟨.ref C::rest,[]⟩) Q E ⟨h,g,d,t,os⟩:=by
 have Fn:=PySem.F.excBase_ValueError
 repeat (first | with_reducible refine wpAny_loadPart_at hC ?_ | with_reducible refine wpAny_madeBy_exc hC ?_ | wp_step)
 refine codeAny_call_builtin_code (Code.quiet_builtin _ Fn.quiet) (fI hB hC ?_)
 refine mY hB hA hN hC hrest ?_
 show wpAny _ _ _ _ _ _
 have kp:∀ b o,h.get? b=some o->((h.push { cls:=.type "tuple",data:=.seq rest.toArray }).push (newExc C h.objs.size)).get? b=some o:=λb o e=>Heap.get?_push_of_some _ (Heap.get?_push_of_some _ e)
 have hget:((h.push { cls:=.type "tuple",data:=.seq rest.toArray }).push (newExc C h.objs.size)).get? (h.objs.size+1)=some (newExc C h.objs.size):=by
  have:=Heap.get?_push_size (h.push { cls:=.type "tuple",data:=.seq rest.toArray }) (o:=newExc C h.objs.size) rfl
  rwa [Heap.size_push] at this
 have cC:(Value.ref C::bm).contains (.ref C)=true:=by simp
 have hC₁:=kp _ _ hC
 have L1:=(looks_findIn (M:=model prog w) X hi).keeps kp
 have L2:=hb.keeps kp
 unfold isInstance
 repeat (first | with_reducible refine wpAny_loadPart_at hget ?_ | (with_reducible refine wpAny_isSubtype_exc hC₁ ?_;rw [cC]) | wp_step)
 show wpAny _ _ (typeLookup (.ref C) _) _ _ _
 refine L1.at (wpAny_holding (wpAny_bind (L2.at (wpAny_bind (wpAny_call (codeAny_mono hq λr s' z=>?_))))))
 rcases r with e | (_ | _ | _ | v)
 ·exact z
 ·exact z.elim
 ·exact z.elim
 ·exact z.elim
 ·obtain⟨rfl,z⟩:=z
  exact wpAny_pure (wpAny_pure z)
theorem iD {K:PySem.W.Frag} {i:Value} {rest:List Value} {Q:Value->Shared->Prop} (X:K.In h) (hB:bm.contains (.type "ValueError")=true) (hA:bm.contains (.type "AttributeError")=false) (hN:bm.contains (.type "NameError")=false)
  (hC:h.get? C=some (excClassObj nm q C N bs bm hdct sn sub ab col dd k0 k1 k2 k3 k5 fO)) (hrest:rest.length<=sizeLine) (hi:findIn K (.ref C) "__init__"=some (some i)) {j:Value}
  (hb:Looks (model prog w) h (bindSpecial i (.ref (h.objs.size+1))) (j,[.ref (h.objs.size+1)]))
  (hq:codeAny (model prog w) (A.under (.builtin "type.__call__" ⟨.ref C::rest,[]⟩)) (.call j ⟨.ref (h.objs.size+1)::rest,[]⟩) (λr s'=>match r with | .ok (.ret v)=>v=.none/\Q (.ref (h.objs.size+1)) s' | .ok _=>False | .error e=>E e s')
   ⟨(h.push { cls:=.type "tuple",data:=.seq rest.toArray }).push (newExc C h.objs.size),g,d,t,os⟩) :
  wpAny (model prog w) A (call (.ref C) rest) Q E ⟨h,g,d,t,os⟩:=by
 have f1:=tc_lookup
 have f2:=tc_bind (.ref C)
 have hT:(⟨h,g,d,t,os⟩:Shared).TypeIs (.ref C) "type":=⟨_,hC,rfl⟩
 refine wpAny_call (codeAny_of_tree ?_)
 show wpAny _ _ (callAny (.ref C) _) _ _ _
 repeat (any_goals (first | assumption | with_reducible refine wpAny_loadPart_at hC ?_ | wp_step))
 refine⟨rfl,?_⟩
 refine codeAny_call_builtin_at (Code.quiet_builtin _ (by decide +kernel)) entry_typeCall (wpAny_check_type_call_sub hC ?_)
 exact gH X hB hA hN hC hrest hi hb hq
end
def Tr (h:Heap) (e:Addr) (C:Value) (dd:Option Addr) (T:Addr) (fl:Value):Prop :=
 ∃ vs sl oT ts,h.get? e=some ⟨C,dd,.fields vs,sl⟩/\vs[1]?=some (.ref T)/\T≠e/\h.get? T=some oT/\oT.data=.fields ts/\ts[3]?=some fl
structure Kp (fs ch:List Addr) (h h':Heap):Prop where
 keep:∀ b o,b∉ch->b∉fs->h.get? b=some o->h'.get? b=some o
 slot:∀ b o,b∉ch->h.get? b=some o->∃ sl,h'.get? b=some { o with slots:=sl }
theorem Kp.trans {fs ch:List Addr} {h h' h'':Heap} (a:Kp fs ch h h') (b:Kp fs ch h' h''):Kp fs ch h h'' :=
 ⟨λc o hc hf e=>b.keep c o hc hf (a.keep c o hc hf e),λc o hc e=>by
  obtain⟨sl,e1⟩:=a.slot c o hc e
  obtain⟨sl',e2⟩:=b.slot c _ hc e1
  exact⟨sl',e2⟩⟩
theorem Kp.mono {fs ch ch':List Addr} {h h':Heap} (a:Kp fs ch h h') (hs:∀ b∈ch,b∈ch'):Kp fs ch' h h' :=
 ⟨λc o hc hf e=>a.keep c o (λz=>hc (hs c z)) hf e,λc o hc e=>a.slot c o (λz=>hc (hs c z)) e⟩
section
variable {M:Model} {A:Around} {E:Value->Shared->Prop} {s:Shared} {base:Heap} {env:Env} {outer:List Env} {L e T:Addr} {C:Value} {dd:Option Addr} {fl:Value}
theorem iF {vs:Array Value} {sl:Array (Option Value)} {head:Value} {hadNext:Bool} {Q:Unit->Shared->Prop} (hfr:A.frames=some (env::outer)) (hl:s.heap.FunFrames base (env::outer)) (hf:env.frame=some L)
  (he:s.heap.get? e=some ⟨C,dd,.fields vs,sl⟩) (hsz:1<vs.size)
  (h:∀ h' T,Tr h' e C dd T (rawInt L)->s.heap.objs.size<=T->Kp (cQ (env::outer)) [e] s.heap h'->Q () { s with heap:=h' }) :
  wpAny M A (do let a <- frameOf env;let pl <- entryPlaceOf L hadNext;let b <- EntryCells.newEntry head a .none (rawInt L) .none pl;setField (.ref e) 1 b) Q E s:=by
 have hne:e∉cQ (env::outer):=λhm=>by
  obtain⟨_,o,ho,hnf⟩:=hl.mem hm
  rw [he] at ho
  cases ho
  exact hnf vs rfl
 refine wpAny_bind (wpAny_frameOf_fun hfr hl hf λh1 so=>?_)
 refine wpAny_bind (wpAny_entryPlaceOf λpl hpl=>?_)
 unfold EntryCells.newEntry newFields
 refine wpAny_bind (wpAny_newObj_type ?_ (hpl.sizeOk5 _ _ _ _ _))
 have e1:h1.get? e=some ⟨C,dd,.fields vs,sl⟩:=(so.2.1 e hne).trans he
 generalize hO:({ cls:=.type "traceback",dict:=none,data:=.fields ([head,.ref L,.none,rawInt L,.none]++(if pl.isEmpty then List.replicate 6 Value.none else pl)).toArray }:Obj)=oT
 have hTd:oT.data=.fields ([head,.ref L,.none,rawInt L,.none]++(if pl.isEmpty then List.replicate 6 Value.none else pl)).toArray:=by rw [<- hO]
 have hTf:oT.isFreed=false:=by rw [<- hO];rfl
 have e2:(h1.push oT).get? e=some ⟨C,dd,.fields vs,sl⟩:=Heap.get?_push_of_some oT e1
 refine wpAny_setField e2 rfl hsz (h _ h1.objs.size ?_ ?_ ?_)
 ·have ne:h1.objs.size≠e:=Nat.ne_of_gt (Heap.lt_size e1)
  refine⟨vs.setIfInBounds 1 (.ref h1.objs.size),sl,oT,_,Heap.get?_update_self _ e2 rfl,by simp [hsz],ne,?_,hTd,by simp⟩
  rw [Heap.get?_update_other _ _ (Ne.symm ne)]
  exact Heap.get?_push_size h1 hTf
 ·exact Nat.le_of_eq (Eq.symm so.1)
 ·refine⟨λb o hb hf' q=>?_,λb o hb q=>?_⟩
  ·have hb':b≠e:=λz=>hb (by simp [z])
   rw [Heap.get?_update_other _ _ (Ne.symm hb')]
   exact Heap.get?_push_of_some oT ((so.2.1 b hf').trans q)
  ·have hb':b≠e:=λz=>hb (by simp [z])
   obtain⟨sl',q'⟩:=so.2.2 b o q
   refine⟨sl',?_⟩
   rw [Heap.get?_update_other _ _ (Ne.symm hb')]
   exact Heap.get?_push_of_some oT q'
theorem jt {vs:Array Value} {sl:Array (Option Value)} {Q:Unit->Shared->Prop} (hfr:A.frames=some (env::outer)) (hl:s.heap.FunFrames base (env::outer)) (hf:env.frame=some L)
  (he:s.heap.get? e=some ⟨C,dd,.fields vs,sl⟩) (h1:vs[1]?=some .none)
  (h:∀ h' T,Tr h' e C dd T (rawInt L)->s.heap.objs.size<=T->Kp (cQ (env::outer)) [e] s.heap h'->Q () { s with heap:=h' }):wpAny M A (noteFrame (.ref e) env) Q E s:=by
 unfold noteFrame
 simp only [hf]
 refine wpAny_bind (wpAny_field he rfl h1 ?_)
 rw [if_neg (by decide)]
 exact iF hfr hl hf he (Array.getElem?_eq_some_iff.mp h1).1 h
theorem gc {Q:Unit->Shared->Prop} (hfr:A.frames=some (env::outer)) (hl:s.heap.FunFrames base (env::outer)) (hf:env.frame=some L) (ht:Tr s.heap e C dd T .none)
  (h:∀ h' T',Tr h' e C dd T' (rawInt L)->s.heap.objs.size<=T'->Kp (cQ (env::outer)) [e,T] s.heap h'->Q () { s with heap:=h' }):wpAny M A (noteFrame (.ref e) env) Q E s:=by
 obtain⟨vs,sl,oT,ts,he,h1,hTe,hT,hdT,h3⟩:=ht
 unfold noteFrame
 simp only [hf]
 refine wpAny_bind (wpAny_field he rfl h1 ?_)
 rw [if_pos (show (Value.ref T != Value.none)=true from by simp)]
 refine wpAny_bind (wpAny_field hT hdT h3 ?_)
 rw [if_neg (show ¬((Value.none==rawInt L)=true) from by simp [rawInt])]
 refine wpAny_bind (wpAny_setField hT hdT (Array.getElem?_eq_some_iff.mp h3).1 ?_)
 generalize hu:s.heap.update T (Obj.mapFields (·.setIfInBounds 3 Value.none))=h1'
 have oth:∀ b,b≠T->h1'.get? b=s.heap.get? b:=λb hb=>by rw [<- hu];exact Heap.get?_update_other _ _ (Ne.symm hb)
 have hT1:∃ o,h1'.get? T=some o:=⟨_,by rw [<- hu];exact Heap.get?_update_self _ hT (Obj.isFreed_of_fields (Obj.data_mapFields hdT _))⟩
 have hl1:h1'.FunFrames base (env::outer):=hl.of_keeps λb o hb hnf=>⟨o,(oth b λq=>by rw [q,hT] at hb;cases hb;exact hnf ts hdT).trans hb,rfl⟩
 refine iF (s:={ s with heap:=h1' }) hfr hl1 hf ((oth e (Ne.symm hTe)).trans he) (Array.getElem?_eq_some_iff.mp h1).1 λh' T' t' n' k'=>h h' T' t' ?_ ?_
 ·have z:h1'.objs.size=s.heap.objs.size:=by rw [<- hu];exact Heap.size_update ..
  rw [<- z];exact n'
 ·refine⟨λb o hb hf' q=>k'.keep b o (λz=>hb (by simp at z;simp [z])) hf' ((oth b λz=>hb (by simp [z])).trans q),λb o hb q=>k'.slot b o (λz=>hb (by simp at z;simp [z])) ((oth b λz=>hb (by simp [z])).trans q)⟩
theorem land {Q:Unit->Shared->Prop} {fs:List Addr} (ht:Tr s.heap e C dd T fl) (h:∀ h',Tr h' e C dd T .none->Kp fs [T] s.heap h'->Q () { s with heap:=h' }):wpAny M A (setFlight (.ref e) none) Q E s:=by
 obtain⟨vs,sl,oT,ts,he,h1,hTe,hT,hdT,h3⟩:=ht
 unfold setFlight
 refine wpAny_bind (wpAny_field he rfl h1 ?_)
 rw [if_pos (show (Value.ref T != Value.none)=true from by simp)]
 have hsz:=(Array.getElem?_eq_some_iff.mp h3).1
 refine wpAny_setField hT hdT hsz (h _ ?_ ?_)
 ·refine⟨vs,sl,_,_,(Heap.get?_update_other _ _ hTe).trans he,h1,hTe,Heap.get?_update_self _ hT (Obj.isFreed_of_fields (Obj.data_mapFields hdT _)),Obj.data_mapFields hdT _,by simp [hsz]⟩
 ·refine⟨λb o hb _ q=>(Heap.get?_update_other _ _ λz=>hb (by simp [z])).trans q,λb o hb q=>⟨o.slots,(Heap.get?_update_other _ _ λz=>hb (by simp [z])).trans q⟩⟩
theorem iK {vs:Array Value} {sl:Array (Option Value)} {Q:Unit->Shared->Prop} (hfr:A.frames=some (env::outer)) (hl:s.heap.FunFrames base (env::outer)) (hf:env.frame=some L)
  (he:s.heap.get? e=some ⟨C,dd,.fields vs,sl⟩) (h1:vs[1]?=some .none)
  (h:∀ h' T,Tr h' e C dd T .none->s.heap.objs.size<=T->Kp (cQ (env::outer)) [e] s.heap h'->Q () { s with heap:=h' }):wpAny M A (leaving env (.ref e)) Q E s:=by
 unfold leaving
 refine wpAny_bind (jt hfr hl hf he h1 λh1' T t1 n1 k1=>?_)
 refine land (fs:=cQ (env::outer)) t1 λh2 t2 k2=>h h2 T t2 n1 ⟨λb o hb hf' q=>?_,λb o hb q=>?_⟩
 ·exact k2.keep b o (λz=>by simp at z;rw [z] at q;exact absurd (Heap.lt_size q) (Nat.not_lt.mpr n1)) hf' (k1.keep b o hb hf' q)
 ·obtain⟨s1,q1⟩:=k1.slot b o hb q
  obtain⟨s2,q2⟩:=k2.slot b _ (λz=>by simp at z;rw [z] at q;exact absurd (Heap.lt_size q) (Nat.not_lt.mpr n1)) q1
  exact⟨s2,q2⟩
theorem jo {Q:Unit->Shared->Prop} (hfr:A.frames=some (env::outer)) (hl:s.heap.FunFrames base (env::outer)) (hf:env.frame=some L) (ht:Tr s.heap e C dd T .none)
  (h:∀ h' T',Tr h' e C dd T' .none->s.heap.objs.size<=T'->Kp (cQ (env::outer)) [e,T] s.heap h'->Q () { s with heap:=h' }):wpAny M A (leaving env (.ref e)) Q E s:=by
 unfold leaving
 refine wpAny_bind (gc hfr hl hf ht λh1' T' t1 n1 k1=>?_)
 refine land (fs:=cQ (env::outer)) t1 λh2 t2 k2=>h h2 T' t2 n1 ⟨λb o hb hf' q=>?_,λb o hb q=>?_⟩
 ·exact k2.keep b o (λz=>by simp at z;rw [z] at q;exact absurd (Heap.lt_size q) (Nat.not_lt.mpr n1)) hf' (k1.keep b o hb hf' q)
 ·obtain⟨s1,q1⟩:=k1.slot b o hb q
  obtain⟨s2,q2⟩:=k2.slot b _ (λz=>by simp at z;rw [z] at q;exact absurd (Heap.lt_size q) (Nat.not_lt.mpr n1)) q1
  exact⟨s2,q2⟩
end
def XO (x C:Addr) (dd:Option Addr):HO:=.ext λh=>∃ vs sl,h.get? x=some ⟨.ref C,dd,.fields vs,sl⟩
def XN (x C:Addr) (dd:Option Addr):HO:=.ext λh=>∃ t sl,h.get? x=some ⟨.ref C,dd,.fields #[.ref t,.none,.none,.none,.bool false,.none],sl⟩
section
variable {P:Program} {w:World} {H H':Hp} {h h':Heap} {x C:Addr} {dd:Option Addr}
theorem XO.ok {vs:Array Value} {sl:Array (Option Value)} (e:h.get? x=some ⟨.ref C,dd,.fields vs,sl⟩):aY P w H h x (XO x C dd) :=
 ⟨⟨vs,sl,e⟩,⟨_,e⟩,λ_ _ ⟨vs,sl,q⟩ k=>⟨vs,sl,k _ q⟩⟩
theorem XN.ok {t:Addr} {sl:Array (Option Value)} (e:h.get? x=some ⟨.ref C,dd,.fields #[.ref t,.none,.none,.none,.bool false,.none],sl⟩):aY P w H h x (XN x C dd) :=
 ⟨⟨t,sl,e⟩,⟨_,e⟩,λ_ _ ⟨vs,sl,q⟩ k=>⟨vs,sl,k _ q⟩⟩
theorem XN.get (hok:dh P w H h) (e:H x=some (XN x C dd)):∃ t sl,h.get? x=some ⟨.ref C,dd,.fields #[.ref t,.none,.none,.none,.bool false,.none],sl⟩:=by
 obtain⟨q,_⟩:=(show aY P w H h x (XN x C dd) from hok x _ e)
 exact q
theorem XO.get (hok:dh P w H h) (e:H x=some (XO x C dd)):∃ vs sl,h.get? x=some ⟨.ref C,dd,.fields vs,sl⟩:=by
 obtain⟨q,_⟩:=(show aY P w H h x (XO x C dd) from hok x _ e)
 exact q
end
def cz (P:Program) (w:World):fF:=λouter H s E e s'=>∃(x C T:Addr) (dd:Option Addr) (H':Hp),e=.ref x/\s'.os=s.os/\AllBare s'.gens/\Un (cQ outer) [] H H' s.heap s'.heap/\dh P w H' s'.heap /\
 Tr s'.heap x (.ref C) dd T .none/\s.heap.get? x=none/\s.heap.get? T=none/\H' T=none/\H' x=some (XO x C dd)/\E (.ref C) (some x) H'
theorem gK {base h h':Heap} {H H':Hp} {ex:List Addr}:∀{l:List Env} {fs:List Addr},h.FunFrames base l->Un fs ex H H' h h'->(∀ b∈cQ l,H b=none)->(∀ b∈cQ l,b∉ex)->h'.FunFrames base l
 | [],_,_,_,_,_=>trivial
 | env::r,fs,hl,u,hn,hx=>by
  obtain⟨hk,⟨L,o,hf,hb,ho,hd⟩,hr⟩:=hl
  have hL:L∈cQ (env::r):=by unfold cQ;rw [List.filterMap_cons,hf];exact List.mem_cons_self
  have sub:∀ b∈cQ r,b∈cQ (env::r):=λb hb'=>by unfold cQ;rw [List.filterMap_cons,hf];exact List.mem_cons_of_mem _ hb'
  obtain⟨sl,e⟩:=u.any ho (hn L hL) (hx L hL)
  exact⟨hk,⟨L,_,hf,hb,e,hd⟩,gK hr u (λb hb'=>hn b (sub b hb')) λb hb'=>hx b (sub b hb')⟩
theorem gI {P:Program} {w:World} {H':Hp} {h h':Heap} {x C:Addr} {dd:Option Addr} {fs ch:List Addr} (hok:dh P w H' h) (k:Kp fs ch h h') (hch:∀ b∈ch,b=x∨H' b=none) (hfs:∀ b∈fs,H' b=none)
  (hx:H' x=some (XO x C dd)) {vs:Array Value} {sl:Array (Option Value)} (e:h'.get? x=some ⟨.ref C,dd,.fields vs,sl⟩):dh P w H' h':=by
 intro b o q
 by_cases hb:b=x
 ·subst hb
  rw [hx] at q
  cases q
  exact XO.ok e
 ·refine (hok b o q).fN (λc u hc r=>k.keep c u (λz=>?_) (λz=>?_) r) (λ_ r=>r) λ_ _ r=>r
  ·rcases hch c z with q1 | q1
   ·rcases hc with q2 | q2
    ·exact hb (q2.symm.trans q1)
    ·rw [q1,hx] at q2;cases q2
   ·rcases hc with q2 | q2
    ·rw [q2,q] at q1;cases q1
    ·rw [q2] at q1;cases q1
  ·have q1:=hfs c z
   rcases hc with q2 | q2
   ·rw [q2,q] at q1;cases q1
   ·rw [q2] at q1;cases q1
theorem iR {P:Program} {w:World} {K:PySem.W.Frag} {mg:Str->Option Value} {base:Heap} {N:List Str} {qual:Str} {scope:Scope} {f:Addr} {cd:Value} {A:Around} {outer:List Env} {s:Shared} {H:Hp} {E:XK} :
  Passes (cz P w) (cF (cz P w) P w K mg base N qual scope f cd A outer s H E) E:=by
 intro pins σ H1 s1 e s' I hq
 obtain⟨x,C,T,dd,H',rfl,os,bare,un,hok,tr,nx,nT,hT,hx,hE⟩:=hq
 have hl:=gK I.stack un I.cJ (λb _=>by simp)
 have frN:∀ b∈cQ (envOfC qual scope s.heap.objs.size f cd::outer),H' b=none:=λb hb=>by
  obtain⟨_,o,ho,_⟩:=I.stack.mem hb
  exact un.free b o ho (I.cJ b hb) (by simp)
 show wpAny (model P w) (A.deeper (envOfC qual scope s.heap.objs.size f cd)) (leaving (envOfC qual scope s.heap.objs.size f cd) (.ref x)) _ _ s'
 refine jo (L:=s.heap.objs.size) I.ok.frames hl rfl tr λh'' T' t' n' k'=>?_
 have old:∀ b o,s.heap.get? b=some o->b∉[x,T]:=λb o q hb=>by
  obtain⟨o1,q1⟩:=I.base.there b o q (by intro z;exact absurd (show b∈([]:List Addr) from z) (by simp))
  rcases List.mem_cons.mp hb with z | z
  ·rw [z,nx] at q1;cases q1
  ·rw [List.mem_singleton.mp z,nT] at q1;cases q1
 have nex:∀ b:Addr,b∉(cF (cz P w) P w K mg base N qual scope f cd A outer s H E).ex:=λb z=>absurd (show b∈([]:List Addr) from z) (by simp)
 have nfr:∀ b o,s.heap.get? b=some o->b∉cQ outer->b∉cQ (envOfC qual scope s.heap.objs.size f cd::outer):=λb o q hb hm=>by
  rcases List.mem_cons.mp (I.c7 b hm) with z | z
  ·exact absurd (Heap.lt_size q) (by rw [z];exact Nat.lt_irrefl _)
  ·exact hb z
 obtain⟨vs,sl,oT,ts,he,r'⟩:=t'
 have tr':Tr h'' x (.ref C) dd T' .none:=⟨vs,sl,oT,ts,he,r'⟩
 refine⟨x,C,T',dd,H',rfl,os.trans I.os,bare,?_,?_,tr',?_,?_,hok.fresh n',hx,hE⟩
 ·refine⟨λb o q nn hb _=>?_,λb o q nn hb _=>?_,λb o q nn _=>?_,λb o q _=>?_,λb xs q=>un.tups b xs (I.base.tups b xs q),λb o xs q=>un.frzs b o xs (I.base.frzs b o xs q),λb ps q=>?_⟩
  ·have q1:=I.base.keep b o q nn hb (nex b)
   have q2:=un.keep b o q1 (I.base.free b o q nn (nex b)) (nfr b o q hb) (by simp)
   exact k'.keep b o (old b o q) (nfr b o q hb) q2
  ·obtain⟨s1',q1⟩:=I.base.slot b o q nn hb (nex b)
   obtain⟨s2',q2⟩:=un.any q1 (I.base.free b o q nn (nex b)) (by simp)
   obtain⟨s3',q3⟩:=k'.slot b _ (old b o q) q2
   exact⟨s3',q3⟩
  ·obtain⟨o1,q1⟩:=I.base.there b o q (nex b)
   exact un.free b o1 q1 (I.base.free b o q nn (nex b)) (by simp)
  ·obtain⟨o1,q1⟩:=I.base.there b o q (nex b)
   obtain⟨o2,q2⟩:=un.there b o1 q1 (by simp)
   obtain⟨s3',q3⟩:=k'.slot b _ (old b o q) q2
   exact⟨_,q3⟩
  ·obtain⟨m1,e1⟩:=I.base.tbls b ps q
   obtain⟨m2,e2⟩:=un.tbls b _ e1
   exact⟨m1++m2,by rw [e2,Array.append_assoc]⟩
 ·exact gI hok k' (λb hb=>by
   rcases List.mem_cons.mp hb with z | z
   ·exact .inl z
   ·exact .inr (by rw [List.mem_singleton.mp z];exact hT)) frN hx he
 ·cases q:s.heap.get? x with
  | none=>rfl
  | some o=>exact absurd (List.mem_cons_self) (old x o q)
 ·cases q:s.heap.get? T' with
  | none=>rfl
  | some o =>
   obtain⟨o1,q1⟩:=I.base.there T' o q (nex T')
   obtain⟨o2,q2⟩:=un.there T' o1 q1 (by simp)
   exact absurd (Heap.lt_size q2) (Nat.not_lt.mpr n')
section
variable {prog:Program} {w:World} {A:Around} {E:Value->Shared->Prop} {s:Shared} {K:PySem.W.Frag} {env:Env}
theorem fJ {x:Sem Value} {Q:Flow->Shared->Prop} (hh:A.handled=none)
  (h:wpAny (model prog w) A x (λv s₁=>∃ e C t dd sl,v=.ref e/\K.In s₁.heap/\aS K C/\s₁.heap.get? e=some ⟨.ref C,dd,.fields #[.ref t,.none,.none,.none,.bool false,.none],sl⟩/\E (.ref e) s₁) E s) :
  wpAny (model prog w) A (raiseStmt env (some x) none) Q E s:=by
 unfold raiseStmt
 refine wpAny_bind (wpAny_mono h (λv s₁ h₁=>?_) λ_ _ z=>z)
 obtain⟨e,C,t,dd,sl,rfl,X,c,he,hE⟩:=h₁
 obtain⟨hp,g,d,tk,os⟩:=s₁
 have L1:Looks (model prog w) hp (isSubtype (.ref C) (.type "BaseException")) true:=by
  obtain⟨cd,hc,hm,_⟩:=c.cls
  obtain⟨m1,m2,m3⟩:=dH hm
  exact looks_mroIn X (by unfold mroIn;rw [hc,Option.bind_some,if_neg (by rw [m3];decide),m2])
 obtain⟨od,cd,sc,hk⟩:=c.at_
 have hC:=X _ _ hk
 repeat (first | with_reducible refine wpAny_loadPart_at he ?_ | with_reducible refine wpAny_loadPart_at hC ?_ | with_reducible refine Looks.at L1 ?_ | wp_step)
 exact wpAny_raiseNew_none hh hE
end
def mB (K:PySem.W.Frag) (H₀:Hp) (E:XK) (te:TE):TS:=λ_ σ H=>te σ H λv H1=>∃ x C dd,v=.ref x/\H1 x=some (XN x C dd)/\aS K C/\H₀ x=none/\E (.ref C) (some x) (upd H1 x (XO x C dd))
section
variable {P:Program} {w:World} {K:PySem.W.Frag} {mg:Str->Option Value} {base:Heap} {N:List Str} {qual:Str} {scope:Scope} {f:Addr} {cd:Value} {A:Around} {outer:List Env} {s:Shared} {H:Hp} {E:XK}
theorem kK {pins:List (Addr × Obj)} {σ:St} {H2:Hp} {s2:Shared} {x C:Addr} {dd:Option Addr} (I:Inv (cF (cz P w) P w K mg base N qual scope f cd A outer s H E) pins σ H2 s2) (hx:H2 x=some (XN x C dd)) (hn:H x=none)
  (hE:E (.ref C) (some x) (upd H2 x (XO x C dd))):(cF (cz P w) P w K mg base N qual scope f cd A outer s H E).xe (.ref x) s2:=by
 obtain⟨t,sl,he⟩:=XN.get I.hok hx
 have nex:∀ b:Addr,b∉(cF (cz P w) P w K mg base N qual scope f cd A outer s H E).ex:=λb z=>absurd (show b∈([]:List Addr) from z) (by simp)
 have nx:s.heap.get? x=none:=by
  cases q:s.heap.get? x with
  | none=>rfl
  | some o =>
   have:=I.base.free x o q hn (nex x)
   rw [hx] at this
   cases this
 have old:∀ b o,s.heap.get? b=some o->b≠x:=λb o q z=>by rw [z,nx] at q;cases q
 have nfr:∀ b o,s.heap.get? b=some o->b∉cQ outer->b∉cQ (envOfC qual scope s.heap.objs.size f cd::outer):=λb o q hb hm=>by
  rcases List.mem_cons.mp (I.c7 b hm) with z | z
  ·exact absurd (Heap.lt_size q) (by rw [z];exact Nat.lt_irrefl _)
  ·exact hb z
 have hok':dh P w (upd H2 x (XO x C dd)) s2.heap:=λb o q=>by
  by_cases hb:b=x
  ·subst hb
   rw [ai] at q
   cases q
   exact XO.ok he
  ·rw [ak hb] at q
   refine (I.hok b o q).fN (λ_ _ _ r=>r) (λc r=>?_) λc xs r=>?_
   ·rw [ak (λz=>by rw [z,hx] at r;cases r)];exact r
   ·rw [ak (λz=>by rw [z,hx] at r;cases r)];exact r
 show wpAny (model P w) (A.deeper (envOfC qual scope s.heap.objs.size f cd)) (leaving (envOfC qual scope s.heap.objs.size f cd) (.ref x)) _ _ s2
 refine iK (L:=s.heap.objs.size) I.ok.frames I.stack rfl he rfl λh'' T t' n' k'=>?_
 obtain⟨vs,sl',oT,ts,he',r'⟩:=t'
 have tr':Tr h'' x (.ref C) dd T .none:=⟨vs,sl',oT,ts,he',r'⟩
 have nT:T≠x:=r'.2.1
 refine⟨x,C,T,dd,upd H2 x (XO x C dd),rfl,I.os,I.bare,?_,?_,tr',nx,?_,?_,ai,hE⟩
 ·refine⟨λb o q nn hb _=>?_,λb o q nn hb _=>?_,λb o q nn _=>?_,λb o q _=>?_,λb xs q=>?_,λb o xs q=>?_,λb ps q=>?_⟩
  ·exact k'.keep b o (by simp [old b o q]) (nfr b o q hb) (I.base.keep b o q nn hb (nex b))
  ·obtain⟨s1',q1⟩:=I.base.slot b o q nn hb (nex b)
   obtain⟨s3',q3⟩:=k'.slot b _ (by simp [old b o q]) q1
   exact⟨s3',q3⟩
  ·rw [ak (old b o q)]
   exact I.base.free b o q nn (nex b)
  ·obtain⟨o1,q1⟩:=I.base.there b o q (nex b)
   obtain⟨s3',q3⟩:=k'.slot b _ (by simp [old b o q]) q1
   exact⟨_,q3⟩
  ·have:=I.base.tups b xs q
   rw [ak (λz=>by rw [z,hx] at this;cases this)];exact this
  ·have:=I.base.frzs b o xs q
   rw [ak (λz=>by rw [z,hx] at this;cases this)];exact this
  ·obtain⟨m1,e1⟩:=I.base.tbls b ps q
   exact⟨m1,by rw [ak (λz=>by rw [z,hx] at e1;cases e1)];exact e1⟩
 ·exact gI hok' k' (λb hb=>.inl (by simpa using hb)) (λb hb=>by
   have z:=I.cJ b hb
   rw [ak (λy=>by rw [y,hx] at z;cases z)];exact z) ai he'
 ·cases q:s.heap.get? T with
  | none=>rfl
  | some o =>
   obtain⟨o1,q1⟩:=I.base.there T o q (nex T)
   exact absurd (Heap.lt_size q1) (Nat.not_lt.mpr n')
 ·rw [ak nT]
  exact I.hok.fresh n'
theorem bV {e:Expr} {te:TE} {pos:Pos} (he:PE (cF (cz P w) P w K mg base N qual scope f cd A outer s H E) e te):PS (cF (cz P w) P w K mg base N qual scope f cd A outer s H E) (.Raise (some e) none pos) (mB K H E te):=by
 intro pins s1 σ H1 D I h
 rw [arm_exec_Raise]
 refine wpAny_bind (wpAny_standAt (fJ (K:=K) (I.ok.hd rfl) (wpAny_bind (a8 (he pins s1 σ H1 _ I h) λv s2 ⟨y,H2,I2,r,x,C,dd,ey,hx,c,hn,hE⟩=>?_))))
 subst ey
 obtain rfl:v=Value.ref x:=r
 obtain⟨t,sl,hg⟩:=XN.get I2.hok hx
 exact wpAny_bind (wpAny_standAt (wpAny_pure ⟨x,C,t,dd,sl,rfl,I2.cU,c,hg,kK I2 hx hn hE⟩))
end
section
variable {prog:Program} {w:World} {A:Around} {E:Value->Shared->Prop} {h:Heap} {g:Array GenState} {d:Drawn} {t:Nat} {os:OsState}
variable {nm q:Str} {C N:Addr} {bs bm:List Value} {hdct:Bool} {sn:List Str} {sub:List Value} {ab:Bool} {col:Option Bool} {dd:Option Addr} {k0 k1 k2 k3 k5:Option Value}
theorem kn {R:Result->Shared->Prop} {e a:Addr} (hB:bm.contains (.type "ValueError")=true) (hC:h.get? C=some (excClassObj nm q C N bs bm hdct sn sub ab col dd k0 k1 k2 k3 k5 fO)) (he:h.get? e=some (newExc C a))
  (hq:∀ h',h'.get? e=some (newExc C h.objs.size)->(∀ b o,b≠e->h.get? b=some o->h'.get? b=some o)->R (.ok (.ret .none)) ⟨h',g,d,t,os⟩) :
  codeAny (model prog w) A (.call (.builtin "ValueError.__init__") ⟨[.ref e],[]⟩) R ⟨h,g,d,t,os⟩:=by
 have Fn:=PySem.F.excBase_ValueError
 have cB:(Value.ref C::bm).contains (.type "ValueError")=true:=by rw [List.contains_cons,hB,Bool.or_true]
 have hshort:=Fn.noStar
 refine codeAny_call_builtin Fn.init.plain Fn.initEntry ?_
 have chk:∀{Q:Unit->Shared->Prop} {E:Value->Shared->Prop} {A:Around},Q () ⟨h,g,d,t,os⟩->wpAny (model prog w) A (checkBuiltinCall "ValueError.__init__" ⟨[.ref e],[]⟩) Q E ⟨h,g,d,t,os⟩:=by
  intro Q E A hq
  simp only [checkBuiltinCall,Fn.initKind,Fn.initSplit,Fn.initRow]
  repeat (first | with_reducible refine wpAny_loadPart_at he ?_ | with_reducible refine wpAny_loadPart_at hC ?_ | (with_reducible refine wpAny_isSubtype_exc hC ?_;rw [cB]) | wp_step)
  exact hq
 refine chk ?_
 wp_walk
 have hp:=Heap.get?_push_of_some (h:=h) { cls:=.type "tuple",data:=.seq ([]:List Value).toArray } he
 refine hq _ ?_ λb o hb z=>?_
 ·exact Heap.get?_update_self _ hp rfl
 ·rw [Heap.get?_update_other _ _ (Ne.symm hb)]
  exact Heap.get?_push_of_some _ z
end
theorem bN.any {P:Program} {w:World} {K:PySem.W.Frag} {mg:Str->Option Value} {base:Heap} {CX:fF} {k:Nat} {f:Addr} {fd:FuncData} {ps:List Str} {sp:Sp} (F:bN P w K mg base bf k f fd ps sp):bN P w K mg base CX k f fd ps sp :=
 ⟨F.len,λA outer s H args us vs Q E hr he hb hv hs=>codeAny_mono (F.run A outer s H args us vs Q E hr he hb hv hs) λr s' q=>by
  cases r with
  | error e=>exact False.elim q
  | ok fl =>
   cases fl with
   | ret u=>exact q
   | next=>exact q
   | brk=>exact q
   | cont=>exact q⟩
def rz (K:PySem.W.Frag) (ta tv:TE) (f:Str):TS:=λD σ H=>tv σ H λy H1=>ta σ H1 λxv H2=>∃ x C,xv=.ref x/\H2 x=some (XN x C none)/\aS K C/\findIn K (.ref C) f=some none /\
 ∀ dx,H2 dx=none->dx≠x->D.nx σ (upd (upd H2 dx (.xd [(f,y)])) x (XN x C (some dx)))
section
variable {X:Cx} {o value:Expr} {f:Str} {pos pos':Pos} {ta tv:TE}
theorem nR (ha:PE X o ta) (hv:PE X value tv) (hs:swapsWith value (some (.Attribute o f pos')) pos.line X.env=pure false:=by rfl):PS X (.Assign [.Attribute o f pos'] value pos) (rz X.K ta tv f):=by
 intro pins s σ H D I h
 refine plainObj_wpAny_Assign_Attribute (a8 (hv pins s σ H _ I h) λu s1 ⟨y,H1,I1,ry,q⟩=>a8 (ha pins s1 σ H1 _ I1 q) λov s2 ⟨xv,H2,I2,rx,x,C,ex,hx,c,hf,q2⟩=>?_) hs
 subst ex
 obtain rfl:ov=Value.ref x:=rx
 obtain⟨t,sl,hg⟩:=XN.get I2.hok hx
 obtain⟨cd,hc,hm,hh⟩:=c.cls
 refine mZ I2.cU hg hc hm hh c.sa hf λh' g1 g2 g3=>?_
 have hd0:H2 s2.heap.objs.size=none:=I2.hok.fresh (Nat.le_refl _)
 have hne:s2.heap.objs.size≠x:=λz=>by rw [z,hx] at hd0;cases hd0
 have bx:∀ b,H2 b=none->b≠x:=λb z y=>by rw [y,hx] at z;cases z
 have bd:∀ b o,s2.heap.get? b=some o->b≠s2.heap.objs.size:=λb o q=>Nat.ne_of_lt (Heap.lt_size q)
 have tb:∀ b u,H2 b=some u->b≠s2.heap.objs.size:=λb u q z=>by rw [z,hd0] at q;cases q
 refine⟨σ,upd (upd H2 s2.heap.objs.size (.xd [(f,y)])) x (XN x C (some s2.heap.objs.size)),I2.un ⟨λb o q n _ _=>g3 b o (bx b n) q,λb o q n _ _=>⟨o.slots,g3 b o (bx b n) q⟩,λb o q n _=>?_,λb o q _=>?_,λb xs q=>?_,λb o xs q=>?_,λb ps q=>?_⟩ ?_,q2 _ hd0 hne⟩
 ·rw [ak (bx b n),ak (bd b o q)];exact n
 ·by_cases z:b=x
  ·exact⟨_,by rw [z];exact g1⟩
  ·exact⟨o,g3 b o z q⟩
 ·rw [ak (λz=>by rw [z,hx] at q;cases q),ak (tb b _ q)];exact q
 ·rw [ak (λz=>by rw [z,hx] at q;cases q),ak (tb b _ q)];exact q
 ·exact⟨#[],by rw [ak (λz=>by rw [z,hx] at q;cases q),ak (tb b _ q),q];simp⟩
 ·intro b o q
  by_cases z:b=x
  ·subst z
   rw [ai] at q
   cases q
   exact XN.ok g1
  ·rw [ak z] at q
   by_cases z2:b=s2.heap.objs.size
   ·subst z2
    rw [ai] at q
    cases q
    refine⟨_,g2,λk=>?_⟩
    show fG (List.lookup k [(f,y)]) (if k=f then some u else none)
    by_cases e:k=f
    ·subst e
     rw [if_pos rfl,List.lookup_cons,beq_self_eq_true]
     exact ry
    ·have e':(k==f)=false:=by simpa using e
     rw [if_neg e,List.lookup_cons,e']
     exact True.intro
   ·rw [ak z2] at q
    refine (I2.hok b o q).fN (λc' u' hc' r=>g3 c' u' (λz3=>?_) r) (λc' r=>?_) λc' xs r=>?_
    ·rcases hc' with e | e
     ·exact z (e.symm.trans z3)
     ·rw [z3,hx] at e;cases e
    ·rw [ak (λz3=>by rw [z3,hx] at r;cases r),ak (tb c' _ r)];exact r
    ·rw [ak (λz3=>by rw [z3,hx] at r;cases r),ak (tb c' _ r)];exact r
end
structure kg (K:PySem.W.Frag) (C:Addr):Prop where
 obj:∃ nm q N bs bm hdct sn sub ab col dd k0 k1 k2 k3 k5,K.lookup C=some (excClassObj nm q C N bs bm hdct sn sub ab col dd k0 k1 k2 k3 k5 fO)/\bm.contains (.type "ValueError")=true/\bm.contains (.type "AttributeError")=false/\bm.contains (.type "NameError")=false
 kp:keepIn K (.ref C)=true
def ip (K:PySem.W.Frag) (f:Str):Sp:=λvs H Q _=>∃ x C v,vs=[.ref x,v]/\H x=some (XN x C none)/\aS K C/\findIn K (.ref C) f=some none /\
 ∀ dx,H dx=none->dx≠x->Q .non (upd (upd H dx (.xd [(f,v)])) x (XN x C (some dx)))
def qr (C:Addr) (f:Str) (t:TA):TE:=λσ H Q=>t σ H λvs H1=>∃ v,vs=[v]/\∀ x dx,H1 x=none->H1 dx=none->dx≠x->Q (.ref x) (upd (upd (upd H1 x (XN x C none)) dx (.xd [(f,v)])) x (XN x C (some dx)))
def qp (C:Addr):TE:=λ_ H Q=>∀ x,H x=none->Q (.ref x) (upd H x (XN x C none))
section
variable {X:Cx} {C fi:Addr} {fd:FuncData} {p f x:Str} {k:Nat} {pos np:Pos} {e:Expr} {t:TA}
theorem Inv.newExc {pins:List (Addr × Obj)} {σ:St} {H:Hp} {s:Shared} (I:Inv X pins σ H s) (us:List Value):Inv X pins σ (upd H (s.heap.objs.size+1) (XN (s.heap.objs.size+1) C none))
  { s with heap:=(s.heap.push { cls:=.type "tuple",data:=.seq us.toArray }).push (L2.newExc C s.heap.objs.size) }:=by
 have I1:Inv X pins σ H { s with heap:=s.heap.push { cls:=.type "tuple",data:=.seq us.toArray } }:=I.kept (t':=s.toks) λb u q=>Heap.get?_push_of_some _ q
 refine I1.laid (a:=s.heap.objs.size+1) (t':=s.toks) (λb u q=>Heap.get?_push_of_some _ q) (Nat.le_of_eq (Heap.size_push _ _)) ?_
 refine XN.ok (t:=s.heap.objs.size) (sl:=#[]) ?_
 have:=Heap.get?_push_size (s.heap.push { cls:=.type "tuple",data:=.seq us.toArray }) (o:=L2.newExc C s.heap.objs.size) rfl
 rwa [Heap.size_push] at this
theorem kH (M:kg X.K C) (c:aS X.K C) (hi:findIn X.K (.ref C) "__init__"=some (some (.ref fi))) (fn:isFn X.K (.ref fi)=true) (hf:findIn X.K (.ref C) f=some none) (F:bN X.prog X.w X.K X.mg X.base bf k fi fd ["self",p] (ip X.K f)) (hr:bj (k+1) X.A) (hg:Gl X x)
  (hm:X.mg x=some (.ref C)) (hb:Binds X.K fd ["self",p] []) (ha:PA X [e] t) (hdb:(x==("__debug__":Str))=false:=by decide) (he:starEach [e] X.env=(false,eval e X.env)::starEach [] X.env:=by rfl) (hpl:(backTo pos (starEach [] X.env)).any (·.1)=false:=by rfl) :
  PE X (.Call (.Name x np) [e] [] pos) (qr C f t):=by
 intro pins s σ H Q I h
 refine wpAny_Call_Name_kw (dc I hg hm ?_ hdb)
 refine PySem.W.callWith_K (h₀:=X.base) I.ok.mod.kin M.kp (a8 (ha pos pins s σ H _ I h) λus s1 ⟨vs,H1,I1,r,q⟩=>⟨I1.cU,?_⟩) he hpl
 obtain⟨v,rfl,q⟩:=q
 obtain⟨u,rfl,ru⟩:=vals1 r
 obtain⟨nm,qn,Nn,bs,bm,hdct,sn,sub,ab,col,dd,k0,k1,k2,k3,k5,hk,hB,hA,hN⟩:=M.obj
 have I2:=Inv.newExc (C:=C) I1 [u]
 have n1:H1 (s1.heap.objs.size+1)=none:=I1.hok.fresh (Nat.le_succ _)
 have r2:Vals [V.ref (s1.heap.objs.size+1),v] [Value.ref (s1.heap.objs.size+1),u]:=.cons rfl (.cons ru .nil)
 have hq:ip X.K f [V.ref (s1.heap.objs.size+1),v] (upd H1 (s1.heap.objs.size+1) (XN (s1.heap.objs.size+1) C none)) (λz H3=>z=.non/\Q (.ref (s1.heap.objs.size+1)) H3) E0 :=
  ⟨_,C,v,rfl,ai,c,hf,λdx hd hne=>⟨rfl,q _ dx n1 (by rw [ak hne] at hd;exact hd) hne⟩⟩
 obtain⟨hh,g,d,tk,os⟩:=s1
 refine iD (K:=X.K) I1.cU hB hA hN (I1.cU _ _ hk) (by show 1<=sizeLine;decide) hi (bind_fn I1.cU _ (beq_iff_eq.mp fn)) ?_
 refine codeAny_mono (F.run _ X.stack _ _ ⟨[Value.ref (hh.objs.size+1),u],[]⟩ [Value.ref (hh.objs.size+1),u] _ _ E0 (hr.make C [u] []) (I2.pL.make C [u] []) (by have:=hb _ [Value.ref (hh.objs.size+1),u] I2.cU rfl;rwa [List.append_nil] at this) r2 hq) λr s' hq'=>?_
 cases r with
 | error e=>exact False.elim hq'
 | ok fl =>
  cases fl with
  | ret u' =>
   obtain⟨v',H',I3,rv,ev,q3⟩:=I2.after hq'
   subst ev
   exact⟨rv,⟨V.ref (hh.objs.size+1),H',I3,rfl,q3⟩⟩
  | next=>exact False.elim hq'
  | brk=>exact False.elim hq'
  | cont=>exact False.elim hq'
theorem kG (M:kg X.K C) (hi:findIn X.K (.ref C) "__init__"=some (some (.builtin "ValueError.__init__"))) (hg:Gl X x) (hm:X.mg x=some (.ref C)) (hdb:(x==("__debug__":Str))=false:=by decide) :
  PE X (.Call (.Name x np) [] [] pos) (qp C):=by
 intro pins s σ H Q I h
 refine wpAny_Call_Name_kw (dc I hg hm ?_ hdb)
 refine PySem.W.callWith_K0 I.cU M.kp ?_
 obtain⟨nm,qn,Nn,bs,bm,hdct,sn,sub,ab,col,dd,k0,k1,k2,k3,k5,hk,hB,hA,hN⟩:=M.obj
 have I2:=Inv.newExc (C:=C) I []
 have n1:H (s.heap.objs.size+1)=none:=I.hok.fresh (Nat.le_succ _)
 have Fn:=PySem.F.excBase_ValueError
 obtain⟨hh,g,d,tk,os⟩:=s
 have hC:=I.cU _ _ hk
 refine iD (K:=X.K) I.cU hB hA hN hC (by show 0<=sizeLine;decide) hi (j:=.builtin "ValueError.__init__") (Looks.of_pure (Fn.init.bind _)) ?_
 have hC2:((hh.push { cls:=.type "tuple",data:=.seq ([]:List Value).toArray }).push (L2.newExc C hh.objs.size)).get? C=some _:=Heap.get?_push_of_some _ (Heap.get?_push_of_some _ hC)
 have he2:((hh.push { cls:=.type "tuple",data:=.seq ([]:List Value).toArray }).push (L2.newExc C hh.objs.size)).get? (hh.objs.size+1)=some (L2.newExc C hh.objs.size):=by
  have:=Heap.get?_push_size (hh.push { cls:=.type "tuple",data:=.seq ([]:List Value).toArray }) (o:=L2.newExc C hh.objs.size) rfl
  rwa [Heap.size_push] at this
 refine kn hB hC2 he2 λh' g1 g3=>⟨rfl,.ref (hh.objs.size+1),_,?_,rfl,h _ n1⟩
 have e:upd (upd H (hh.objs.size+1) (XN (hh.objs.size+1) C none)) (hh.objs.size+1) (XN (hh.objs.size+1) C none)=upd H (hh.objs.size+1) (XN (hh.objs.size+1) C none):=by
  funext b
  by_cases z:b=hh.objs.size+1
  ·rw [z,ai,ai]
  ·rw [ak z]
 have W:=I2.write (x:=hh.objs.size+1) (e:=hh.objs.size+1) (o:=XN (hh.objs.size+1) C none) (h':=h') (t':=tk) (by rw [ai];exact True.intro) (.inl rfl) (λb u hb q=>g3 b u hb q) ⟨_,g1⟩ (XN.ok g1)
 rw [e] at W
 exact W
end
def rW (H:Hp) (x C:Addr) (dd:Option Addr):Prop:=H x=some (XO x C dd)∨H x=some (XN x C dd)
theorem rW.get {P:Program} {w:World} {H:Hp} {h:Heap} {x C:Addr} {dd:Option Addr} (a:rW H x C dd) (hok:dh P w H h):∃ vs sl,h.get? x=some ⟨.ref C,dd,.fields vs,sl⟩:=by
 rcases a with a | a
 ·exact XO.get hok a
 ·obtain⟨t,sl,e⟩:=XN.get hok a
  exact⟨_,sl,e⟩
def sQ (K:PySem.W.Frag) (ta:TE) (f:Str):TE:=λσ H Q=>ta σ H λxv H1=>∃ x C dx fs v,xv=.ref x/\rW H1 x C (some dx)/\aS K C/\findIn K (.ref C) f=some none/\H1 dx=some (.xd fs)/\fs.lookup f=some v/\Q v H1
def gm (K:PySem.W.Frag):List V->Hp->VK->Prop:=λxs H Q=>∃ x C dd c cv b,xs=[.ref x,c]/\lg c=some cv/\rW H x C dd/\(∀ dx,dd=some dx->∃ fs,H dx=some (.xd fs))/\aS K C/\kitOne K (.ref C) cv=some b/\Q (.bl b) H
section
variable {X:Cx} {e:Expr} {f:Str} {pos:Pos} {ta:TE}
theorem kf {P:Program} {w:World} {H:Hp} {h:Heap} {dx:Addr} {fs:List (Str × V)} (hok:dh P w H h) (hd:H dx=some (.xd fs)):∃(mA:Str->Option Value) (od:Obj),h.get? dx=some od/\(∀ name,lookIn name od=some (mA name))/\∀ g,fG (fs.lookup g) (mA g):=by
 obtain⟨mA,n,r⟩:=(show aY P w H h dx (.xd fs) from hok dx _ hd)
 obtain⟨od,ho,hl⟩:=f6 n
 exact⟨mA,od,ho,hl,r⟩
theorem nN (he:PE X e ta) (hb:attributeBase e f X.env (eval e X.env)=eval e X.env:=by rfl):PE X (.Attribute e f pos) (sQ X.K ta f):=by
 intro pins s σ H Q I h
 refine mW hb (a8 (he pins s σ H _ I h) λu s1 ⟨xv,H1,I1,rx,x,C,dx,fs,v,ex,ax,c,hf,hd,hl,q⟩=>?_)
 subst ex
 obtain rfl:u=Value.ref x:=rx
 obtain⟨vs,sl,hg⟩:=ax.get I1.hok
 obtain⟨mA,od,ho,lk,r⟩:=kf I1.hok hd
 obtain⟨cd,hc,hm,hh⟩:=c.cls
 obtain⟨u,hu,ru⟩:=fG.some_of (v:=v) (o:=mA f) (by rw [<- hl];exact r f)
 have J:PySem.W.InstAt s1.heap x ⟨.ref C,some dx,.fields vs,sl⟩ C (some od):=⟨hg,rfl,rfl,ho⟩
 refine mX I1.cU J hc hm c.ga c.gx (findObj_own (by unfold hasDictIn;rw [hc];exact hh) hf rfl (by rw [lk,hu])) (kr ru) ⟨v,H1,I1.tok _,ru,q⟩
theorem kj:cp X (.builtin "isinstance") (gm X.K):=by
 intro pins s σ H xs us Q I r h
 obtain⟨x,C,dd,c,cv,b,rfl,ec,ax,hdd,cl,ek,q⟩:=h
 obtain⟨u,w',rfl,rx,rc⟩:=vals2 r
 obtain rfl:u=Value.ref x:=rx
 have e:w'=cv:=by
  cases c with
  | ty n=>cases ec;exact rc
  | ref a=>cases ec;exact rc
  | _=>cases ec
 subst e
 obtain⟨vs,sl,hg⟩:=ax.get I.hok
 have fin:∀ tk,EP X pins σ Q (.bool b) { s with toks:=tk }:=λtk=>⟨.bl b,H,I.tok _,rfl,q⟩
 cases dd with
 | none=>exact kia_one (jY (ox:=⟨.ref C,none,.fields vs,sl⟩) (od:=none) cl) I.cU ⟨hg,rfl,rfl,True.intro⟩ ek (λz=>nomatch z) fin
 | some dx =>
  obtain⟨fs,hd⟩:=hdd dx rfl
  obtain⟨mA,od,ho,lk,r⟩:=kf I.hok hd
  exact kia_one (jY (ox:=⟨.ref C,some dx,.fields vs,sl⟩) (od:=some od) cl) I.cU ⟨hg,rfl,rfl,ho⟩ ek (λz=>nomatch z) fin
end
section
variable {prog:Program} {w:World} {A:Around} {E:Value->Shared->Prop} {K:PySem.W.Frag} {h:Heap} {g:Array GenState} {d:Drawn} {t:Nat} {os:OsState} {x C B:Addr}
theorem aS.base (c:aS K C):mroIn K C (.type "BaseException")=some true:=by
 obtain⟨cd,hc,hm,_⟩:=c.cls
 obtain⟨m1,m2,m3⟩:=dH hm
 unfold mroIn
 rw [hc,Option.bind_some,if_neg (by rw [m3];decide),m2]
theorem ko {dd:Option Addr} {vs:Array Value} {sl:Array (Option Value)} {Q:Bool->Shared->Prop} (X:K.In h) (c:aS K C) (b:aS K B) (he:h.get? x=some ⟨.ref C,dd,.fields vs,sl⟩) (hs:mroIn K C (.ref B)=some true)
  (hq:Q true ⟨h,g,d,t,os⟩):wpAny (model prog w) A (excMatches (.ref x) (.ref B)) Q E ⟨h,g,d,t,os⟩:=by
 have f:=tc_notTuple
 have L1:=looks_mroIn (M:=model prog w) X hs
 have L2:=looks_mroIn (M:=model prog w) X b.base
 have L3:=looks_mroIn (M:=model prog w) X c.base
 obtain⟨od,cd,sc,hk⟩:=b.at_
 have hB:=X _ _ hk
 unfold excMatches
 repeat (first | with_reducible refine wpAny_loadPart_at he ?_ | with_reducible refine wpAny_loadPart_at hB ?_ | with_reducible refine Looks.at L1 ?_ | with_reducible refine Looks.at L2 ?_ | with_reducible refine Looks.at L3 ?_ | wp_step)
 exact hq
end
theorem find_erase {α:Type} (p:α->Bool):∀(l:List α) (i:Nat),(∀ e,l[i]?=some e->p e=false)->(l.eraseIdx i).find? p=l.find? p
 | [],_,_=>by simp
 | a::r,0,h=>by
  have:=h a rfl
  rw [List.eraseIdx_cons_zero,List.find?_cons_of_neg (by rw [this];decide)]
 | a::r,i+1,h=>by
  have ih:=find_erase p r i (λe q=>h e (by simpa using q))
  rw [List.eraseIdx_cons_succ]
  cases q:p a with
  | true=>rw [List.find?_cons_of_pos q,List.find?_cons_of_pos q]
  | false=>rw [List.find?_cons_of_neg (by rw [q];decide),List.find?_cons_of_neg (by rw [q];decide),ih]
theorem lU {es:Array DictEntry} {i:Nat} {name y:Str} (hk:∀ e,es[i]?=some e->e.key.isStr name=true) (hy:y≠name):nsFind (es.eraseIdxIfInBounds i) y=nsFind es y:=by
 unfold nsFind findBy
 congr 1
 rw [<- Array.find?_toList,<- Array.find?_toList]
 have e:(es.eraseIdxIfInBounds i).toList=es.toList.eraseIdx i:=by
  unfold Array.eraseIdxIfInBounds
  split
  ·rw [Array.toList_eraseIdx]
  ·rename_i h
   rw [List.eraseIdx_of_length_le (by simpa using h)]
 rw [e]
 refine find_erase _ _ _ λd q=>?_
 have z:=hk d (by simpa using q)
 cases c:d.key.isStr y with
 | false=>exact c
 | true =>
  cases hkey:d.key with
  | str n t =>
   rw [hkey] at z c
   have z1:n=name:=by simpa [Value.isStr] using z
   have c1:n=y:=by simpa [Value.isStr] using c
   exact absurd (c1.symm.trans z1) hy
  | _=>rw [hkey] at z;simp [Value.isStr] at z
section
variable {M:Model} {A:Around} {E:Value->Shared->Prop} {s:Shared}
theorem ju {a:Addr} {m:Str->Option Value} {name:Str} {Q:Bool->Shared->Prop} (hn:s.heap.Ns a m)
  (hQ:∀ h' m',h'.Ns a m'->(∀ y,y≠name->m' y=m y)->Heap.SameBut a s.heap h'->Q (m name).isSome { s with heap:=h' }):wpAny M A (nsDel a name) Q E s:=by
 obtain⟨o,es,ep,ho,hd,hk,hm⟩:=id hn
 have noRef:es.any (·.refKey)=false:=by
  rw [Array.any_eq_false']
  intro e he
  obtain⟨n,t,z⟩:=hk e he
  simp [DictEntry.refKey,z]
 have there:(m name).isSome=es.any (·.key.isStr name):=by
  rw [<- hm name]
  unfold nsFind findBy
  rw [Option.isSome_map,<- Array.find?_toList,<- Array.any_toList,Bool.eq_iff_iff,List.find?_isSome,List.any_eq_true]
 have has:nsHas name o=pure (es.any (·.key.isStr name)):=by
  rw [nsHas_eq]
  unfold nsHasByArray
  rw [hd]
  show (if (es.any λx=>x.key.isStr name)=true then _ else _)=_
  generalize (es.any λx=>x.key.isStr name)=b
  cases b<;>simp [noRef]
 unfold nsDel
 refine wpAny_bind (wpAny_loadPart ho ?_)
 rw [has]
 refine wpAny_bind (wpAny_pure ?_)
 rw [<- there]
 cases c:(m name).isSome with
 | false =>
  have:=hQ s.heap m hn (λ_ _=>rfl) (.refl ..)
  rw [c] at this
  exact wpAny_pure this
 | true =>
  refine wpAny_bind (wpAny_updatePart ho (wpAny_pure ?_))
  obtain⟨cl,dd,dt,sl⟩:=o
  subst hd
  have fin:∃ m',(s.heap.update a (Obj.dropName name)).Ns a m'/\∀ y,y≠name->m' y=m y:=by
   cases q:es.findIdx? (·.key.isStr name) with
   | none=>exact⟨m,⟨_,es,ep,Heap.get?_update_self _ ho (by simp only [Obj.dropName_eq,Obj.dropNameByArray,q]<;>rfl),(by simp only [Obj.dropName_eq,Obj.dropNameByArray,q]<;>rfl),hk,hm⟩,λ_ _=>rfl⟩
   | some i =>
    refine⟨nsFind (es.eraseIdxIfInBounds i),⟨_,es.eraseIdxIfInBounds i,ep+1,Heap.get?_update_self _ ho (by simp only [Obj.dropName_eq,Obj.dropNameByArray,q]<;>rfl),(by simp only [Obj.dropName_eq,Obj.dropNameByArray,q]<;>rfl),hk.erase i,λ_=>rfl⟩,λy hy=>?_⟩
    rw [lU (name:=name) (λe z=>?_) hy,hm y]
    obtain⟨hi,hp⟩:=Array.findIdx?_eq_some_iff_getElem.mp q
    rw [Array.getElem?_eq_getElem hi] at z
    cases z
    exact hp.1
  obtain⟨m',n',k'⟩:=fin
  have:=hQ _ m' n' k' (Heap.SameBut.update ..)
  rw [c] at this
  exact this
end
section
variable {X:Cx} {pins:List (Addr × Obj)} {σ:St} {H:Hp} {s:Shared} {M:Model} {A:Around} {E:Value->Shared->Prop}
theorem Inv.oe {i:Nat} {n:Str} {h':Heap} {m m':Str->Option Value} {tk:Nat} (I:Inv X pins σ H s) (hN:X.N.Nodup) (hi:X.N[i]?=some n) (hm:s.heap.Ns X.env.locals m) (hl:∀(j:Nat) (x:Str) (v:V),X.N[j]?=some x->σ[j]?=some (some v)->pk X.env.scope x->∃ u,RelV v u/\Look X.env s.heap m x u)
  (hn:h'.Ns X.env.locals m') (hk:∀ y,y≠n->m' y=m y) (hs:Heap.SameBut X.env.locals s.heap h'):Inv X pins (σ.set i none) H { s with heap:=h',toks:=tk }:=by
 have lh:=I.lh
 obtain⟨oL,_,_,hoL,_⟩:=id hm
 have lt:∀ b o,X.s₀.heap.get? b=some o->b≠X.env.locals:=λb o e=>Nat.ne_of_lt (Nat.lt_of_lt_of_le (Heap.lt_size e) I.ok.above)
 refine⟨I.ok,I.os,I.bare,⟨λb o e n hb hx=>?_,λb o e n hb hx=>?_,I.base.free,λb o e hx=>?_,I.base.tups,I.base.frzs,I.base.tbls⟩,⟨_,hn,λj y v' e1 e2 e3=>?_⟩,λy c e=>?_,I.free,I.freeC,λp hp=>?_,?_,by simpa using I.len⟩
 ·exact (hs.2 b (lt b o e)).trans (I.base.keep b o e n hb hx)
 ·obtain⟨sl,e1⟩:=I.base.slot b o e n hb hx
  exact⟨sl,(hs.2 b (lt b o e)).trans e1⟩
 ·obtain⟨o',e1⟩:=I.base.there b o e hx
  exact⟨o',(hs.2 b (lt b o e)).trans e1⟩
 ·by_cases hj:j=i
  ·subst hj
   have hlt:j<σ.length:=by rw [I.len];exact (List.getElem?_eq_some_iff.mp hi).1
   rw [List.getElem?_set_self hlt] at e2
   cases e2
  ·rw [List.getElem?_set_ne (Ne.symm hj)] at e2
   obtain⟨u',r',q⟩:=hl j y v' e1 e2 e3
   refine⟨u',r',?_⟩
   rcases q with⟨k,e⟩|⟨k,c,e,z⟩
   ·have:y≠n:=λe=>hj (fg hN e1 (e▸hi))
    exact .inl ⟨k,by rw [hk y this];exact e⟩
   ·exact .inr ⟨k,c,e,z.sameBut hs (lh y c e)⟩
 ·obtain⟨w',z⟩:=I.cell y c e
  exact⟨w',z.sameBut hs (lh y c e)⟩
 ·obtain⟨e,n,ne,nf,d⟩:=I.pin p hp
  exact⟨(hs.2 p.1 ne).trans e,n,ne,nf,d⟩
 ·intro b ob e
  refine (I.hok b ob e).fN (λc w' hc q=>(hs.2 c ?_).trans q) (λ_ q=>q) λ_ _ q=>q
  rintro rfl
  have hf:=I.free
  rcases hc with rfl | hc
  ·rw [hf] at e;cases e
  ·rw [hf] at hc;cases hc
theorem name_goes {i:Nat} {n:Str} {pos:Pos} {Q:Unit->Shared->Prop} (I:Inv X pins σ H s) (hN:X.N.Nodup) (hi:X.N[i]?=some n) (hl:X.env.scope.names.lookup n=some .local)
  (h:∀ s',Inv X pins (σ.set i none) H s'->Q () s'):wpAny M A (do bindName X.env n .none;unbindBehindTheSuite X.env n pos) Q E s:=by
 have hp:(X.env.scope.kind==.class || (X.env.scope.kind==.module && X.env.locals != X.env.globals))=false:=by rw [I.ok.kind];rfl
 have hk:X.env.kindOf n=some .local:=hl
 refine wpAny_bind (wpAny_bindName (bo (v:=.non) (u:=.none) I hN hi (.inl hl) rfl (λs1 I1=>?_) (.inr hl)))
 have hlt:i<σ.length:=by rw [I.len];exact (List.getElem?_eq_some_iff.mp hi).1
 obtain⟨m,hm,hlook⟩:=id I1.loc
 have some_n:(m n).isSome=true:=by
  obtain⟨u,_,q⟩:=hlook i n .non hi (List.getElem?_set_self hlt) (.inl hl)
  rcases q with⟨_,e⟩|⟨k,_⟩
  ·rw [e];rfl
  ·rw [hk] at k
   rcases k with k | k<;>cases k
 unfold unbindBehindTheSuite
 refine wpAny_onRaise ?_
 unfold unbindName
 refine wpAny_bind (wpAny_point (wpAny_bind ?_))
 unfold deleteName
 simp only [hk,hp]
 rw [if_neg (by decide)]
 refine wpAny_bind (ju hm λh' m' n' k' s'=>?_)
 rw [some_n]
 simp only [Bool.not_true,Bool.false_eq_true,if_false]
 refine wpAny_pure (wpAny_point (h _ ?_))
 have J:=Inv.oe (tk:=s1.toks) I1 hN hi hm hlook n' k' s'
 rw [List.set_set] at J
 exact J
end
def pO (X:Cx) (x:Addr):Cx:={ X with A:=X.A.mark (some (.ref x)),calm:=false,xe:=λ_ _=>False }
section
variable {X:Cx} {pins:List (Addr × Obj)} {σ:St} {H:Hp} {s:Shared} {x:Addr}
theorem Inv.tO (I:Inv X pins σ H s) (x:Addr):Inv (pO X x) pins σ H s :=
 ⟨⟨I.ok.mod,I.ok.kind,I.ok.glob,I.ok.blt,I.ok.above,I.ok.inj,I.ok.has,I.ok.cab,λz=>absurd (show false=true from z) (by decide),I.ok.frames,I.ok.stk,I.ok.exf,I.ok.bs,I.ok.bsz,I.ok.noex,I.ok.exfs,I.ok.d4,I.ok.frf⟩,I.os,I.bare,I.base,I.loc,I.cell,I.free,I.freeC,I.pin,I.hok,I.len⟩
theorem Inv.nK (ok:X.Ok) (I:Inv (pO X x) pins σ H s):Inv X pins σ H s:=⟨ok,I.os,I.bare,I.base,I.loc,I.cell,I.free,I.freeC,I.pin,I.hok,I.len⟩
theorem pG {fn:Addr} {fd:FuncData} {ps:List Str} {sp:Sp} {k:Nat} {E:XK} {f:Str} {e:Expr} {es:List Expr} {t:TA} {p pos:Pos} {Q:VK} (F:bN X.prog X.w X.K X.mg X.base (cz X.prog X.w) k fn fd ps sp) (hr:bj k X.A) (hg:Gl X f) (hm:X.mg f=some (.ref fn)) (hk:PySem.W.keepIn X.K (.ref fn)=true) (hb:Binds X.K fd ps [])
  (ha:PA X.gW (e::es) t) (I:Inv X pins σ H s) (h:t σ H λvs H1=>sp vs H1 Q E) (hdb:(f==("__debug__":Str))=false:=by decide) (he:starEach (e::es) X.env=(false,eval e X.env)::starEach es X.env:=by rfl) (hpl:(backTo pos (starEach es X.env)).any (·.1)=false:=by rfl) :
  wpAny (model X.prog X.w) X.A (eval (.Call (.Name f p) (e::es) [] pos) X.env) (EP X pins σ Q) (λev s'=>∃ H1 s1,Inv X pins σ H1 s1/\cz X.prog X.w X.stack H1 s1 E ev s') s:=by
 refine wpAny_Call_Name_kw (dc I hg hm ?_ hdb)
 refine PySem.W.callWith_K (h₀:=X.base) I.ok.mod.kin hk (wpAny_mono (ha pos pins s σ H _ (I.ei _) h) (λus s1 ⟨vs,H1,J1,r,q⟩=>?_) λ_ _ z=>False.elim z) he hpl
 have I1:Inv X pins σ H1 s1:=J1.bW
 refine⟨I1.cU,?_⟩
 have hl:(us++[]).length=ps.length:=by rw [List.append_nil,<- r.length];exact F.len _ _ _ _ q
 have bt:=hb s1 us I1.cU hl
 rw [List.append_nil] at bt
 refine wpAny_call (codeAny_mono (F.run X.A X.stack s1 H1 ⟨us,[]⟩ us vs Q E hr I1.pL bt r q) λr' s' hq=>?_)
 cases r' with
 | error e=>exact⟨H1,s1,I1,hq⟩
 | ok fl =>
  cases fl with
  | ret u=>exact I1.after hq
  | next=>exact False.elim hq
  | brk=>exact False.elim hq
  | cont=>exact False.elim hq
theorem landed {E:XK} {ev:Value} {s' s1:Shared} {H1:Hp} {Q:Unit->Shared->Prop} {E':Value->Shared->Prop} (hst:X.stack=X.env::X.outer) (hfr:X.env.frame=some X.env.locals) (I:Inv X pins σ H1 s1) (hq:cz X.prog X.w X.stack H1 s1 E ev s')
  (h:∀ x C T dd H' h',ev=.ref x->Inv X pins σ H' { s' with heap:=h' }->Tr h' x (.ref C) dd T .none->H' T=none->H' x=some (XO x C dd)->E (.ref C) (some x) H'->(X.env.locals<T/\(∀ y c,X.env.cells.lookup y=some c->c≠T)/\∀ p∈X.pn++pins,p.1≠T)->Q () { s' with heap:=h' }) :
  wpAny (model X.prog X.w) X.A (noteFrame ev X.env) (λ_ s2=>wpAny (model X.prog X.w) X.A (setFlight ev none) Q E' s2) E' s':=by
 obtain⟨x,C,T,dd,H',rfl,os,bare,un,hok,tr,nx,nT,hT,hx,hE⟩:=hq
 have hl:=gK I.stack un I.cJ (λb _=>by simp)
 have frN:∀ b∈cQ X.stack,H' b=none:=λb hb=>by
  obtain⟨_,o,ho,_⟩:=I.stack.mem hb
  exact un.free b o ho (I.cJ b hb) (by simp)
 have fr:=I.ok.frames
 have old:∀ b o,s1.heap.get? b=some o->b∉[x,T]:=λb o q hb=>by
  rcases List.mem_cons.mp hb with z | z
  ·rw [z,nx] at q;cases q
  ·rw [List.mem_singleton.mp z,nT] at q;cases q
 rw [hst] at hl fr
 refine gc (L:=X.env.locals) fr hl hfr tr λh1 T' t1 n1 k1=>?_
 refine land (fs:=cQ (X.env::X.outer)) t1 λh2 t2 k2=>?_
 rw [<- hst] at k1 k2
 have k3:Kp (cQ X.stack) [x,T] s'.heap h2:=⟨λb o hb hf q=>k2.keep b o (λz=>by simp at z;rw [z] at q;exact absurd (Heap.lt_size q) (Nat.not_lt.mpr n1)) hf (k1.keep b o hb hf q),λb o hb q=>by
  obtain⟨s1',q1⟩:=k1.slot b o hb q
  obtain⟨s2',q2⟩:=k2.slot b _ (λz=>by simp at z;rw [z] at q;exact absurd (Heap.lt_size q) (Nat.not_lt.mpr n1)) q1
  exact⟨s2',q2⟩⟩
 obtain⟨vs,sl,oT,ts,he,r'⟩:=t2
 have below:∀ b o,s1.heap.get? b=some o->b<T':=λb o q=>by
  obtain⟨o1,q1⟩:=un.there b o q (by simp)
  exact Nat.lt_of_lt_of_le (Heap.lt_size q1) n1
 have fT:X.env.locals<T'/\(∀ y c,X.env.cells.lookup y=some c->c≠T')/\∀ p∈X.pn++pins,p.1≠T':=by
  refine⟨?_,λy c e=>?_,λp hp=>?_⟩
  ·obtain⟨m,⟨o,_,_,ho,_⟩,_⟩:=I.loc
   exact below _ o ho
  ·obtain⟨v,o,ho,_⟩:=I.cell y c e
   exact Nat.ne_of_lt (below _ o ho)
  ·exact Nat.ne_of_lt (below _ _ (I.pin p hp).1)
 refine h x C T' dd H' h2 rfl ?_ ⟨vs,sl,oT,ts,he,r'⟩ (hok.fresh n1) hx hE fT
 refine I.ot (s':={ s' with heap:=h2 }) (ch:=[]) os ⟨λb o q nn hb _=>?_,λb o q nn hb _=>?_,λb o q nn _=>un.free b o q nn (by simp),λb o q _=>?_,un.tups,un.frzs,un.tbls⟩ ?_ bare (λb hb=>absurd hb (by simp))
 ·exact k3.keep b o (old b o q) hb (un.keep b o q nn hb (by simp))
 ·obtain⟨s1',q1⟩:=un.any q nn (by simp)
  obtain⟨s2',q2⟩:=k3.slot b _ (old b o q) q1
  exact⟨s2',q2⟩
 ·obtain⟨o1,q1⟩:=un.there b o q (by simp)
  obtain⟨s2',q2⟩:=k3.slot b _ (old b o q) q1
  exact⟨_,q2⟩
 ·exact gI hok k3 (λb hb=>by
   rcases List.mem_cons.mp hb with z | z
   ·exact .inl z
   ·exact .inr (by rw [List.mem_singleton.mp z];exact hT)) frN hx he
def lA (n:Option Nat) (x:Addr) (σ:St):St:=match n with | some i=>σ.set i (some (.ref x)) | none=>σ
def iG (n:Option Nat) (D:Ends):Ends:=match n with
 | some i=>{ nx:=λσ H=>D.nx (σ.set i none) H,rt:=D.rt,bk:=λσ H=>D.bk (σ.set i none) H,ct:=λσ H=>D.ct (σ.set i none) H }
 | none=>D
theorem ku {i:Nat} {n c:Str} {np hpos:Pos} {b₀:Stmt} {suite:List Stmt} {ts:TS} {D:Ends} {C B T:Addr} {dd:Option Addr} (I:Inv X pins σ H s) (tr:Tr s.heap x (.ref C) dd T .none) (hT:H T=none) (fT:X.env.locals<T/\(∀ y c,X.env.cells.lookup y=some c->c≠T)/\∀ p∈X.pn++pins,p.1≠T)
  (cC:aS X.K C) (cB:aS X.K B) (hs:mroIn X.K C (.ref B)=some true) (hg:Gl X c) (hm:X.mg c=some (.ref B)) (hN:X.N.Nodup) (hi:X.N[i]?=some n) (hl:X.env.scope.names.lookup n=some .local)
  (ht:eA (pO X x) (b₀::suite) ts) (h:ts (iG (some i) D) (lA (some i) x σ) H) (hdb:(c==("__debug__":Str))=false:=by decide) :
  wpAny (model X.prog X.w) X.A (handleBy (.ref x) X.env [.ExceptHandler (some (.Name c np)) (some n) (b₀::suite) hpos]) (SP X pins D) X.xe s:=by
 have J:=I.tO x
 obtain⟨vs,sl,oT,tsv,he,r'⟩:=tr
 refine wpAny_handleBy_cons (codeAny_handlers_test (dc (X:=pO X x) J hg hm ?_ hdb)) (by intro q;cases q)
 obtain⟨hh,g,d,tk,os⟩:=s
 refine ko I.cU cC cB he hs ?_
 refine codeAny_handlers_suite_as (land (s:=⟨hh,g,d,tk,os⟩) (fs:=[]) ⟨vs,sl,oT,tsv,he,r'⟩ λh' t' k'=>?_)
 have J1:Inv (pO X x) pins σ H { (⟨hh,g,d,tk,os⟩:Shared) with heap:=h' }:=J.turned (t':=tk) (it:=T) (λb o hb e=>k'.keep b o (by simpa using hb) (by simp) e) hT (Nat.ne_of_gt fT.1) (.inr (Nat.le_trans I.ok.above (Nat.le_of_lt fT.1))) fT.2.1 fT.2.2
 refine bo (X:=pO X x) (v:=.ref x) J1 hN hi (.inl hl) rfl (λs2 J2=>?_) (.inr hl)
 refine wpAny_mono (ht pins s2 _ H _ J2 h) (λfl s3 q=>?_) λ_ _ z=>False.elim z
 cases fl with
 | next =>
  obtain⟨σ',H',I',q⟩:=q
  exact name_goes (I'.nK I.ok) hN hi hl λs4 I4=>⟨_,H',I4,q⟩
 | brk =>
  obtain⟨σ',H',I',q⟩:=q
  exact name_goes (I'.nK I.ok) hN hi hl λs4 I4=>⟨_,H',I4,q⟩
 | cont =>
  obtain⟨σ',H',I',q⟩:=q
  exact name_goes (I'.nK I.ok) hN hi hl λs4 I4=>⟨_,H',I4,q⟩
 | ret u =>
  obtain⟨v,σ',H',I',rv,q⟩:=q
  exact name_goes (I'.nK I.ok) hN hi hl λs4 I4=>⟨v,_,H',I4,rv,q⟩
end
def PH (X:Cx) (n:Option Nat) (B:Addr) (hd:ExceptHandler) (ts:TS):Prop:=∀(pins:List (Addr × Obj)) (σ:St) (H:Hp) (s:Shared) (x C T:Addr) (dd:Option Addr) (D:Ends),Inv X pins σ H s->Tr s.heap x (.ref C) dd T .none->H T=none ->
 (X.env.locals<T/\(∀ y c,X.env.cells.lookup y=some c->c≠T)/\∀ p∈X.pn++pins,p.1≠T)->aS X.K C->mroIn X.K C (.ref B)=some true->ts (iG n D) (lA n x σ) H->wpAny (model X.prog X.w) X.A (handleBy (.ref x) X.env [hd]) (SP X pins D) X.xe s
def rO (K:PySem.W.Frag) (B:Addr) (n:Option Nat) (sp:Sp) (ta:TA) (put:V->St->St) (ts:TS):TS:=λD σ H=>ta σ H λvs H1=>sp vs H1 (λv H2=>D.nx (put v σ) H2)
 (λcv xo H2=>∃ C x dd,cv=.ref C/\xo=some x/\H2 x=some (XO x C dd)/\aS K C/\mroIn K C (.ref B)=some true/\ts (iG n D) (lA n x σ) H2)
section
variable {X:Cx} {B:Addr} {n:Option Nat} {hd:ExceptHandler} {ts:TS}
theorem mh {i:Nat} {nm c:Str} {np hpos:Pos} {b₀:Stmt} {suite:List Stmt} (cB:aS X.K B) (hg:Gl X c) (hm:X.mg c=some (.ref B)) (hN:X.N.Nodup) (hi:X.N[i]?=some nm) (hl:X.env.scope.names.lookup nm=some .local) (ht:∀ x,eA (pO X x) (b₀::suite) ts)
  (hdb:(c==("__debug__":Str))=false:=by decide):PH X (some i) B (.ExceptHandler (some (.Name c np)) (some nm) (b₀::suite) hpos) ts :=
 λpins σ H s x C T dd D I tr hT fT cC hs h=>ku I tr hT fT cC cB hs hg hm hN hi hl (ht x) h hdb
variable {k:Nat} {f:Str} {ps:List Str} {sp:Sp} {e:Expr} {es:List Expr} {t:TA} {p cpos epos pos:Pos}
theorem pH {pins:List (Addr × Obj)} {σ:St} {D:Ends} {E:XK} {ev:Value} {s' s1:Shared} {H1:Hp} (hst:X.stack=X.env::X.outer) (hfr:X.env.frame=some X.env.locals) (hh:PH X n B hd ts) (I:Inv X pins σ H1 s1) (hq:cz X.prog X.w X.stack H1 s1 E ev s')
  (hE:∀ C x H',E (.ref C) (some x) H'->aS X.K C/\mroIn X.K C (.ref B)=some true/\ts (iG n D) (lA n x σ) H') :
  wpAny (model X.prog X.w) X.A (noteFrame ev X.env) (λ_ s2=>wpAny (model X.prog X.w) X.A (setFlight ev none) (λ_ s3=>wpAny (model X.prog X.w) X.A (handleBy ev X.env [hd]) (SP X pins D) X.xe s3) X.xe s2) X.xe s':=by
 refine landed hst hfr I hq λx C T dd H' h' ee I' tr hT hx e fT=>?_
 subst ee
 obtain⟨c1,c2,c3⟩:=hE C x H' e
 exact hh pins σ H' _ x C T dd D I' tr hT fT c1 c2 c3
theorem ic (Cl:Callee X.prog X.w X.K X.mg X.base (cz X.prog X.w) k f ps sp) (hr:bj k X.A) (hg:Gl X f) (hst:X.stack=X.env::X.outer) (hfr:X.env.frame=some X.env.locals) (ha:PA X.gW (e::es) t) (hh:PH X n B hd ts)
  (hdb:(f==("__debug__":Str))=false:=by decide) (he:starEach (e::es) X.env=(false,eval e X.env)::starEach es X.env:=by rfl) (hpl:(backTo cpos (starEach es X.env)).any (·.1)=false:=by rfl)
  (hs:swapsWith (.Call (.Name f p) (e::es) [] cpos) none epos.line X.env=pure false:=by rfl) :
  PS X (.Try [.Expr (.Call (.Name f p) (e::es) [] cpos) epos] [hd] [] [] pos) (rO X.K B n sp t (λ_ σ=>σ) ts):=by
 intro pins s σ H D I h
 obtain⟨fn,fd,F,hm,hk,hb⟩:=Cl.ex
 refine wpAny_Try_except (wpAny_execs_cons (wpAny_Expr_any (wpAny_mono (pG F hr hg hm hk hb ha I h hdb he hpl) (λv s1 ⟨y,H1,I1,r1,q1⟩=>wpAny_execs_nil (wpAny_execs_nil ⟨σ,H1,I1,q1⟩)) λev s' ⟨H1,s1,I1,hq⟩=>?_) I.quiet hs))
 exact pH hst hfr hh I1 hq λC x H' ⟨C',x',dd,e1,e2,_,c1,c2,c3⟩=>by cases e1;cases e2;exact⟨c1,c2,c3⟩
end
section
variable {P:Program} {w:World} {K:PySem.W.Frag} {mg:Str->Option Value} {base:Heap} {k:Nat} {x:Str} {ps:List Str} {sp:Sp}
theorem jd {st:Stmt} {N:List Str} (D:aw K mg x st)
  (hb:∀(kV doc pm:Value) (an:Option Addr) (cdv ct:Value) (us:List Value),us.length=ps.length->bindArgs (PySem.W.fnOf x x (ba st) (aG st) (ah st) .none kV doc pm an cdv ct) ⟨us,[]⟩=pure (ps.zip us))
  (S:ay N ps (ah st)) (len:∀ vs H Q E,sp vs H Q E->vs.length=ps.length)
  (hbody:∀(f:Addr) (cdv:Value) (A:Around) (outer:List Env) (s:Shared) (H:Hp) (vs:List V) (Q:VK) (E:XK),bj k (A.deeper (envOfC x (ah st) s.heap.objs.size f cdv))->sp vs H Q E ->
   ∃ t,eA (cF (cz P w) P w K mg base N x (ah st) f cdv A outer s H E) (aG st) t/\t { nx:=λ_ H'=>Q .non H',rt:=Q } (start N vs) H):Callee P w K mg base (cz P w) (k+1) x ps sp:=by
 obtain⟨f,fd,F,hm⟩:=D
 obtain⟨oc,od,kV,doc,pm,an,cdv,ct,osl,rfl,lk,hcd⟩:=F.ex
 exact⟨f,_,oE lk hcd S len λA outer s H vs Q E hr h=>hbody f cdv A outer s H vs Q E hr h,hm,F.kp,F.binds hb⟩
theorem Callee.any {CX:fF} (C:Callee P w K mg base bf k x ps sp):Callee P w K mg base CX k x ps sp:=by
 obtain⟨f,fd,F,a,b,c⟩:=C.ex
 exact⟨f,fd,F.any,a,b,c⟩
end
theorem m8 {P:Program} {w:World} {K:PySem.W.Frag} {mg:Str->Option Value} {base:Heap} {qual f p:Str} {st:Stmt} {fi:Addr} {fd:FuncData} {p1 p2 p3 p4:Pos} (F:mK K "__init__" qual st fi fd) (S:ay ["self",p] ["self",p] (ah st))
  (hb:aG st=[.Assign [.Attribute (.Name "self" p1) f p2] (.Name p p3) p4]) (h1:(ah st).names.lookup ("self":Str)=some .local) (h2:(ah st).names.lookup p=some .local) (hd:(p==("__debug__":Str))=false) (hcd:(p==("__classdict__":Str))=false)
  (ab:∀ env:Env,attributeBase (.Name "self" p1) f env (eval (.Name "self" p1) env)=eval (.Name "self" p1) env) (sw:∀ env:Env,swapsWith (.Name p p3) (some (.Attribute (.Name "self" p1) f p2)) p4.line env=pure false):bN P w K mg base bf 1 fi fd ["self",p] (ip K f):=by
 refine F.ok S (λvs H Q E h=>?_) (λcdv A outer s H vs Q E hr h=>?_)
 ·obtain⟨x,C,v,rfl,_⟩:=h
  rfl
 ·obtain⟨x,C,v,rfl,hx,c,hf,q⟩:=h
  rw [hb]
  refine⟨_,aj (nR (jB (i:=0) rfl (.inl h1) (by decide) (by decide)) (jB (i:=1) rfl (.inl h2) hd hcd) (sw _)),?_⟩
  exact⟨v,rfl,.ref x,rfl,x,C,rfl,hx,c,hf,λdx n ne=>q dx n ne⟩
structure dE (P:Program) (w:World) (K:PySem.W.Frag) (mg:Str->Option Value) (base:Heap) (x:Str) (C:Addr) (f:Str):Prop where
 mkd:kg K C
 cls:aS K C
 at_:mg x=some (.ref C)
 nof:findIn K (.ref C) f=some none
 ex:∃ fi fd p,findIn K (.ref C) "__init__"=some (some (.ref fi))/\isFn K (.ref fi)=true/\bN P w K mg base bf 1 fi fd ["self",p] (ip K f)/\Binds K fd ["self",p] []
structure iq (K:PySem.W.Frag) (mg:Str->Option Value) (x:Str) (C:Addr):Prop where
 mkd:kg K C
 cls:aS K C
 at_:mg x=some (.ref C)
 ini:findIn K (.ref C) "__init__"=some (some (.builtin "ValueError.__init__"))
section
variable {X:Cx} {C:Addr} {f x:Str} {pos np:Pos} {e:Expr} {t:TA}
theorem fk (c:dE X.prog X.w X.K X.mg X.base x C f) (hr:bj 2 X.A) (hg:Gl X x) (ha:PA X [e] t) (hdb:(x==("__debug__":Str))=false:=by decide)
  (he:starEach [e] X.env=(false,eval e X.env)::starEach [] X.env:=by rfl) (hpl:(backTo pos (starEach [] X.env)).any (·.1)=false:=by rfl):PE X (.Call (.Name x np) [e] [] pos) (qr C f t):=by
 obtain⟨fi,fd,p,hi,fn,F,hb⟩:=c.ex
 exact kH c.mkd c.cls hi fn c.nof F hr hg c.at_ hb ha hdb he hpl
theorem me (c:iq X.K X.mg x C) (hg:Gl X x) (hdb:(x==("__debug__":Str))=false:=by decide):PE X (.Call (.Name x np) [] [] pos) (qp C):=kG c.mkd c.ini hg c.at_ hdb
theorem bz {X:Cx} (K:PySem.W.Frag) (hK:X.K=K):cp X (.builtin "isinstance") (gm K):=by subst hK;exact kj
theorem iT {X:Cx} {e:Expr} {f:Str} {pos:Pos} {ta:TE} (K:PySem.W.Frag) (hK:X.K=K) (he:PE X e ta) (hb:attributeBase e f X.env (eval e X.env)=eval e X.env:=by rfl):PE X (.Attribute e f pos) (sQ K ta f):=by subst hK;exact nN he hb
theorem eO:bootBuiltins "ValueError"=some (.type "ValueError"):=by decide +kernel
theorem jZ {K:PySem.W.Frag} {H:Hp} {x C dx:Addr} {c:V} {cv:Value} {b:Bool} {fs:List (Str × V)} {Q:VK} (hx:H x=some (XO x C (some dx))) (hd:H dx=some (.xd fs)) (cl:aS K C) (hc:lg c=some cv) (hk:kitOne K (.ref C) cv=some b) (q:Q (.bl b) H):gm K [.ref x,c] H Q :=
 ⟨x,C,some dx,c,cv,b,rfl,hc,.inl hx,λ_ e=>by cases e;exact⟨fs,hd⟩,cl,hk,q⟩
end
inductive o7 (K:PySem.W.Frag) (H:Hp):Nat->V->V->Bool->Prop
 | flat {d:Nat} {y x:V}:oC y=true->oC x=true->o7 K H d y x (tM y x)
 | same {d:Nat} {p:Addr}:o7 K H d (.ref p) (.ref p) true
 | lists {d:Nat} {p q:Addr} {xs ys:List V} {e:Nat->Bool}:p≠q->bh K H p xs->bh K H q ys->xs.length=ys.length->(∀ j y x,xs[j]?=some y->ys[j]?=some x->o7 K H d y x (e j))->o7 K H (d+1) (.ref p) (.ref q) ((List.range xs.length).all e)
 | unlike {d:Nat} {p q:Addr} {xs ys:List V}:p≠q->bh K H p xs->bh K H q ys->xs.length≠ys.length->o7 K H (d+1) (.ref p) (.ref q) false
 | tups {d:Nat} {p q:Addr} {xs ys:List V} {e:Nat->Bool}:p≠q->cn K H p xs->cn K H q ys->(∀ j y x,xs[j]?=some y->ys[j]?=some x->o7 K H d y x (e j))->o7 K H (d+1) (.ref p) (.ref q) ((List.range (min xs.length ys.length)).all e && xs.length==ys.length)
section
variable {X:Cx} {pins:List (Addr × Obj)} {σ:St} {H:Hp} {s:Shared}
theorem Vals.at {xs:List V} {us:List Value} (r:Vals xs us):∀{j:Nat} {u:Value},us[j]?=some u->∃ x,xs[j]?=some x/\RelV x u:=by
 induction r with
 | nil=>intro j u h;simp at h
 | cons r t ih =>
  intro j u h
  cases j with
  | zero=>simp only [List.getElem?_cons_zero,Option.some.injEq] at h;subst h;exact⟨_,rfl,r⟩
  | succ j=>simp only [List.getElem?_cons_succ] at h ⊢;exact ih h
theorem Vals.len {xs:List V} {us:List Value} (r:Vals xs us):us.length=xs.length:=by
 induction r with
 | nil=>rfl
 | cons r t ih=>simp only [List.length_cons,ih]
end
theorem aL {A B:Prop} (a:A) (f:A->B):B:=f a
section
variable {K:PySem.W.Frag} {mg:Str->Option Value} {h:Heap} {x f p qual:Str} {C D fi N:Addr}
theorem fb:kitOne K (.ref C) (.ref C)=some true:=by
 unfold kitOne
 rw [if_pos (by simp)]
theorem nk {b:Bool} (ne:(Value.ref C==Value.ref D)=false) (d:aS K D) (sb:mroIn K C (.ref D)=some b):kitOne K (.ref C) (.ref D)=some b:=by
 obtain⟨cd,hc,_,_⟩:=d.cls
 obtain⟨od,cd',sl,hl⟩:=d.at_
 unfold kitOne
 rw [if_neg (by rw [ne];decide)]
 show (if ((clsIn K D).isSome && typeIn K (.ref D)==some (.type "type"))=true then mroIn K C (.ref D) else none)=some b
 have ht:typeIn K (.ref D)=some (.type "type"):=by
  show (K.lookup D).map (λo=>o.cls)=_
  rw [hl]
  rfl
 rw [hc,ht,sb]
 rfl
theorem lJ {T:String} {b:Bool} (m:kitMeta T=true) (sb:mroIn K C (.type T)=some b):kitOne K (.ref C) (.type T)=some b:=by
 unfold kitOne
 rw [if_neg (by intro z;cases (beq_iff_eq.mp z))]
 show (if kitMeta T=true then mroIn K C (.type T) else none)=some b
 rw [if_pos m,sb]
section
variable {nm q:Str} {bs bm:List Value} {hdct ab:Bool} {sn:Option Str} {od:Option Addr} {cd:ClassData} {sl:Array (Option Value)}
theorem qx {o:Obj} (l:K.lookup C=some o) (ob:∃ nm q N bs bm hdct sn sub ab col dd k0 k1 k2 k3 k5,o=excClassObj nm q C N bs bm hdct sn sub ab col dd k0 k1 k2 k3 k5 fO/\bm.contains (.type "ValueError")=true/\bm.contains (.type "AttributeError")=false/\bm.contains (.type "NameError")=false) (kp:keepIn K (.ref C)=true):kg K C:=by
 obtain⟨nm,q,N,bs,bm,hdct,sn,sub,ab,col,dd,k0,k1,k2,k3,k5,e,r⟩:=ob
 subst e
 exact⟨⟨nm,q,N,bs,bm,hdct,sn,sub,ab,col,dd,k0,k1,k2,k3,k5,l,r⟩,kp⟩
theorem oi (l:K.lookup C=some ⟨.type "type",od,.cls cd,sl⟩) (h2:aU cd.mro=true) (h3:cd.hasDict=true)
  (sa:findIn K (.ref C) "__setattr__"=some (some (.builtin "object.__setattr__"))) (ga:findIn K (.ref C) "__getattribute__"=some (some (.builtin "BaseException.__getattribute__"))) (gx:findIn K (.ref C) "__getattr__"=some none)
  (ca:findIn K (.ref C) "__class__"=some (some (.builtin "object.__class__"))) (gs:specialIn K (.builtin "object.__class__") "__get__"=some (some (.builtin "getset_descriptor.__get__"))) (tk:takesIn K (.builtin "object.__class__")=some true):L2.aS K C :=
 ⟨⟨cd,by unfold clsIn;rw [l],h2,h3⟩,⟨_,_,_,l⟩,sa,ga,gx,ca,gs,tk⟩
theorem eV (a:mg x=some (.ref C)) (M:kg K C) (c:aS K C) (ini:findIn K (.ref C) "__init__"=some (some (.builtin "ValueError.__init__"))):iq K mg x C:=⟨M,c,a,ini⟩
structure eY (qual f p:Str) (st:Stmt):Prop where
 S:ay ["self",p] ["self",p] (ah st)
 hb:∃ p1 p2 p3 p4,aG st=[.Assign [.Attribute (.Name "self" p1) f p2] (.Name p p3) p4]/\(∀ env:Env,attributeBase (.Name "self" p1) f env (eval (.Name "self" p1) env)=eval (.Name "self" p1) env)/\(∀ env:Env,swapsWith (.Name p p3) (some (.Attribute (.Name "self" p1) f p2)) p4.line env=pure false)
 h1:(ah st).names.lookup ("self":Str)=some .local
 h2:(ah st).names.lookup p=some .local
 hd:(p==("__debug__":Str))=false
 hcd:(p==("__classdict__":Str))=false
 bd:∀(kV doc pm:Value) (an:Option Addr) (cdv ct:Value) (us:List Value),us.length=2->bindArgs (PySem.W.fnOf "__init__" qual (ba st) (aG st) (ah st) .none kV doc pm an cdv ct) ⟨us,[]⟩=pure ((["self",p]:List Str).zip us)
theorem eW {st:Stmt} {oc:Value} {od an:Option Addr} {osl:Array (Option Value)} {kV doc pm cdv ct:Value} (I:eY qual f p st) (a:mg x=some (.ref C)) (M:kg K C) (c:aS K C) (nof:findIn K (.ref C) f=some none)
  (ini:findIn K (.ref C) "__init__"=some (some (.ref fi))) (fn:isFn K (.ref fi)=true) (l:K.lookup fi=some ⟨oc,od,.func (PySem.W.fnOf "__init__" qual (ba st) (aG st) (ah st) .none kV doc pm an cdv ct),osl⟩) (cc:codeIn K cdv qual=true) (kk:keepIn K (.ref fi)=true) :
  ∀(P:Program) (w:World) (base:Heap),dE P w K mg base x C f:=λP w base=>by
 obtain⟨p1,p2,p3,p4,hb,ab,sw⟩:=I.hb
 have F:=ly l cc kk
 exact⟨M,c,a,nof,fi,_,p,ini,fn,m8 F I.S hb I.h1 I.h2 I.hd I.hcd ab sw,F.binds I.bd⟩
end
theorem b9 {od:Option Addr} {cd:ClassData} {sl:Array (Option Value)} (_:K.In h) (_:mg x=some (.ref C)) (l:K.lookup C=some ⟨.type "type",od,.cls cd,sl⟩) (h2:aU cd.mro=true) (h3:cd.hasDict=true)
  (sa:findIn K (.ref C) "__setattr__"=some (some (.builtin "object.__setattr__"))) (ga:findIn K (.ref C) "__getattribute__"=some (some (.builtin "BaseException.__getattribute__"))) (gx:findIn K (.ref C) "__getattr__"=some none)
  (ca:findIn K (.ref C) "__class__"=some (some (.builtin "object.__class__"))) (gs:specialIn K (.builtin "object.__class__") "__get__"=some (some (.builtin "getset_descriptor.__get__"))) (tk:takesIn K (.builtin "object.__class__")=some true)
  (ob:∃ nm q N bs bm hdct sn sub ab col dd k0 k1 k2 k3 k5,(⟨.type "type",od,.cls cd,sl⟩:Obj)=excClassObj nm q C N bs bm hdct sn sub ab col dd k0 k1 k2 k3 k5 fO/\bm.contains (.type "ValueError")=true/\bm.contains (.type "AttributeError")=false/\bm.contains (.type "NameError")=false) (kp:keepIn K (.ref C)=true):aS K C/\kg K C :=
 ⟨oi l h2 h3 sa ga gx ca gs tk,qx l ob kp⟩
theorem ff {b:Bool} (_:aS K C/\kg K C) (_:aS K D/\kg K D) (m:mroIn K C (.ref D)=some b):mroIn K C (.ref D)=some b:=m
theorem aX {b:Bool} (_:aS K C/\kg K C) (d:aS K D/\kg K D) (ne:(Value.ref C==Value.ref D)=false) (m:mroIn K C (.ref D)=some b):kitOne K (.ref C) (.ref D)=some b:=nk ne d.1 m
theorem gP {b:Bool} (_:aS K C/\kg K C) (m:mroIn K C (.type "ValueError")=some b):kitOne K (.ref C) (.type "ValueError")=some b:=lJ (by decide +kernel) m
end
end L2
namespace Pw
theorem fq (x n:Int):∀ k:Nat,(x%n)^k%n=x^k%n
 | 0=>by rw [Int.pow_zero,Int.pow_zero]
 | k+1=>by rw [Int.pow_succ,Int.pow_succ,Int.mul_emod,fq x n k,Int.emod_emod,<- Int.mul_emod]
theorem mz (b:Int):∀ k:Nat,(b*b)^k=b^(2*k)
 | 0=>by rw [Nat.mul_zero,Int.pow_zero,Int.pow_zero]
 | k+1=>by
  rw [Int.pow_succ,mz b k,Nat.mul_add,Nat.mul_one,Int.pow_succ,Int.pow_succ,Int.mul_assoc]
theorem oO (x y n:Int):x%n*y%n=x*y%n:=by rw [Int.mul_emod,Int.emod_emod,<- Int.mul_emod]
theorem oN {x x' y y' n:Int} (h:x%n=x'%n) (h':y%n=y'%n):x*y%n=x'*y'%n:=by rw [Int.mul_emod,h,h',<- Int.mul_emod]
theorem step (r b n:Int) (l:Nat):(if l%2=1 then r*b%n else r)*(b*b%n)^(l/2)%n=r*b^l%n:=by
 have e:(b*b%n)^(l/2)%n=b^(2*(l/2))%n:=by rw [fq,mz]
 by_cases c:l%2=1
 ·rw [if_pos c]
  have h:l=2*(l/2)+1:=by omega
  have e2:b^l=b^(2*(l/2))*b:=by rw [<- Int.pow_succ];exact congrArg _ h
  rw [oN (Int.emod_emod_of_dvd (r*b) (Int.dvd_refl n)) e,e2]
  congr 1
  rw [Int.mul_assoc,Int.mul_comm b]
 ·rw [if_neg c]
  have h:l=2*(l/2):=by omega
  rw [oN (rfl:r%n=r%n) e,<- h]
theorem pow_add (a:Int) (m:Nat):∀ k:Nat,a^(m+k)=a^m*a^k
 | 0=>by rw [Nat.add_zero,Int.pow_zero,Int.mul_one]
 | k+1=>by rw [<- Nat.add_assoc,Int.pow_succ,pow_add a m k,Int.pow_succ,Int.mul_assoc]
theorem mul_pow (a b:Int):∀ k:Nat,(a*b)^k=a^k*b^k
 | 0=>by rw [Int.pow_zero,Int.pow_zero,Int.pow_zero,Int.mul_one]
 | k+1=>by
  rw [Int.pow_succ,Int.pow_succ,Int.pow_succ,mul_pow a b k]
  grind
theorem pow_mul (a:Int) (m:Nat):∀ k:Nat,a^(m*k)=(a^m)^k
 | 0=>by rw [Nat.mul_zero,Int.pow_zero,Int.pow_zero]
 | k+1=>by rw [Nat.mul_add,Nat.mul_one,pow_add,pow_mul a m k,Int.pow_succ]
theorem one_pow:∀ k:Nat,(1:Int)^k=1
 | 0=>Int.pow_zero 1
 | k+1=>by rw [Int.pow_succ,one_pow k,Int.mul_one]
theorem pA {n x y:Int}:x%n=y%n↔n∣x-y:=by
 rw [Int.emod_eq_emod_iff_emod_sub_eq_zero,Int.dvd_iff_emod_eq_zero]
end Pw
namespace L2
open PySem PySem.Spec PyProof.Rows
end L2
namespace L2
open PySem PySem.Spec PyProof.Rows PySem.W
def sP (K:PySem.W.Frag) (te:TE) (tk:TO):TE:=λσ H Q=>te σ H λx H1=>tk σ H1 λo H2=>o=some (-1)/\∃ a xs,x=.ref a/\bh K H2 a xs/\∀ p,H2 p=none->Q (.ref p) (upd H2 p (.lst xs.reverse))
section
variable {X:Cx} {e k:Expr} {te:TE} {tk:TO} {p2 pos:Pos}
end
mutual
def dv (K:PySem.W.Frag) (H:Hp):PyData->V->Prop
 | .none,v=>v=.non
 | .bool b,v=>v=.bl b
 | .int i,v=>v=.int i
 | .str x,v=>v=.str x
 | .list ds,v=>∃ p xs,v=.ref p/\bh K H p xs/\bH K H ds xs
 | .tuple ds,v=>∃ p xs,v=.ref p/\cn K H p xs/\bH K H ds xs
 | .dict _,_=>False
def bH (K:PySem.W.Frag) (H:Hp):List PyData->List V->Prop
 | [],xs=>xs=[]
 | d::ds,xs=>∃ x r,xs=x::r/\dv K H d x/\bH K H ds r
end
section
variable {K:PySem.W.Frag} {H H':Hp}
theorem Rd.same {a:Addr} {o:HO} (h:Rd H a o) (s:au H H'):Rd H' a o:=by
 rcases h with h | ⟨b,h⟩
 ·exact .inl (s _ _ h)
 ·exact .inr ⟨b,s _ _ h⟩
theorem bh.same {a:Addr} {xs:List V} (h:bh K H a xs) (s:au H H'):bh K H' a xs:=h.imp (λz=>z.same s) id
theorem cn.same {a:Addr} {xs:List V} (h:cn K H a xs) (s:au H H'):cn K H' a xs:=h.imp (λz=>z.same s) id
mutual
theorem dv.same (s:au H H'):∀(d:PyData) {v:V},dv K H d v->dv K H' d v
 | .none,_,h=>h
 | .bool _,_,h=>h
 | .int _,_,h=>h
 | .str _,_,h=>h
 | .list ds,_,⟨p,xs,e,h,t⟩=>⟨p,xs,e,h.same s,bH.same s ds t⟩
 | .tuple ds,_,⟨p,xs,e,h,t⟩=>⟨p,xs,e,h.same s,bH.same s ds t⟩
 | .dict _,_,h=>h.elim
theorem bH.same (s:au H H'):∀(ds:List PyData) {xs:List V},bH K H ds xs->bH K H' ds xs
 | [],_,h=>h
 | d::ds,_,⟨x,r,e,h,t⟩=>⟨x,r,e,dv.same s d h,bH.same s ds t⟩
end
theorem bH.length:∀{ds:List PyData} {xs:List V},bH K H ds xs->xs.length=ds.length
 | [],_,h=>by cases h;rfl
 | d::ds,_,⟨x,r,e,h,t⟩=>by subst e;rw [List.length_cons,List.length_cons,bH.length t]
theorem bH.get:∀{ds:List PyData} {xs:List V},bH K H ds xs->∀{i:Nat} {x:V},xs[i]?=some x->∃ d,ds[i]?=some d/\dv K H d x
 | [],_,h,i,x,e=>by cases h;simp at e
 | d::ds,_,⟨y,r,ey,h,t⟩,0,x,e=>by subst ey;simp at e;subst e;exact⟨d,rfl,h⟩
 | d::ds,_,⟨y,r,ey,h,t⟩,i+1,x,e=>by subst ey;simp at e;simpa using bH.get t e
theorem bH.append:∀{ds es:List PyData} {xs ys:List V},bH K H ds xs->bH K H es ys->bH K H (ds++es) (xs++ys)
 | [],_,_,_,h,h'=>by cases h;exact h'
 | d::ds,_,_,_,⟨x,r,e,h,t⟩,h'=>by subst e;exact⟨x,_,rfl,h,t.append h'⟩
theorem bH.one {d:PyData} {x:V} (h:dv K H d x):bH K H [d] [x]:=⟨x,[],rfl,h,rfl⟩
theorem dv.lst {p:Addr} {xs:List V} {ds:List PyData} (h:H p=some (.lst xs)) (t:bH K H ds xs):dv K H (.list ds) (.ref p):=⟨p,xs,rfl,bh.of h,t⟩
theorem dv.tup {p:Addr} {xs:List V} {ds:List PyData} (h:H p=some (.tup xs)) (t:bH K H ds xs):dv K H (.tuple ds) (.ref p):=⟨p,xs,rfl,cn.of h,t⟩
mutual
def qy:PyData->Bool
 | .list _=>false
 | .tuple ds=>fK ds
 | _=>true
def fK:List PyData->Bool
 | []=>true
 | d::ds=>qy d && fK ds
end
def SameBut (p:Addr) (H H':Hp):Prop:=∀ b o,b≠p->H b=some o->H' b=some o
theorem cn.but {p a:Addr} {us xs:List V} (hp:H p=some (.lst us)) (s:SameBut p H H') (h:cn K H a xs):cn K H' a xs:=by
 rcases h with (h | ⟨o,h⟩) | h
 ·exact .inl (.inl (s _ _ (λe=>by rw [e,hp] at h;cases h) h))
 ·exact .inl (.inr ⟨o,s _ _ (λe=>by rw [e,hp] at h;cases h) h⟩)
 ·exact .inr h
mutual
theorem dv.but {p:Addr} {us:List V} (hp:H p=some (.lst us)) (s:SameBut p H H'):∀(d:PyData) {v:V},qy d=true->dv K H d v->dv K H' d v
 | .none,_,_,h=>h
 | .bool _,_,_,h=>h
 | .int _,_,_,h=>h
 | .str _,_,_,h=>h
 | .list ds,_,z,_=>by cases z
 | .tuple ds,_,z,⟨q,xs,e,h,t⟩=>⟨q,xs,e,h.but hp s,bH.but hp s ds z t⟩
 | .dict _,_,_,h=>h.elim
theorem bH.but {p:Addr} {us:List V} (hp:H p=some (.lst us)) (s:SameBut p H H'):∀(ds:List PyData) {xs:List V},fK ds=true->bH K H ds xs->bH K H' ds xs
 | [],_,_,h=>h
 | d::ds,_,z,⟨x,r,e,h,t⟩=>by
  have z':qy d=true/\fK ds=true:=by simpa [fK] using z
  exact⟨x,r,e,dv.but hp s d z'.1 h,bH.but hp s ds z'.2 t⟩
end
theorem iN {α:Type} {f:α->PyData} (h:∀ x,qy (f x)=true):∀ xs:List α,fK (xs.map f)=true
 | []=>rfl
 | x::xs=>by rw [List.map_cons,fK,h,iN h xs];rfl
end
section
variable {X:Cx} {pins:List (Addr × Obj)} {σ:St} {H:Hp} {s:Shared}
mutual
theorem c6 (I:Inv X pins σ H s):∀(d:PyData) {v:V} {u:Value},dv X.K H d v->RelV v u->∃ as,Reads s.heap u d as
 | .none,_,u,h,r=>by cases h;cases r;exact⟨_,.none⟩
 | .bool _,_,u,h,r=>by cases h;cases r;exact⟨_,.bool _⟩
 | .int _,_,u,h,r=>by cases h;obtain⟨t,rfl⟩:=r;exact⟨_,.int _ _⟩
 | .str _,_,u,h,r=>by cases h;obtain⟨t,rfl⟩:=r;exact⟨_,.str _ _⟩
 | .list ds,_,u,⟨p,xs,e,h,t⟩,r=>by
  subst e
  cases r
  obtain⟨its,rr,pl,_⟩:=I.list h
  obtain⟨o,h1,h2,n,h3⟩:=pl.isList
  obtain⟨as,ra⟩:=c5 I ds t rr
  exact⟨_,.list h1 h2 h3 (by simpa using ra)⟩
 | .tuple ds,_,u,⟨p,xs,e,h,t⟩,r=>by
  subst e
  cases r
  obtain⟨its,rr,pl,_⟩:=I.tuple h
  obtain⟨o,h1,h2,n,h3⟩:=pl
  obtain⟨as,ra⟩:=c5 I ds t rr
  exact⟨_,.tuple h1 h2 h3 (by simpa using ra)⟩
 | .dict _,_,_,h,_=>h.elim
theorem c5 (I:Inv X pins σ H s):∀(ds:List PyData) {xs:List V} {us:List Value},bH X.K H ds xs->Vals xs us->∃ as,ReadsAll s.heap us ds as
 | [],_,us,h,r=>by cases h;cases r;exact⟨_,.nil⟩
 | d::ds,_,us,⟨x,r,e,h,t⟩,rr=>by
  subst e
  cases rr with
  | cons r1 r2 =>
   obtain⟨a1,q1⟩:=c6 I d h r1
   obtain⟨a2,q2⟩:=c5 I ds t r2
   exact⟨_,.cons q1 q2⟩
end
def qf (K:PySem.W.Frag) (neg:Bool):R2:=λy x H Q=>∃ d e,dv K H d y/\dv K H e x/\d.canLay0=true/\e.canLay0=true/\min d.depth e.depth<=60/\Q (.bl (if neg then !PyData.eqv d e else PyData.eqv d e)) H
theorem qa (hu:X.A.units+64<cLine):ez X (compareOp .Eq) (qf X.K false):=by
 intro pins s σ H y x u v Q I ry rx h
 obtain⟨d,e,hd,he,c1,c2,c3,q⟩:=h
 obtain⟨as,ra⟩:=c6 I d hd ry
 obtain⟨bs,rb⟩:=c6 I e he rx
 exact SeqAt.compareEq_reads ra rb c1 c2 (by omega) ⟨.bl _,H,I,rfl,q⟩
theorem l5 (hu:X.A.units+64<cLine):ez X (compareOp .NotEq) (qf X.K true):=by
 intro pins s σ H y x u v Q I ry rx h
 obtain⟨d,e,hd,he,c1,c2,c3,q⟩:=h
 obtain⟨as,ra⟩:=c6 I d hd ry
 obtain⟨bs,rb⟩:=c6 I e he rx
 exact SeqAt.compareNe_reads ra rb c1 c2 (by omega) ⟨.bl _,H,I,rfl,q⟩
end
end L2
namespace Pw
def lst (xs:List Nat):Nat:=xs.getLast?.getD 0
end Pw
namespace L2
open PySem PySem.Spec PyProof.Rows PySem.W
def rR (C:Addr) (H:Hp) (E:XK):Prop:=∀ x H',au H H'->H x=none->H' x=some (XO x C none)->E (.ref C) (some x) H'
def qB (C:Addr) (f:Str) (v:V) (H:Hp) (E:XK):Prop:=∀ x dx H',au H H'->H x=none->H' x=some (XO x C (some dx))->H' dx=some (.xd [(f,v)])->E (.ref C) (some x) H'
theorem fW {K:PySem.W.Frag} {C x:Addr} {H H1:Hp} {E:XK} (c:aS K C) (hs:au H H1) (hx:H1 x=none) (e:rR C H E) :
  ∃(C':Addr) (dd:Option Addr),upd H1 x (XN x C none) x=some (XN x C' dd)/\aS K C'/\H x=none/\E (.ref C') (some x) (upd (upd H1 x (XN x C none)) x (XO x C' dd)):=by
 refine⟨C,none,ai,c,hs.free hx,e x _ ?_ (hs.free hx) ai⟩
 intro b o q
 have q1:=hs _ _ q
 have bx:b≠x:=λy=>by rw [y,hx] at q1;cases q1
 rw [ak bx,ak bx]
 exact q1
theorem dZ {K:PySem.W.Frag} {C x dx:Addr} {f:Str} {v:V} {H H1:Hp} {E:XK} (c:aS K C) (hs:au H H1) (hx:H1 x=none) (hdx:H1 dx=none) (ne:dx≠x) (e:qB C f v H E) :
  ∃(C':Addr) (dd:Option Addr),upd (upd (upd H1 x (XN x C none)) dx (.xd [(f,v)])) x (XN x C (some dx)) x=some (XN x C' dd)/\aS K C'/\H x=none/\E (.ref C') (some x) (upd (upd (upd (upd H1 x (XN x C none)) dx (.xd [(f,v)])) x (XN x C (some dx))) x (XO x C' dd)):=by
 refine⟨C,some dx,ai,c,hs.free hx,e x dx _ ?_ (hs.free hx) ai ?_⟩
 ·intro b o q
  have q1:=hs _ _ q
  have bx:b≠x:=λy=>by rw [y,hx] at q1;cases q1
  have bd:b≠dx:=λy=>by rw [y,hdx] at q1;cases q1
  rw [ak bx,ak bx,ak bd,ak bx]
  exact q1
 ·rw [ak ne,ak ne,ai]
end L2
namespace Ld
structure bX (n r:Int):Prop where
 two:2<=r
 dv:r∣n
 no:∀ d:Int,2<=d->d<r->¬d∣n
theorem bX.one {n r r':Int} (h:bX n r) (h':bX n r'):r=r':=by
 rcases Int.lt_trichotomy r r' with c | c | c
 ·exact absurd h.dv (h'.no r h.two c)
 ·exact c
 ·exact absurd h'.dv (h.no r' h'.two c)
theorem bX.le {n r:Int} (h:bX n r) (hn:0<n):r<=n:=Int.le_of_dvd hn h.dv
structure Inv (n k:Int):Prop where
 two:2<=k
 odd:k=2∨k%2=1
 no:∀ d:Int,2<=d->d<k->¬d∣n
theorem Inv.step {n k:Int} (h:Inv n k) (hk:¬k∣n):Inv n (k+if k=2 then 1 else 2):=by
 have h2:=h.two
 by_cases c:k=2
 ·rw [if_pos c]
  refine⟨by omega,.inr (by omega),λd d0 d1=>?_⟩
  have:d=k:=by omega
  rw [this];exact hk
 ·rw [if_neg c]
  have ho:k%2=1:=by rcases h.odd with z | z;exact absurd z c;exact z
  refine⟨by omega,.inr (by omega),λd d0 d1 hd=>?_⟩
  rcases (by omega:d<k∨d=k∨d=k+1) with z | z | z
  ·exact h.no d d0 z hd
  ·subst z;exact hk hd
  ·have e2:(2:Int)∣d:=Int.dvd_of_emod_eq_zero (by omega)
   exact h.no 2 (by omega) (by omega) (Int.dvd_trans e2 hd)
theorem Inv.found {n k:Int} (h:Inv n k) (hk:k∣n):bX n k:=⟨h.two,hk,h.no⟩
theorem Inv.done {n k:Int} (h:Inv n k) (hn:2<=n) (hk:n<k*k):bX n n:=by
 refine⟨hn,Int.dvd_refl n,λd d0 d1 hd=>?_⟩
 obtain⟨c,hc⟩:=hd
 have h2:=h.two
 by_cases z:d<k
 ·exact h.no d d0 z ⟨c,hc⟩
 ·have c0:0<c:=by
   rcases (by omega:c<=0∨0<c) with y | y
   ·have:=Int.mul_nonpos_of_nonneg_of_nonpos (show 0<=d by omega) y
    omega
   ·exact y
  have c2:2<=c:=by
   rcases (by omega:c=1∨2<=c) with y | y
   ·subst y;omega
   ·exact y
  have ck:c<k:=by
   rcases (by omega:c<k∨k<=c) with y | y
   ·exact y
   ·have:=Int.mul_le_mul (show k<=d by omega) y (by omega) (by omega)
    omega
  exact h.no c c2 ck ⟨d,by rw [Int.mul_comm];exact hc⟩
end Ld
namespace L2
open PySem PySem.Spec PyProof.Rows PySem.W
section
variable {K:PySem.W.Frag} {H:Hp}
theorem bH.sq:∀ bs:List Bool,bH K H (bs.map PyData.bool) (bs.map V.bl)
 | []=>rfl
 | b::bs=>⟨_,_,rfl,rfl,bH.sq bs⟩
theorem gQ:∀ bs:List Bool,PyData.canLayAll0 (bs.map PyData.bool)=true
 | []=>rfl
 | _::r=>by simp [PyData.canLayAll0,PyData.canLay0,gQ r]
theorem jV:∀ bs:List Bool,PyData.depthAll (bs.map PyData.bool)=0
 | []=>rfl
 | _::r=>by simp [PyData.depthAll,PyData.depth,jV r]
theorem jX:∀ bs cs:List Bool,PyData.eqvAll (bs.map PyData.bool) (cs.map PyData.bool)=decide (bs=cs)
 | [],[]=>by simp [PyData.eqvAll]
 | [],_::_=>by simp [PyData.eqvAll]
 | _::_,[]=>by simp [PyData.eqvAll]
 | a::r,b::t=>by
  simp only [List.map_cons,PyData.eqvAll,PyData.eqv,jX r t]
  by_cases h:a=b<;>by_cases h':r=t<;>simp [h,h']
theorem gE {neg:Bool} {p q:Addr} {bs cs:List Bool} {Q:VK} (h1:H p=some (.lst (bs.map V.bl))) (h2:H q=some (.lst (cs.map V.bl))) (h:Q (.bl (if neg then !decide (bs=cs) else decide (bs=cs))) H):qf K neg (.ref p) (.ref q) H Q:=by
 refine⟨.list (bs.map PyData.bool),.list (cs.map PyData.bool),dv.lst h1 (bH.sq _),dv.lst h2 (bH.sq _),gQ _,gQ _,?_,?_⟩
 ·simp [PyData.depth,jV]
 ·show Q (.bl (if neg then !PyData.eqvAll _ _ else PyData.eqvAll _ _)) H
  rw [jX]
  exact h
mutual
theorem eqv_refl:∀ d:PyData,d.canLay0=true->PyData.eqv d d=true
 | .none,_=>by simp [PyData.eqv]
 | .bool _,_=>by simp [PyData.eqv]
 | .int _,_=>by simp [PyData.eqv]
 | .str _,_=>by simp [PyData.eqv]
 | .list ds,h=>by simpa [PyData.eqv] using dY ds h
 | .tuple ds,h=>by simpa [PyData.eqv] using dY ds h
 | .dict _,h=>by simp [PyData.canLay0] at h
theorem dY:∀ ds:List PyData,PyData.canLayAll0 ds=true->PyData.eqvAll ds ds=true
 | [],_=>by simp [PyData.eqvAll]
 | d::ds,h=>by
  have h':d.canLay0=true/\PyData.canLayAll0 ds=true:=by simpa [PyData.canLayAll0] using h
  simp [PyData.eqvAll,eqv_refl d h'.1,dY ds h'.2]
end
end
end L2
namespace L2
open PySem PySem.Spec PyProof.Rows
def se (lo k:Int) (n:Nat):It:=⟨λi _=>i<n,λi H x H'=>H'=H/\x=.int (lo+i*k),λi _=>n<=i⟩
def qU (lo hi k:Int):Nat:=if lo<hi then ((hi-lo-1)/k+1).toNat else 0
def qQ (ta:TA):TI:=λσ H R=>ta σ H λvs H1=>∃ i j k:Int,vs=[.int i,.int j,.int k]/\(-(2^60)<=i/\i<2^60 /\ -(2^60)<=j/\j<2^60/\0<k/\k<2^29)/\R (se i k (qU i j k)) H1
section
variable {X:Cx} {tg:Expr}
end
end L2
namespace Sv
def qi (d:Nat) (arr:Nat->Bool):Nat->Bool:=λj=>arr j || (decide (d*d<=j) && decide (j%d=0))
def sv:Nat->(Nat->Bool) × List Nat
 | 0=>(λ_=>false,[])
 | i+1=>if (sv i).1 (i+2) then sv i else (qi (i+2) (sv i).1,(sv i).2++[i+2])
theorem len:∀ i,(sv i).2.length<=i
 | 0=>Nat.le_refl _
 | i+1=>by
  have:=len i
  rw [sv]
  split
  ·omega
  ·rw [List.length_append,List.length_singleton];omega
end Sv
namespace L2
open PySem PySem.Spec PyProof.Rows
theorem ki {X:Cx}:cp X (.type "int") (λxs H Q=>∃ k,xs=[.bl k]/\Q (.int (if k=true then 1 else 0)) H):=λpins s σ H xs us Q I r h=>kh pins s σ H xs us Q I r (.inr h)
section
variable {X:Cx} {pins:List (Addr × Obj)} {σ:St} {H:Hp} {s:Shared} {h':Heap}
end
def tI (K:PySem.W.Frag) (a:Addr):It :=
 ⟨λi H=>∃ xs x,bh K H a xs/\xs[i]?=some x,λi H x H'=>∃ p v,H p=none/\x=.ref p/\(∀ xs,bh K H a xs->xs[i]?=some v)/\H'=upd H p (.tup [.int i,v]),λi H=>∃ xs,bh K H a xs/\xs.length<=i⟩
def qP (K:PySem.W.Frag) (ta:TA):TI:=λσ H R=>ta σ H λvs H1=>∃ a,vs=[.ref a]/\(∃ xs,bh K H1 a xs)/\R (tI K a) H1
end L2
namespace Crt
structure G (a b g:Int):Prop where
 pos:0<g
 da:g∣a
 db:g∣b
 lin:∃ u v:Int,u*a+v*b=g
theorem G.gr {a b g d:Int} (h:G a b g) (h1:d∣a) (h2:d∣b):d∣g:=by
 obtain⟨u,v,e⟩:=h.lin
 rw [<- e]
 exact Int.dvd_add (Int.dvd_mul_of_dvd_right h1) (Int.dvd_mul_of_dvd_right h2)
theorem G.one {a b g g':Int} (h:G a b g) (h':G a b g'):g=g':=Int.le_antisymm (Int.le_of_dvd h'.pos (h'.gr h.da h.db)) (Int.le_of_dvd h.pos (h.gr h'.da h'.db))
theorem a1 {g u A v L:Int} (e:u*(g*A)+v*(g*L)=g):g*(u*A+v*L)=g*1:=by grind
theorem a2 {g A k L l y:Int} (h1:y=g*A*k) (h2:y=g*L*l):g*(A*k)=g*(L*l):=by grind
theorem a3 {u A v L k l:Int} (e4:u*A+v*L=1) (e5:A*k=L*l):k=L*(u*l+v*k):=by
 have z:k*(u*A+v*L)=k:=by rw [e4,Int.mul_one]
 grind
theorem a4 {A D r L q1 t:Int} (et:L*q1+t=D*r):A*t=A*(D*r)-A*(L*q1):=by grind
theorem a5 {D r A L c:Int} (hc:r*A-1=L*c):D*(r*A)-D=D*(L*c):=by rw [<- hc];grind
structure tH (M N m n W x:Int):Prop where
 pos:0<W
 dM:M∣W
 dm:m∣W
 le:∀ y:Int,M∣y->m∣y->W∣y
 x0:0<=x
 x1:x<W
 eM:M∣x-N
 em:m∣x-n
theorem sd:∀(b a:Nat),0<a->∃ g,G (a:Int) (b:Int) g:=by
 intro b
 induction b using Nat.strongRecOn with
 | ind b ih =>
  intro a ha
  rcases Nat.eq_zero_or_pos b with z | z
  ·subst z
   exact⟨a,by omega,Int.dvd_refl _,Int.dvd_zero _,1,0,by simp⟩
  ·obtain⟨g,h⟩:=ih (a%b) (Nat.mod_lt a z) b z
   obtain⟨u,v,e⟩:=h.lin
   have ed:(a:Int)=(b:Int)*((a/b:Nat):Int)+((a%b:Nat):Int):=by
    have:=Nat.div_add_mod a b
    rw [<- Int.natCast_mul,<- Int.natCast_add,this]
   refine⟨g,h.pos,?_,h.da,v,u-v*((a/b:Nat):Int),?_⟩
   ·rw [ed]
    exact Int.dvd_add (Int.dvd_mul_of_dvd_left h.da) h.db
   ·rw [ed,<- e]
    generalize ((a/b:Nat):Int)=q
    generalize ((a%b:Nat):Int)=r
    generalize (b:Int)=b'
    grind
theorem qD {a b:Int} (ha:0<a) (hb:0<b):∃ g,G a b g:=by
 obtain⟨g,h⟩:=sd b.toNat a.toNat (by omega)
 rw [Int.toNat_of_nonneg (by omega),Int.toNat_of_nonneg (by omega)] at h
 exact⟨g,h⟩
structure Told (ps:List (Int × Int)) (M N:Int):Prop where
 pos:0<M
 x0:0<=N
 x1:N<M
 dv:∀ p∈ps,p.1∣M
 le:∀ y:Int,(∀ p∈ps,p.1∣y)->M∣y
 al:∀ p∈ps,p.1∣N-p.2
theorem Told.nil:Told [] 1 0:=⟨by decide,by decide,by decide,λ_ h=>by simp at h,λy _=>⟨y,by omega⟩,λ_ h=>by simp at h⟩
theorem Told.one {ps:List (Int × Int)} {M N M' N':Int} (h:Told ps M N) (h':Told ps M' N'):M=M'/\N=N':=by
 have e:M=M':=Int.le_antisymm (Int.le_of_dvd h'.pos (h.le _ h'.dv)) (Int.le_of_dvd h.pos (h'.le _ h.dv))
 subst e
 refine⟨rfl,?_⟩
 have z:M∣N-N':=h.le _ λp hp=>by
  have:=Int.dvd_sub (h.al p hp) (h'.al p hp)
  rwa [show N-p.2-(N' - p.2)=N-N' by omega] at this
 have w:=Int.emod_emod_of_dvd
 have:=(Int.emod_eq_emod_iff_emod_sub_eq_zero (m:=N) (n:=M) (k:=N')).mpr (Int.emod_eq_zero_of_dvd z)
 rwa [Int.emod_eq_of_lt h.x0 h.x1,Int.emod_eq_of_lt h'.x0 h'.x1] at this
end Crt
namespace Num
def Al (n x y:Int):Prop:=n∣x-y
theorem Al.refl (n x:Int):Al n x x:=⟨0,by omega⟩
theorem Al.symm {n x y:Int} (h:Al n x y):Al n y x:=by
 have:=(Int.dvd_neg).mpr h
 rwa [show -(x-y)=y-x by omega] at this
theorem Al.trans {n x y z:Int} (h:Al n x y) (h':Al n y z):Al n x z:=by
 have:=Int.dvd_add h h'
 rwa [show x-y+(y-z)=x-z by omega] at this
theorem Al.mul {n x y u v:Int} (h:Al n x y) (h':Al n u v):Al n (x*u) (y*v):=by
 have h1:n∣(x-y)*u:=Int.dvd_mul_of_dvd_left h
 have h2:n∣y*(u-v):=Int.dvd_mul_of_dvd_right h'
 have:=Int.dvd_add h1 h2
 rwa [show (x-y)*u+y*(u-v)=x*u-y*v by rw [Int.sub_mul,Int.mul_sub];omega] at this
theorem Al.pow {n x y:Int} (h:Al n x y):∀ k:Nat,Al n (x^k) (y^k)
 | 0=>by rw [Int.pow_zero,Int.pow_zero];exact Al.refl _ _
 | k+1=>by rw [Int.pow_succ,Int.pow_succ];exact (Al.pow h k).mul h
theorem Al.iff {n x y:Int}:Al n x y↔x%n=y%n:=Pw.pA.symm
theorem Al.rest (n x:Int):Al n (x%n) x:=Al.iff.mpr (Int.emod_emod_of_dvd x (Int.dvd_refl n))
def Co (a n:Int):Prop:=∃ u v:Int,u*a+v*n=1
theorem Co.dvd {a n b:Int} (h:Co a n) (hd:n∣a*b):n∣b:=by
 obtain⟨u,v,e⟩:=h
 have h1:n∣u*(a*b):=Int.dvd_mul_of_dvd_right hd
 have h2:n∣(v*b)*n:=⟨v*b,Int.mul_comm _ _⟩
 have:=Int.dvd_add h1 h2
 have e2:u*(a*b)+v*b*n=(u*a+v*n)*b:=by
  rw [Int.add_mul,Int.mul_assoc u a b,Int.mul_assoc v n b,Int.mul_comm n b,Int.mul_assoc v b n]
 rw [e2,e,Int.one_mul] at this
 exact this
theorem Co.cancel {a n x y:Int} (h:Co a n) (e:Al n (a*x) (a*y)):Al n x y:=by
 refine h.dvd ?_
 rw [Int.mul_sub]
 exact e
theorem Co.mul {a b n:Int} (h:Co a n) (h':Co b n):Co (a*b) n:=by
 obtain⟨u,v,e⟩:=h
 obtain⟨u',v',e'⟩:=h'
 refine⟨u*u',u*a*v'+v*(u'*b+v'*n),?_⟩
 have:(u*a+v*n)*(u'*b+v'*n)=1:=by rw [e,e'];rfl
 grind
theorem Co.pow {a n:Int} (h:Co a n):∀ k:Nat,Co (a^k) n
 | 0=>⟨1,0,by rw [Int.pow_zero];simp⟩
 | k+1=>by rw [Int.pow_succ];exact (Co.pow h k).mul h
theorem Co.qW {a b n:Int} (h:Co a n) (e:Al n a b):Co b n:=by
 obtain⟨u,v,e1⟩:=h
 obtain⟨c,hc⟩:=e
 refine⟨u,v+u*c,?_⟩
 have:b=a-n*c:=by omega
 rw [this]
 grind
theorem aJ {n a:Int} {d k:Nat} (h:Al n (a^d) 1):Al n (a^(d*k)) 1:=by
 rw [Pw.pow_mul]
 have:=h.pow k
 rwa [Pw.one_pow] at this
structure Ord (n a:Int) (m:Nat):Prop where
 pos:0<m
 one:Al n (a^m) 1
 dv:∀ j:Nat,Al n (a^j) 1->m∣j
theorem pow_mod {n a:Int} {m j:Nat} (h:Al n (a^m) 1) (hj:Al n (a^j) 1):Al n (a^(j%m)) 1:=by
 have e:a^j=a^(m*(j/m))*a^(j%m):=by rw [<- Pw.pow_add,Nat.div_add_mod]
 rw [e] at hj
 have h1:=(aJ (k:=j/m) h).mul (Al.refl n (a^(j%m)))
 rw [Int.one_mul] at h1
 exact h1.symm.trans hj
theorem gZ {n a:Int} {m:Nat} (pos:0<m) (one:Al n (a^m) 1) (no:∀ j,0<j->j<m->¬Al n (a^j) 1):Ord n a m:=by
 refine⟨pos,one,λj hj=>?_⟩
 have h:=pow_mod one hj
 rcases Nat.eq_zero_or_pos (j%m) with z | z
 ·exact Nat.dvd_of_mod_eq_zero z
 ·exact absurd h (no _ z (Nat.mod_lt _ pos))
theorem cV {P:Nat->Prop}:∀ N:Nat,P N->∃ m,P m/\∀ j,j<m->¬P j:=by
 intro N
 induction N using Nat.strongRecOn with
 | ind N ih =>
  intro h
  by_cases z:∃ j,j<N/\P j
  ·obtain⟨j,hj,pj⟩:=z
   exact ih j hj pj
  ·exact⟨N,h,λj hj pj=>z ⟨j,hj,pj⟩⟩
theorem gY {n a:Int} {N:Nat} (pos:0<N) (h:Al n (a^N) 1):∃ m,Ord n a m/\m<=N:=by
 obtain⟨m,⟨m0,m1⟩,no⟩:=cV (P:=λj=>0<j/\Al n (a^j) 1) N ⟨pos,h⟩
 refine⟨m,gZ m0 m1 λj j0 jm z=>no j jm ⟨j0,z⟩,?_⟩
 by_cases z:m<=N
 ·exact z
 ·exact absurd ⟨pos,h⟩ (no N (by omega))
theorem Ord.inj {n a:Int} {m i j:Nat} (h:Ord n a m) (c:Co a n) (hi:i<m) (hj:j<m) (e:Al n (a^i) (a^j)):i=j:=by
 have aux:∀ i j:Nat,i<m->j<m->i<=j->Al n (a^i) (a^j)->i=j:=by
  intro i j hi hj hij e
  have e1:a^j=a^i*a^(j-i):=by rw [<- Pw.pow_add];congr 1;omega
  rw [e1] at e
  have e2:Al n (a^i*1) (a^i*a^(j-i)):=by rw [Int.mul_one];exact e
  have e3:=(c.pow i).cancel e2
  have:=h.dv _ e3.symm
  rcases Nat.eq_zero_or_pos (j-i) with z | z
  ·omega
  ·have:=Nat.le_of_dvd z this
   omega
 rcases Nat.le_total i j with z | z
 ·exact aux i j hi hj z e
 ·exact (aux j i hj hi z e.symm).symm
theorem ia:∀(n:Nat) (l:List Nat),l.Nodup->(∀ x∈l,x<n)->l.length<=n:=by
 intro n
 induction n with
 | zero =>
  intro l _ h
  cases l with
  | nil=>exact Nat.le_refl _
  | cons x r=>exact absurd (h x (by simp)) (by omega)
 | succ n ih =>
  intro l nd h
  by_cases c:n∈l
  ·have h1:=ih (l.erase n) (nd.erase n) λx hx=>by
    have hx':=List.mem_of_mem_erase hx
    have ne:x≠n:=λz=>by
     subst z
     exact absurd hx (List.Nodup.not_mem_erase nd)
    have:=h x hx'
    omega
   rw [List.length_erase_of_mem c] at h1
   omega
  ·have h1:=ih l nd λx hx=>by
    have:=h x hx
    have ne:x≠n:=λz=>c (z▸hx)
    omega
   omega
end Num
namespace Num
structure Pm (p:Int):Prop where
 two:2<=p
 no:∀ d:Int,2<=d->d<p->¬d∣p
theorem Pm.co {p a:Int} (h:Pm p) (ha:¬p∣a):Co a p:=by
 have h2:=h.two
 have r0:=Int.emod_nonneg a (show p≠0 by omega)
 have r1:=Int.emod_lt_of_pos a (show 0<p by omega)
 have rn:a%p≠0:=λz=>ha (Int.dvd_of_emod_eq_zero z)
 obtain⟨g,G⟩:=Crt.qD (a:=a%p) (b:=p) (by omega) (by omega)
 have gl:=Int.le_of_dvd (show 0<a%p by omega) G.da
 have g1:g=1:=by
  have g0:=G.pos
  rcases (by omega:g=1∨2<=g) with z | z
  ·exact z
  ·exact absurd G.db (h.no g z (by omega))
 obtain⟨u,v,e⟩:=G.lin
 rw [g1] at e
 exact Co.qW ⟨u,v,e⟩ (Al.rest p a)
theorem Pm.or {p a b:Int} (h:Pm p) (hd:p∣a*b) (ha:¬p∣a):p∣b:=(h.co ha).dvd hd
def H:Int->List Int->Int->Int
 | acc,[],_=>acc
 | acc,c::cs,x=>H (acc*x+c) cs x
theorem kX (x:Int):∀(cs:List Int) (a b:Int),H (a+b) cs x=H a cs x+b*x^cs.length
 | [],a,b=>by rw [List.length_nil,Int.pow_zero,Int.mul_one];rfl
 | c::cs,a,b=>by
  show H ((a+b)*x+c) cs x=H (a*x+c) cs x+b*x^(cs.length+1)
  rw [show (a+b)*x+c=(a*x+c)+b*x by rw [Int.add_mul];omega,kX x cs,Int.pow_succ,Int.mul_assoc,Int.mul_comm x]
def nS (r:Int):Int->List Int->List Int
 | _,[]=>[]
 | _,[_]=>[]
 | c0,c::c'::cs=>(c0*r+c)::nS r (c0*r+c) (c'::cs)
theorem ie (r:Int):∀(cs:List Int) (c0:Int),(nS r c0 cs).length=cs.length-1
 | [],_=>rfl
 | [_],_=>rfl
 | c::c'::cs,c0=>by
  show (nS r (c0*r+c) (c'::cs)).length+1=_
  rw [ie r (c'::cs)]
  simp
theorem factor (x r:Int):∀(cs:List Int) (c0:Int),cs≠[]->H c0 cs x-H c0 cs r=(x-r)*H c0 (nS r c0 cs) x
 | [],_,h=>absurd rfl h
 | [c],c0,_=>by
  show c0*x+c-(c0*r+c)=(x-r)*c0
  rw [Int.sub_mul,Int.mul_comm c0 x,Int.mul_comm c0 r]
  omega
 | c::c'::cs,c0,_=>by
  have ih:=factor x r (c'::cs) (c0*r+c) (by simp)
  show H (c0*x+c) (c'::cs) x-H (c0*r+c) (c'::cs) r=(x-r)*H (c0*x+(c0*r+c)) (nS r (c0*r+c) (c'::cs)) x
  have e1:c0*x+c=(c0*r+c)+c0*(x-r):=by rw [Int.mul_sub];omega
  have e2:H (c0*x+(c0*r+c)) (nS r (c0*r+c) (c'::cs)) x=H (c0*r+c) (nS r (c0*r+c) (c'::cs)) x+c0*x*x^cs.length:=by
   rw [Int.add_comm (c0*x),kX,ie]
   simp
  rw [e1,kX,e2,List.length_cons,Int.pow_succ,Int.mul_add,<- ih]
  generalize H (c0*r+c) (c'::cs) x=A
  generalize H (c0*r+c) (c'::cs) r=B
  generalize x^cs.length=Y
  grind
theorem roots {p:Int} (hp:Pm p):∀(n:Nat) (cs:List Int) (c0:Int),cs.length=n->¬p∣c0->∀ rs:List Int,rs.Pairwise (λa b=>¬Al p a b)->(∀ r∈rs,p∣H c0 cs r)->rs.length<=n:=by
 intro n
 induction n with
 | zero =>
  intro cs c0 hl h0 rs hr hz
  have:cs=[]:=List.eq_nil_of_length_eq_zero hl
  subst this
  cases rs with
  | nil=>exact Nat.le_refl _
  | cons r rs=>exact absurd (hz r (by simp)) h0
 | succ n ih =>
  intro cs c0 hl h0 rs hr hz
  cases rs with
  | nil=>exact Nat.zero_le _
  | cons r rs =>
   have hne:cs≠[]:=λz=>by rw [z] at hl;simp at hl
   obtain⟨h1,h2⟩:=List.pairwise_cons.mp hr
   have:=ih (nS r c0 cs) c0 (by rw [ie,hl];rfl) h0 rs h2 λs hs=>by
    have e:=factor s r cs c0 hne
    have d1:=hz s (List.mem_cons_of_mem _ hs)
    have d2:=hz r (by simp)
    have d3:=Int.dvd_sub d1 d2
    rw [e] at d3
    exact hp.or d3 λz=>h1 s hs (Al.symm z)
   simpa using this
theorem oj (x:Int):∀(n:Nat) (a:Int),H a (List.replicate n 0++[-1]) x=a*x^(n+1)-1
 | 0,a=>by
  show a*x + -1=_
  rw [Int.pow_succ,Int.pow_zero,Int.one_mul];omega
 | n+1,a=>by
  show H (a*x+0) (List.replicate n 0++[-1]) x=_
  rw [oj x n,Int.add_zero,Int.pow_succ x (n+1),Int.mul_comm (x^(n+1)) x,Int.mul_assoc]
theorem mT {p:Int} (hp:Pm p) {n:Nat} (hn:0<n) (h:∀ a:Int,¬p∣a->Al p (a^n) 1):p-1<=n:=by
 have h2:=hp.two
 obtain⟨m,rfl⟩:∃ m,n=m+1:=⟨n-1,by omega⟩
 have key:=roots hp (m+1) (List.replicate m 0++[-1]) 1 (by simp) (λz=>by have:=Int.le_of_dvd (by decide) z;omega) ((List.range (p-1).toNat).map λi:Nat=>(i:Int)+1) ?_ ?_
 ·rw [List.length_map,List.length_range] at key
  omega
 ·rw [List.pairwise_map]
  refine List.Pairwise.imp_of_mem (R:=(·<·)) (λ{a b} ha hb hab z=>?_) List.pairwise_lt_range
  have hb':=List.mem_range.mp hb
  have:=Int.le_of_dvd (by omega) (Al.symm z)
  omega
 ·intro r hr
  obtain⟨i,hi,rfl⟩:=List.mem_map.mp hr
  have hi':=List.mem_range.mp hi
  rw [oj,Int.one_mul]
  exact h _ λz=>by have:=Int.le_of_dvd (by omega) z;omega
theorem f7 {f:Nat->Nat} {n:Nat} (h:∀ i j,i<j->j<n->f i≠f j):((List.range n).map f).Nodup:=by
 show List.Pairwise _ _
 rw [List.pairwise_map]
 exact List.Pairwise.imp_of_mem (R:=(·<·)) (λ{a b} ha hb hab=>h a b hab (List.mem_range.mp hb)) List.pairwise_lt_range
theorem rest_eq {p x y:Int} (hp:0<p) (e:(x%p).toNat=(y%p).toNat):Al p x y:=by
 have h1:=Int.emod_nonneg x (show p≠0 by omega)
 have h2:=Int.emod_nonneg y (show p≠0 by omega)
 exact Al.iff.mpr (by omega)
theorem back {n a:Int} (hn:2<=n) (c:Co a n):∃ d:Nat,0<d/\(d:Int)<=n/\Al n (a^d) 1:=by
 by_cases z:∃ i j:Nat,i<j/\j<n.toNat+1/\Al n (a^i) (a^j)
 ·obtain⟨i,j,ij,jn,e⟩:=z
  refine⟨j-i,by omega,by omega,?_⟩
  have e1:a^j=a^i*a^(j-i):=by rw [<- Pw.pow_add];congr 1;omega
  rw [e1] at e
  have e2:Al n (a^i*1) (a^i*a^(j-i)):=by rw [Int.mul_one];exact e
  exact ((c.pow i).cancel e2).symm
 ·exfalso
  have nd:=f7 (f:=λi=>(a^i%n).toNat) (n:=n.toNat+1) λi j ij jn e=>z ⟨i,j,ij,jn,rest_eq (by omega) e⟩
  have:=ia n.toNat _ nd λx hx=>by
   obtain⟨i,_,rfl⟩:=List.mem_map.mp hx
   have h1:=Int.emod_nonneg (a^i) (show n≠0 by omega)
   have h2:=Int.emod_lt_of_pos (a^i) (show 0<n by omega)
   show (a^i%n).toNat<n.toNat
   omega
  rw [List.length_map,List.length_range] at this
  omega
def fact:Nat->Nat
 | 0=>1
 | n+1=>(n+1)*fact n
theorem iE:∀ n,0<fact n
 | 0=>by decide
 | n+1=>Nat.mul_pos (Nat.succ_pos n) (iE n)
theorem iB {d:Nat}:∀ n,0<d->d<=n->d∣fact n
 | 0,h,h'=>by omega
 | n+1,h,h'=>by
  by_cases c:d=n+1
  ·subst c;exact⟨fact n,rfl⟩
  ·exact Nat.dvd_trans (iB n h (by omega)) ⟨n+1,Nat.mul_comm _ _⟩
theorem Ord.mul {n a b:Int} {k m:Nat} (ha:Ord n a k) (hb:Ord n b m) (ca:Co a n) (cb:Co b n) (co:Nat.Coprime k m):Ord n (a*b) (k*m):=by
 refine⟨Nat.mul_pos ha.pos hb.pos,?_,λj hj=>?_⟩
 ·rw [Pw.mul_pow]
  have h1:=aJ (k:=m) ha.one
  have h2:=aJ (k:=k) hb.one
  rw [Nat.mul_comm m k] at h2
  exact h1.mul h2
 ·rw [Pw.mul_pow] at hj
  have d1:k∣j:=by
   have e:=hj.pow m
   rw [Pw.one_pow,Pw.mul_pow,<- Pw.pow_mul,<- Pw.pow_mul] at e
   have h2:=aJ (k:=j) hb.one
   rw [Nat.mul_comm m j] at h2
   have e2:Al n (a^(j*m)) 1:=by
    have:=(Al.refl n (a^(j*m))).mul h2.symm
    rw [Int.mul_one] at this
    exact this.trans e
   exact Nat.Coprime.dvd_of_dvd_mul_right co (ha.dv _ e2)
  have d2:m∣j:=by
   have e:=hj.pow k
   rw [Pw.one_pow,Pw.mul_pow,<- Pw.pow_mul,<- Pw.pow_mul] at e
   have h2:=aJ (k:=j) ha.one
   rw [Nat.mul_comm k j] at h2
   have e2:Al n (b^(j*k)) 1:=by
    have:=h2.symm.mul (Al.refl n (b^(j*k)))
    rw [Int.one_mul] at this
    exact this.trans e
   exact Nat.Coprime.dvd_of_dvd_mul_right co.symm (hb.dv _ e2)
  exact Nat.Coprime.mul_dvd_of_dvd_of_dvd co d1 d2
end Num
namespace Num
def Nm (q:Nat):Prop:=2<=q/\∀ d,2<=d->d<q->¬d∣q
theorem oP {m:Nat} (h:2<=m):∃ q,Nm q/\q∣m:=by
 obtain⟨q,⟨q2,qm⟩,no⟩:=cV (P:=λd=>2<=d/\d∣m) m ⟨h,Nat.dvd_refl m⟩
 exact⟨q,⟨q2,λd d2 dq hd=>no d dq ⟨d2,Nat.dvd_trans hd qm⟩⟩,qm⟩
theorem Nm.co {q m:Nat} (h:Nm q) (hm:¬q∣m):Nat.Coprime q m:=by
 have hg:=Nat.gcd_dvd_left q m
 have g0:0<Nat.gcd q m:=Nat.gcd_pos_of_pos_left m (by have:=h.1;omega)
 have gl:=Nat.le_of_dvd (by have:=h.1;omega) hg
 rcases (by omega:Nat.gcd q m=1∨(2<=Nat.gcd q m/\Nat.gcd q m<q)∨Nat.gcd q m=q) with z | ⟨z1,z2⟩ | z
 ·exact z
 ·exact absurd hg (h.2 _ z1 z2)
 ·exact absurd (z▸Nat.gcd_dvd_right q m) hm
theorem mx {q:Nat} (hq:2<=q):∀ m:Nat,0<m->∃ k m',m=q^k*m'/\¬q∣m':=by
 intro m
 induction m using Nat.strongRecOn with
 | ind m ih =>
  intro hm
  by_cases c:q∣m
  ·obtain⟨t,ht⟩:=c
   have t0:0<t:=by
    rcases Nat.eq_zero_or_pos t with z | z
    ·subst z;omega
    ·exact z
   have tm:t<m:=by
    rw [ht]
    have:=Nat.mul_le_mul_right t hq
    omega
   obtain⟨k,m',e,hn⟩:=ih t tm t0
   exact⟨k+1,m',by rw [ht,e,Nat.pow_succ,Nat.mul_comm (q^k) q,Nat.mul_assoc],hn⟩
  ·exact⟨0,m,by simp,c⟩
theorem j2 {q:Nat} (h:Nm q):∀(k d:Nat),d∣q^(k+1)->¬d∣q^k->d=q^(k+1):=by
 intro k
 induction k with
 | zero =>
  intro d h1 h2
  rw [Nat.zero_add,Nat.pow_one] at h1 ⊢
  rw [Nat.pow_zero] at h2
  have q2:=h.1
  have d0:0<d:=Nat.pos_of_dvd_of_pos h1 (by omega)
  have dl:=Nat.le_of_dvd (by omega) h1
  rcases (by omega:d=1∨(2<=d/\d<q)∨d=q) with z | ⟨z1,z2⟩ | z
  ·exact absurd (z▸Nat.dvd_refl 1) h2
  ·exact absurd h1 (h.2 d z1 z2)
  ·exact z
 | succ k ih =>
  intro d h1 h2
  by_cases c:q∣d
  ·obtain⟨t,ht⟩:=c
   have q0:0<q:=by have:=h.1;omega
   rw [ht,Nat.pow_succ,Nat.mul_comm (q^(k+1)) q] at h1
   rw [ht,Nat.pow_succ,Nat.mul_comm (q^k) q] at h2
   have e1:=Nat.dvd_of_mul_dvd_mul_left q0 h1
   have e2:¬t∣q^k:=λz=>h2 (Nat.mul_dvd_mul_left q z)
   rw [ht,ih t e1 e2,Nat.pow_succ q (k+1),Nat.mul_comm]
  ·have co:Nat.Coprime (q^(k+1+1)) d:=Nat.Coprime.pow_left _ (h.co c)
   have:d∣1:=by
    have:=Nat.dvd_gcd h1 (Nat.dvd_refl d)
    rwa [co] at this
   exact absurd (Nat.dvd_trans this (Nat.one_dvd _)) h2
section
variable {p:Int} {L:Nat}
structure Ex (p:Int) (L:Nat):Prop where
 pos:0<L
 all:∀ a:Int,¬p∣a->Al p (a^L) 1
 no:∀ j,0<j->j<L->∃ a:Int,¬p∣a/\¬Al p (a^j) 1
theorem Pm.unit {p a:Int} (hp:Pm p) (c:Co a p):¬p∣a:=λh=>by
 obtain⟨u,v,e⟩:=c
 have h1:p∣u*a:=Int.dvd_mul_of_dvd_right h
 have h2:p∣v*p:=⟨v,Int.mul_comm _ _⟩
 have:=Int.dvd_add h1 h2
 rw [e] at this
 have:=Int.le_of_dvd (by decide) this
 have:=hp.two
 omega
theorem oA (hp:Pm p):∃ L,Ex p L:=by
 have h2:=hp.two
 have uni:∀ a:Int,¬p∣a->Al p (a^fact p.toNat) 1:=λa ha=>by
  obtain⟨d,d0,d1,e⟩:=back h2 (hp.co ha)
  obtain⟨t,ht⟩:=iB p.toNat d0 (by omega)
  rw [ht]
  exact aJ e
 obtain⟨L,⟨l0,l1⟩,no⟩:=cV (P:=λj=>0<j/\∀ a:Int,¬p∣a->Al p (a^j) 1) (fact p.toNat) ⟨iE _,uni⟩
 refine⟨L,l0,l1,λj j0 jl=>?_⟩
 have:=no j jl
 by_cases z:∃ a:Int,¬p∣a/\¬Al p (a^j) 1
 ·exact z
 ·exact absurd ⟨j0,λa ha=>Classical.byContradiction λw=>z ⟨a,ha,w⟩⟩ this
theorem iQ (hp:Pm p) (h:Ex p L):∀ m:Nat,0<m->m∣L->∃ x:Int,Co x p/\Ord p x m:=by
 intro m
 induction m using Nat.strongRecOn with
 | ind m ih =>
  intro hm hd
  by_cases c:m=1
  ·subst c
   exact⟨1,⟨1,0,by omega⟩,by decide,by rw [Int.pow_succ,Int.pow_zero];exact Al.refl _ _,λj _=>Nat.one_dvd j⟩
  ·obtain⟨q,hq,qm⟩:=oP (show 2<=m by omega)
   obtain⟨k,m',e,hn⟩:=mx hq.1 m hm
   have q0:0<q:=by have:=hq.1;omega
   obtain⟨k',rfl⟩:∃ k',k=k'+1:=by
    cases k with
    | zero=>rw [Nat.pow_zero,Nat.one_mul] at e;exact absurd (e▸qm) hn
    | succ k'=>exact⟨k',rfl⟩
   have m0:0<m':=by
    rcases Nat.eq_zero_or_pos m' with z | z
    ·rw [z,Nat.mul_zero] at e;omega
    ·exact z
   have qk:2<=q^(k'+1):=by
    rw [Nat.pow_succ]
    have:=Nat.mul_le_mul (Nat.pow_pos (n:=k') q0) hq.1
    omega
   have mm:m'<m:=by
    rw [e]
    have:=Nat.mul_le_mul_right m' qk
    omega
   obtain⟨y,cy,oy⟩:=ih m' mm m0 (Nat.dvd_trans ⟨q^(k'+1),by rw [e,Nat.mul_comm]⟩ hd)
   have dq:q^(k'+1)∣L:=Nat.dvd_trans ⟨m',e⟩ hd
   obtain⟨T,hT⟩:=dq
   have T0:0<T:=by
    rcases Nat.eq_zero_or_pos T with z | z
    ·rw [z,Nat.mul_zero] at hT;have:=h.pos;omega
    ·exact z
   have eL:L=q*(q^k'*T):=by rw [hT,Nat.pow_succ,Nat.mul_comm (q^k') q,Nat.mul_assoc]
   have jp:0<q^k'*T:=Nat.mul_pos (Nat.pow_pos q0) T0
   have jl:q^k'*T<L:=by
    rw [eL]
    have:=Nat.mul_le_mul_right (q^k'*T) hq.1
    omega
   obtain⟨a,ha,hna⟩:=h.no _ jp jl
   have ca:=hp.co ha
   have z1:Al p ((a^T)^(q^(k'+1))) 1:=by
    rw [<- Pw.pow_mul,Nat.mul_comm,<- hT]
    exact h.all a ha
   have z2:¬Al p ((a^T)^(q^k')) 1:=by
    rw [<- Pw.pow_mul,Nat.mul_comm]
    exact hna
   obtain⟨d,od,_⟩:=gY (Nat.pow_pos q0) z1
   have d1:=od.dv _ z1
   have d2:¬d∣q^k':=λw=>z2 (by obtain⟨t,ht⟩:=w;rw [ht];exact aJ od.one)
   have ed:=j2 hq k' d d1 d2
   subst ed
   refine⟨a^T*y,(ca.pow T).mul cy,?_⟩
   rw [e]
   exact od.mul oy (ca.pow T) cy (Nat.Coprime.pow_left _ (hq.co hn))
theorem oB (hp:Pm p) (h:Ex p L):(L:Int)=p-1:=by
 have h2:=hp.two
 have h1:=mT hp h.pos h.all
 obtain⟨g,cg,og⟩:=iQ hp h L h.pos (Nat.dvd_refl L)
 have nd:=f7 (f:=λi=>(g^i%p).toNat-1) (n:=L) λi j ij jn e=>by
  have r1:∀ k:Nat,1<=(g^k%p).toNat:=λk=>by
   have a1:=Int.emod_nonneg (g^k) (show p≠0 by omega)
   have:g^k%p≠0:=λz=>hp.unit (cg.pow k) (Int.dvd_of_emod_eq_zero z)
   omega
  have e':(g^i%p).toNat=(g^j%p).toNat:=by
   have:=r1 i
   have:=r1 j
   have e:(g^i%p).toNat-1=(g^j%p).toNat-1:=e
   omega
  have:=og.inj cg (by omega) jn (rest_eq (by omega) e')
  omega
 have:=ia (p-1).toNat _ nd λx hx=>by
  obtain⟨i,_,rfl⟩:=List.mem_map.mp hx
  have a1:=Int.emod_nonneg (g^i) (show p≠0 by omega)
  have a2:=Int.emod_lt_of_pos (g^i) (show 0<p by omega)
  have:g^i%p≠0:=λz=>hp.unit (cg.pow i) (Int.dvd_of_emod_eq_zero z)
  show (g^i%p).toNat-1<(p-1).toNat
  omega
 rw [List.length_map,List.length_range] at this
 omega
theorem lu (hp:Pm p) {a:Int} (ha:¬p∣a):Al p (a^(p-1).toNat) 1:=by
 obtain⟨L,h⟩:=oA hp
 have:=oB hp h
 rw [show (p-1).toNat=L by omega]
 exact h.all a ha
theorem jh (hp:Pm p) {m:Nat} (h0:0<m) (hd:m∣(p-1).toNat):∃ x:Int,1<=x/\x<p/\Ord p x m:=by
 obtain⟨L,h⟩:=oA hp
 have:=oB hp h
 have h2:=hp.two
 obtain⟨x,cx,ox⟩:=iQ hp h m h0 (by rwa [show (p-1).toNat=L by omega] at hd)
 have a1:=Int.emod_nonneg x (show p≠0 by omega)
 have a2:=Int.emod_lt_of_pos x (show 0<p by omega)
 have a3:x%p≠0:=λz=>hp.unit cx (Int.dvd_of_emod_eq_zero z)
 refine⟨x%p,by omega,a2,ox.pos,((Al.rest p x).pow m).trans ox.one,λj hj=>ox.dv j (((Al.rest p x).pow j).symm.trans hj)⟩
theorem gJ (hp:Pm p):∃ g:Int,1<=g/\g<p/\Ord p g (p-1).toNat:=jh hp (by have:=hp.two;omega) (Nat.dvd_refl _)
end
end Num
namespace Num
theorem l6 {n a:Int} {e:Nat} (h0:0<e) (h1:Al n (a^e) 1) (no:∀ q,Nm q->q∣e->¬Al n (a^(e/q)) 1):Ord n a e:=by
 obtain⟨m,om,_⟩:=gY h0 h1
 have d:=om.dv _ h1
 by_cases z:m=e
 ·subst z;exact om
 ·exfalso
  obtain⟨t,ht⟩:=d
  have t2:2<=t:=by
   rcases (by omega:t=0∨t=1∨2<=t) with w | w | w
   ·rw [w] at ht;omega
   ·rw [w,Nat.mul_one] at ht;exact absurd ht.symm z
   ·exact w
  obtain⟨q,hq,r,hr⟩:=oP t2
  have q0:0<q:=by have:=hq.1;omega
  have e1:e=q*(m*r):=by rw [ht,hr,<- Nat.mul_assoc,Nat.mul_comm m q,Nat.mul_assoc]
  refine no q hq ⟨m*r,e1⟩ ?_
  rw [e1,Nat.mul_div_cancel_left _ q0]
  exact aJ om.one
theorem Ord.tK {n a:Int} {e:Nat} (h:Ord n a e) {q:Nat} (hq:Nm q) (hd:q∣e):¬Al n (a^(e/q)) 1:=λz=>by
 have q0:0<q:=by have:=hq.1;omega
 obtain⟨r,hr⟩:=hd
 rw [hr,Nat.mul_div_cancel_left _ q0] at z
 have d:=h.dv _ z
 have r0:0<r:=by
  rcases Nat.eq_zero_or_pos r with w | w
  ·rw [w,Nat.mul_zero] at hr;have:=h.pos;omega
  ·exact w
 have:=Nat.le_of_dvd r0 d
 have:=Nat.mul_le_mul_right r hq.1
 omega
end Num
namespace Num
theorem mj {n r:Int} (h:Ld.bX n r):Pm r:=⟨h.two,λd d2 dr hd=>h.no d d2 dr (Int.dvd_trans hd h.dv)⟩
def aK:List (Int × Int)->Int
 | []=>1
 | p::r=>p.1^p.2.toNat*aK r
theorem dA:∀(ps:List (Int × Int)) (p:Int × Int),aK (ps++[p])=aK ps*p.1^p.2.toNat
 | [],p=>by show p.1^_*1=1*_;omega
 | q::r,p=>by
  show q.1^q.2.toNat*aK (r++[p])=q.1^q.2.toNat*aK r*_
  rw [dA r p,Int.mul_assoc]
structure Part (n:Int) (ps:List (Int × Int)):Prop where
 ok:∀ p∈ps,Pm p.1/\1<=p.2/\p.2<=30
 rise:ps.Pairwise λa b=>a.1<b.1
 prod:aK ps=n
theorem aO {q:Int} (h:0<q):∀ k:Nat,0<q^k
 | 0=>by rw [Int.pow_zero];decide
 | k+1=>by rw [Int.pow_succ];exact Int.mul_pos (aO h k) h
theorem two_pow_le {q:Int} (h:2<=q):∀ k:Nat,(2:Int)^k<=q^k
 | 0=>by rw [Int.pow_zero,Int.pow_zero];exact Int.le_refl _
 | k+1=>by
  rw [Int.pow_succ,Int.pow_succ]
  exact Int.mul_le_mul (two_pow_le h k) h (by decide) (Int.le_of_lt (aO (by omega) k))
theorem two_le:∀{k:Nat},(2:Int)^k<=10^9->k<=29:=by
 intro k h
 by_cases c:k<=29
 ·exact c
 ·exfalso
  have e:k=30+(k-30):=by omega
  rw [e,Pw.pow_add] at h
  have:=aO (show (0:Int)<2 by decide) (k-30)
  have h2:=Int.mul_le_mul_of_nonneg_left (show (1:Int)<=2^(k-30) by omega) (show (0:Int)<=2^30 by decide)
  have:(2:Int)^30=1073741824:=by decide
  omega
structure Way (n:Int) (ps:List (Int × Int)) (left prime:Int):Prop where
 ok:∀ p∈ps,Pm p.1/\1<=p.2/\p.2<=30
 rise:ps.Pairwise λa b=>a.1<b.1
 prod:aK ps*left=n
 pos:1<=left
 inv:Ld.Inv left prime
 le:∀ p∈ps,p.1<=prime
 gone:ps=[]∨¬prime∣left
 two:(2:Int)^ps.length*left<=n
theorem Way.start {n:Int} (h:1<=n):Way n [] n 2:=⟨λ_ z=>by simp at z,List.Pairwise.nil,by show 1*n=n;omega,h,⟨by decide,.inl rfl,λd d0 d1=>by omega⟩,λ_ z=>by simp at z,.inl rfl,by rw [List.length_nil,Int.pow_zero];omega⟩
theorem Way.step {n left prime r left':Int} {ps:List (Int × Int)} {k:Nat} (w:Way n ps left prime) (hn:n<=10^9) (hl:1<left) (h:Ld.bX left r) (e:left=r^k*left') (l0:1<=left') (hk:1<=k) (hg:¬r∣left'):Way n (ps++[(r,(k:Int))]) left' r:=by
 have r2:=h.two
 have pm:=mj h
 have rp:prime<=r:=by
  rcases (by omega:prime<=r∨r<prime) with z | z
  ·exact z
  ·exact absurd h.dv (w.inv.no r r2 z)
 have rk:=aO (show 0<r by omega) k
 have k2:=two_pow_le r2 k
 have kl:(2:Int)^k<=left:=by
  have:=Int.mul_le_mul k2 l0 (by decide) (Int.le_of_lt rk)
  rw [Int.mul_one] at this
  omega
 have ln:left<=n:=by
  have z:=w.two
  have p0:=aO (show (0:Int)<2 by decide) ps.length
  have:=Int.mul_le_mul_of_nonneg_right (show (1:Int)<=2^ps.length by omega) (show 0<=left by omega)
  omega
 have k29:=two_le (k:=k) (by omega)
 refine⟨λp hp=>?_,?_,?_,l0,?_,λp hp=>?_,.inr hg,?_⟩
 ·rcases List.mem_append.mp hp with z | z
  ·exact w.ok p z
  ·rw [List.mem_singleton.mp z]
   exact⟨pm,by show (1:Int)<=k;omega,by show (k:Int)<=30;omega⟩
 ·refine List.pairwise_append.mpr ⟨w.rise,List.pairwise_singleton _ _,λa ha b hb=>?_⟩
  rw [List.mem_singleton.mp hb]
  show a.1<r
  have:=w.le a ha
  rcases w.gone with z | z
  ·rw [z] at ha;simp at ha
  ·have:prime≠r:=λy=>z (y▸h.dv)
   omega
 ·rw [dA,<- w.prod,e]
  show aK ps*r^((k:Int).toNat)*left'=_
  rw [Int.toNat_natCast,Int.mul_assoc]
 ·refine⟨r2,?_,λd d0 d1 hd=>h.no d d0 d1 (by rw [e];exact Int.dvd_mul_of_dvd_right hd)⟩
  rcases (by omega:r=2∨2<r) with z | z
  ·exact .inl z
  ·refine .inr ?_
   rcases (by omega:r%2=1∨r%2=0) with y | y
   ·exact y
   ·exact absurd (Int.dvd_of_emod_eq_zero y) (pm.no 2 (by decide) z)
 ·rcases List.mem_append.mp hp with z | z
  ·have:=w.le p z;omega
  ·rw [List.mem_singleton.mp z];exact Int.le_refl _
 ·rw [List.length_append,List.length_singleton,Pw.pow_add,Int.pow_succ,Int.pow_zero,Int.one_mul,Int.mul_assoc]
  refine Int.le_trans (Int.mul_le_mul_of_nonneg_left ?_ (Int.le_of_lt (aO (by decide) _))) w.two
  rw [e]
  obtain⟨k',rfl⟩:∃ k',k=k'+1:=⟨k-1,by omega⟩
  have p0:=aO (show 0<r by omega) k'
  have h1:r<=r^(k'+1):=by
   rw [Int.pow_succ]
   have:=Int.mul_le_mul_of_nonneg_right (show 1<=r^k' by omega) (show 0<=r by omega)
   omega
  exact Int.mul_le_mul_of_nonneg_right (show 2<=r^(k'+1) by omega) (show 0<=left' by omega)
theorem Way.done {n prime:Int} {ps:List (Int × Int)} (w:Way n ps 1 prime):Part n ps:=⟨w.ok,w.rise,by have:=w.prod;omega⟩
theorem Way.len {n left prime:Int} {ps:List (Int × Int)} (w:Way n ps left prime) (hn:n<=10^9):ps.length<=29:=by
 refine two_le ?_
 have z:=w.two
 have p0:=aO (show (0:Int)<2 by decide) ps.length
 have:=Int.mul_le_mul_of_nonneg_left w.pos (Int.le_of_lt p0)
 omega
end Num
namespace Num
open PySem
theorem cT:∀{ps:List (Int × Int)} {p:Int × Int},p∈ps->1<=p.2->p.1∣aK ps
 | a::r,p,h,hk=>by
  rcases List.mem_cons.mp h with z | z
  ·subst z
   obtain⟨k,hk'⟩:∃ k,p.2.toNat=k+1:=⟨p.2.toNat-1,by omega⟩
   show p.1∣p.1^p.2.toNat*aK r
   rw [hk',Int.pow_succ]
   exact Int.dvd_mul_of_dvd_left ⟨p.1^k,Int.mul_comm _ _⟩
  ·exact Int.dvd_mul_of_dvd_right (cT z hk)
theorem rh {q:Nat} (h:Nm q):Pm (q:Int):=⟨by have:=h.1;omega,λd d2 dq hd=>h.2 d.toNat (by omega) (by omega) (by
 obtain⟨c,hc⟩:=hd
 have:(d.toNat:Int)=d:=by omega
 exact Int.natCast_dvd_natCast.mp (by rw [this];exact⟨c,hc⟩))⟩
theorem lT {p:Int} (h:Pm p):Nm p.toNat:=⟨by have:=h.two;omega,λd d2 dp hd=>h.no d (by omega) (by omega) (by
 have:=Int.natCast_dvd_natCast.mpr hd
 rwa [show (p.toNat:Int)=p by have:=h.two;omega] at this)⟩
theorem ml {p q:Int} (hp:Pm p) (hq:Pm q):∀ k:Nat,q∣p^k->q=p
 | 0,h=>by
  rw [Int.pow_zero] at h
  have:=Int.le_of_dvd (by decide) h
  have:=hq.two
  omega
 | k+1,h=>by
  rw [Int.pow_succ] at h
  by_cases c:q∣p^k
  ·exact ml hp hq k c
  ·have d:=hq.or h c
   have l:=Int.le_of_dvd (by have:=hp.two;omega) d
   rcases (by omega:q<p∨q=p) with z | z
   ·exact absurd d (hp.no q hq.two z)
   ·exact z
theorem cW {q:Int} (hq:Pm q):∀{ps:List (Int × Int)},(∀ p∈ps,Pm p.1)->q∣aK ps->∃ p∈ps,p.1=q
 | [],_,h=>by
  have:=Int.le_of_dvd (by decide) (show q∣1 from h)
  have:=hq.two
  omega
 | a::r,hp,h=>by
  by_cases c:q∣a.1^a.2.toNat
  ·exact⟨a,by simp,(ml (hp a (by simp)) hq _ c).symm⟩
  ·obtain⟨p,h1,h2⟩:=cW hq (λp z=>hp p (List.mem_cons_of_mem _ z)) (hq.or h c)
   exact⟨p,List.mem_cons_of_mem _ h1,h2⟩
theorem l7 {n a e:Int} {ps:List (Int × Int)} (h:Part e ps) (he:1<=e):(Al n (a^e.toNat) 1/\∀ q∈ps.map (·.1),¬Al n (a^(e/q).toNat) 1)↔Ord n a e.toNat:=by
 constructor
 ·rintro⟨h1,h2⟩
  refine l6 (by omega) h1 λq hq hd=>?_
  have hd':(q:Int)∣e:=by
   have:=Int.natCast_dvd_natCast.mpr hd
   rwa [show (e.toNat:Int)=e by omega] at this
  obtain⟨p,hp,ep⟩:=cW (rh hq) (λp z=>(h.ok p z).1) (by rw [h.prod];exact hd')
  have:=h2 q (List.mem_map.mpr ⟨p,hp,ep⟩)
  rwa [show (e/(q:Int)).toNat=e.toNat/q by
   have:e/(q:Int)=((e.toNat/q:Nat):Int):=by rw [Int.natCast_ediv];congr 1;omega
   rw [this,Int.toNat_natCast]] at this
 ·intro h1
  refine⟨h1.one,λq hq=>?_⟩
  obtain⟨p,hp,rfl⟩:=List.mem_map.mp hq
  obtain⟨o1,o2,_⟩:=h.ok p hp
  have d:p.1∣e:=by rw [<- h.prod];exact cT hp o2
  have t:=o1.two
  have:=h1.tK (lT o1) (by
   have:(p.1.toNat:Int)∣(e.toNat:Int):=by rw [show (p.1.toNat:Int)=p.1 by omega,show (e.toNat:Int)=e by omega];exact d
   exact Int.natCast_dvd_natCast.mp this)
  rwa [show e.toNat/p.1.toNat=(e/p.1).toNat by
   have:e/p.1=((e.toNat/p.1.toNat:Nat):Int):=by rw [Int.natCast_ediv];congr 1<;>omega
   rw [this,Int.toNat_natCast]] at this
structure LF (p g:Int):Prop where
 one:1<=g
 lt:g<p
 ord:Ord p g (p-1).toNat
 no:∀ a:Int,1<=a->a<g->¬Ord p a (p-1).toNat
def rowsOf (ps:List (Int × Int)) (ds:Nat->PyData):List PyData:=(List.range ps.length).map λi=>.tuple [ds i,.int (ps.getD i (0,0)).2]
theorem bw {ps:List (Int × Int)} {ds:Nat->PyData}:(rowsOf ps ds).length=ps.length:=by unfold rowsOf;rw [List.length_map,List.length_range]
theorem dB {ps:List (Int × Int)} {ds:Nat->PyData} {i:Nat} {p:Int × Int} (h:ps[i]?=some p):(rowsOf ps ds)[i]?=some (.tuple [ds i,.int p.2]):=by
 have hi:=(List.getElem?_eq_some_iff.mp h).1
 unfold rowsOf
 rw [List.getElem?_map,List.getElem?_range hi]
 show some (PyData.tuple [ds i,.int (ps.getD i (0,0)).2])=_
 rw [List.getD_eq_getElem?_getD,h]
 rfl
inductive i5:Int->PyData->Prop
 | mk (p g:Int) (ps:List (Int × Int)) (ds:Nat->PyData):Pm p->p<=10^9->LF p g->Part (p-1) ps->ps.length<=29->(∀ i q k,ps[i]?=some (q,k)->i5 q (ds i))->i5 p (.tuple [.int p,.int g,.tuple (rowsOf ps ds)])
theorem i5.head {p:Int} {d:PyData} (h:i5 p d):∃ g rows,d=.tuple [.int p,.int g,.tuple rows]:=by
 cases h
 exact⟨_,_,rfl⟩
def Ht:Nat->Int->Prop
 | 0,_=>False
 | L+1,n=>∀ q:Int,Pm q->q∣n-1->Ht L q
theorem oG:∀(L:Nat) (n:Int),Pm n->n<2^(L+2)->Ht (L+2) n
 | 0,n,h,hn=>by
  have h2:=h.two
  have hn':n<4:=hn
  intro q hq hd
  intro q' hq' hd'
  have q2:=hq.two
  have l:=Int.le_of_dvd (by rcases (by omega:n=2∨n=3) with z | z;exfalso;rw [z] at hd;have:=Int.le_of_dvd (by decide) hd;omega;omega) hd
  have qq:q=2:=by omega
  rw [qq] at hd'
  have:=Int.le_of_dvd (by decide) hd'
  have:=hq'.two
  omega
 | L+1,n,h,hn=>by
  intro q hq hd
  have q2:=hq.two
  have h2:=h.two
  refine oG L q hq ?_
  have e:(2:Int)^(L+1+2)=2^(L+2)*2:=by rw [<- Int.pow_succ]
  rw [e] at hn
  have four:(4:Int)<=2^(L+2):=by
   have:=aO (show (0:Int)<2 by decide) L
   have e4:(2:Int)^(L+2)=2^L*4:=by rw [Pw.pow_add];rfl
   omega
  obtain⟨c,hc⟩:=hd
  rcases (by omega:n<=3∨3<n) with z | z
  ·have:q<=n-1:=Int.le_of_dvd (by
    rcases (by omega:n=2∨n=3) with y | y
    ·exfalso
     rw [y] at hc
     have:=Int.le_of_dvd (by decide) (show q∣1 from ⟨c,hc⟩)
     omega
    ·omega) ⟨c,hc⟩
   omega
  ·rcases (by omega:n%2=0∨n%2=1) with y | y
   ·exact absurd (Int.dvd_of_emod_eq_zero y) (h.no 2 (by decide) (by omega))
   ·rcases (by omega:q=2∨2<q) with x | x
    ·omega
    ·have qo:q%2=1:=by
      rcases (by omega:q%2=1∨q%2=0) with w | w
      ·exact w
      ·exact absurd (Int.dvd_of_emod_eq_zero w) (hq.no 2 (by decide) x)
     have ce:c%2=0:=by
      rcases (by omega:c%2=0∨c%2=1) with w | w
      ·exact w
      ·exfalso
       have:(q*c)%2=1:=by rw [Int.mul_emod,qo,w];rfl
       omega
     have c2:2<=c:=by
      rcases (by omega:c<=0∨2<=c) with w | w
      ·have:=Int.mul_nonpos_of_nonneg_of_nonpos (show 0<=q by omega) w
       omega
      ·exact w
     have:=Int.mul_le_mul_of_nonneg_left c2 (show 0<=q by omega)
     omega
theorem lC {n:Int} (h:Pm n) (hn:n<=10^9):Ht 30 n:=oG 28 n h (by
 have:(2:Int)^(28+2)=1073741824:=by decide
 omega)
end Num
namespace Num
theorem fo {p:Int} (hp:2<=p):∀{k l:Nat} {R T:Int},¬p∣R->¬p∣T->p^k*R=p^l*T->k=l/\R=T
 | 0,0,R,T,_,_,e=>by rw [Int.pow_zero,Int.one_mul,Int.one_mul] at e;exact⟨rfl,e⟩
 | 0,l+1,R,T,h,_,e=>by
  rw [Int.pow_zero,Int.one_mul,Int.pow_succ,Int.mul_comm (p^l),Int.mul_assoc] at e
  exact absurd ⟨_,e⟩ h
 | k+1,0,R,T,_,h,e=>by
  rw [Int.pow_zero,Int.one_mul,Int.pow_succ,Int.mul_comm (p^k),Int.mul_assoc] at e
  exact absurd ⟨_,e.symm⟩ h
 | k+1,l+1,R,T,h,h',e=>by
  rw [Int.pow_succ,Int.pow_succ,Int.mul_comm (p^k),Int.mul_comm (p^l),Int.mul_assoc,Int.mul_assoc] at e
  obtain⟨e1,e2⟩:=fo hp h h' (Int.eq_of_mul_eq_mul_left (by omega) e)
  exact⟨by rw [e1],e2⟩
theorem Part.tail {n:Int} {x:Int × Int} {r:List (Int × Int)} (h:Part n (x::r)):Part (aK r) r:=⟨λp hp=>h.ok p (List.mem_cons_of_mem _ hp),(List.pairwise_cons.mp h.rise).2,rfl⟩
theorem Part.nd {n:Int} {x:Int × Int} {r:List (Int × Int)} (h:Part n (x::r)):¬x.1∣aK r:=λz=>by
 obtain⟨y,hy,e⟩:=cW (h.ok x (List.mem_cons_self ..)).1 (λp hp=>(h.ok p (List.mem_cons_of_mem _ hp)).1) z
 have:=(List.pairwise_cons.mp h.rise).1 y hy
 omega
theorem Part.hd {n:Int} {x:Int × Int} {r:List (Int × Int)} (h:Part n (x::r)) {q:Int} (hq:Pm q) (hd:q∣n):x.1<=q:=by
 obtain⟨y,hy,e⟩:=cW hq (λp hp=>(h.ok p hp).1) (h.prod▸hd)
 rcases List.mem_cons.mp hy with rfl | hy
 ·omega
 ·have:=(List.pairwise_cons.mp h.rise).1 y hy
  omega
theorem Part.dv {n:Int} {ps:List (Int × Int)} (h:Part n ps) {x:Int × Int} (hx:x∈ps):x.1∣n:=h.prod▸cT hx (h.ok x hx).2.1
theorem Part.one:∀{ps qs:List (Int × Int)} {n:Int},Part n ps->Part n qs->ps=qs
 | [],[],_,_,_=>rfl
 | [],y::t,n,h,h'=>by
  exfalso
  have e:n=1:=h.prod.symm
  have:=(h'.ok y (List.mem_cons_self ..)).1.two
  have:=Int.le_of_dvd (by decide) (e▸h'.dv (List.mem_cons_self ..))
  omega
 | x::r,[],n,h,h'=>by
  exfalso
  have e:n=1:=h'.prod.symm
  have:=(h.ok x (List.mem_cons_self ..)).1.two
  have:=Int.le_of_dvd (by decide) (e▸h.dv (List.mem_cons_self ..))
  omega
 | (p,k)::r,(q,l)::t,n,h,h'=>by
  have hp:=h.ok _ (List.mem_cons_self ..)
  have hq:=h'.ok _ (List.mem_cons_self ..)
  have e1:p<=q:=h.hd hq.1 (h'.dv (List.mem_cons_self ..))
  have e2:q<=p:=h'.hd hp.1 (h.dv (List.mem_cons_self ..))
  obtain rfl:p=q:=by omega
  obtain⟨a,b⟩:=fo hp.1.two h.nd h'.nd (h.prod.trans h'.prod.symm)
  have:k=l:=by have:=hp.2.1;have:=hq.2.1;simp only at *;omega
  subst this
  rw [Part.one h.tail (b▸h'.tail)]
def rg:List (Int × Int)->Int
 | []=>1
 | x::r=>x.1^(x.2.toNat-1)*(x.1-1)*rg r
theorem d8:∀{ps:List (Int × Int)},(∀ p∈ps,Pm p.1)->0<aK ps
 | [],_=>by decide
 | x::r,h=>Int.mul_pos (aO (by have:=(h x (List.mem_cons_self ..)).two;omega) _) (d8 λp hp=>h p (List.mem_cons_of_mem _ hp))
theorem Part.pos {n:Int} {ps:List (Int × Int)} (h:Part n ps):0<n:=h.prod▸d8 λp hp=>(h.ok p hp).1
structure Dv (A:Int) (F:List (List (Int × Int))):Prop where
 part:∀ s∈F,Part (aK s) s
 nodup:(F.map aK).Nodup
 mem:∀ d,d∈F.map aK↔0<d/\d∣A
 sum:(F.map rg).sum=A
theorem Dv.start:Dv 1 [[]]:=⟨λs hs=>by rw [List.mem_singleton.mp hs];exact⟨λ_ z=>by simp at z,List.Pairwise.nil,rfl⟩,by simp,λd=>by
  show d∈[1]↔_
  rw [List.mem_singleton]
  exact⟨λe=>by rw [e];exact⟨by decide,Int.dvd_refl _⟩,fun⟨a,b⟩=>by have:=Int.le_of_dvd (by decide) b;omega⟩,rfl⟩
structure Ds (n:Int) (ds:List Int):Prop where
 rise:ds.Pairwise (·<·)
 mem:∀ d,d∈ds↔0<d/\d∣n
theorem lS {l:List Int} (h:l.Pairwise (·<=·)) (nd:l.Nodup):l.Pairwise (·<·) :=
 (h.and nd).imp fun⟨a,b⟩=>by omega
theorem lR:∀{l m:List Int},l.Pairwise (·<·)->m.Pairwise (·<·)->(∀ a,a∈l↔a∈m)->l=m
 | [],[],_,_,_=>rfl
 | [],y::m,_,_,h=>by have:=(h y).mpr (List.mem_cons_self ..);simp at this
 | x::l,[],_,_,h=>by have:=(h x).mp (List.mem_cons_self ..);simp at this
 | x::l,y::m,hl,hm,h=>by
  obtain⟨a,b⟩:=List.pairwise_cons.mp hl
  obtain⟨c,d⟩:=List.pairwise_cons.mp hm
  have e:x=y:=by
   rcases List.mem_cons.mp ((h x).mp (List.mem_cons_self ..)) with z | z
   ·exact z
   ·rcases List.mem_cons.mp ((h y).mpr (List.mem_cons_self ..)) with w | w
    ·exact w.symm
    ·have:=a y w;have:=c x z;omega
  subst e
  rw [lR b d λz=>?_]
  constructor
  ·intro hz
   rcases List.mem_cons.mp ((h z).mp (List.mem_cons_of_mem _ hz)) with w | w
   ·have:=a z hz;omega
   ·exact w
  ·intro hz
   rcases List.mem_cons.mp ((h z).mpr (List.mem_cons_of_mem _ hz)) with w | w
   ·have:=c z hz;omega
   ·exact w
theorem Ds.one {n:Int} {ds es:List Int} (h:Ds n ds) (h':Ds n es):ds=es:=lR h.rise h'.rise λa=>(h.mem a).trans (h'.mem a).symm
theorem Dv.ds {n:Int} {F:List (List (Int × Int))} {ds:List Int} (h:Dv n F) (p:ds.Perm (F.map aK)) (s:ds.Pairwise (·<=·)):Ds n ds :=
 ⟨lS s (p.nodup_iff.mpr h.nodup),λd=>p.mem_iff.trans (h.mem d)⟩
theorem e8 (p:Int->Bool):∀ l:List Int,l.length=(l.filter p).length+(l.filter (λd=>!p d)).length
 | []=>rfl
 | x::l=>by
  have:=e8 p l
  cases e:p x<;>simp [List.filter_cons,e]<;>omega
theorem sY {n:Int} (hn:n<=10^9) {l:List Int} (nd:l.Nodup) (h:∀ d∈l,0<d/\d∣n) (n0:0<n):l.length<=63246:=by
 have lo:(l.filter (λd=>decide (d<31623))).length<=31623:=by
  have:=ia 31623 ((l.filter (λd=>decide (d<31623))).map Int.toNat) ?_ ?_
  ·simpa using this
  ·refine List.pairwise_map.mpr ((nd.filter _).imp_of_mem λ{a b} ha hb ne e=>ne ?_)
   have h1:=h a (List.mem_filter.mp ha).1
   have h2:=h b (List.mem_filter.mp hb).1
   omega
  ·intro x hx
   obtain⟨d,hd,rfl⟩:=List.mem_map.mp hx
   have:=(List.mem_filter.mp hd).2
   simp at this
   omega
 have hi:(l.filter (λd=>!decide (d<31623))).length<=31623:=by
  have:=ia 31623 ((l.filter (λd=>!decide (d<31623))).map λd=>(n/d).toNat) ?_ ?_
  ·simpa using this
  ·refine List.pairwise_map.mpr ((nd.filter _).imp_of_mem λ{a b} ha hb ne e=>ne ?_)
   have h1:=h a (List.mem_filter.mp ha).1
   have h2:=h b (List.mem_filter.mp hb).1
   obtain⟨c,hc⟩:=h1.2
   obtain⟨c',hc'⟩:=h2.2
   have e1:n/a=c:=by rw [hc];exact Int.mul_ediv_cancel_left _ (by omega)
   have e2:n/b=c':=by rw [hc'];exact Int.mul_ediv_cancel_left _ (by omega)
   rw [e1,e2] at e
   have c0:0<c:=by
    rcases (by omega:c<=0∨0<c) with z | z
    ·have:=Int.mul_nonpos_of_nonneg_of_nonpos (show 0<=a by omega) z
     omega
    ·exact z
   have c0':0<c':=by
    rcases (by omega:c'<=0∨0<c') with z | z
    ·have:=Int.mul_nonpos_of_nonneg_of_nonpos (show 0<=b by omega) z
     omega
    ·exact z
   obtain rfl:c=c':=by omega
   exact Int.eq_of_mul_eq_mul_right (by omega) (hc.symm.trans hc')
  ·intro x hx
   obtain⟨d,hd,rfl⟩:=List.mem_map.mp hx
   have h1:=(List.mem_filter.mp hd).2
   simp at h1
   have h2:n/d<=n/31623:=by
    refine Int.le_ediv_of_mul_le (by decide) ?_
    have:=Int.ediv_mul_le n (show d≠0 by omega)
    have:=Int.mul_le_mul_of_nonneg_left h1 (Int.ediv_nonneg (show 0<=n by omega) (show 0<=d by omega))
    omega
   have:n/31623<31623:=Int.ediv_lt_of_lt_mul (by decide) (by omega)
   omega
 have:=e8 (λd:Int=>decide (d<31623)) l
 omega
def ins (x:Int × Int):List (Int × Int)->List (Int × Int)
 | []=>[x]
 | y::r=>if x.1<y.1 then x::y::r else y::ins x r
end Num
namespace L2
open PySem PySem.Spec PyProof.Rows
def tR:PyData->String
 | .none => "NoneType"
 | .bool _ => "bool"
 | .int _ => "int"
 | .str _ => "str"
 | .list _ => "list"
 | .tuple _ => "tuple"
 | .dict _ => "dict"
def sy:PyData->Bool
 | .int _=>true
 | _=>false
def sx:PyData->Bool
 | .bool _=>true
 | _=>false
def tP:PyData->Bool
 | .tuple _=>true
 | _=>false
section
variable {X:Cx} {K:PySem.W.Frag}
def j5 (K:PySem.W.Frag):List V->Hp->VK->Prop:=λxs H Q=>∃ d x n b,xs=[x,.ty n]/\dv K H d x/\PySem.W.kitOne K (.type (tR d)) (.type n)=some b/\Q (.bl b) H
theorem bP:cp X (.builtin "isinstance") (j5 X.K):=by
 intro pins s σ H xs us Q I r h
 obtain⟨d,x,n,b,rfl,hd,ek,q⟩:=h
 obtain⟨u,w',rfl,rx,rc⟩:=vals2 r
 have e:w'=.type n:=rc
 subst e
 have fin:∀ tk,∃ v' H',Inv X pins σ H' { s with toks:=tk }/\RelV v' (.bool b)/\Q v' H':=λtk=>⟨.bl b,H,I.tok _,rfl,q⟩
 cases d with
 | none=>cases hd;exact c9 I rx dg.non ek fin
 | bool y=>cases hd;exact c9 I rx (dg.bl _) ek fin
 | int y=>cases hd;exact c9 I rx (dg.int _) ek fin
 | str y=>cases hd;exact c9 I rx (dg.str _) ek fin
 | list ds =>
  obtain⟨p,ys,rfl,h,t⟩:=hd
  cases rx
  obtain⟨its,rr,pl,_⟩:=I.list h
  obtain⟨o,h1,h2,_⟩:=pl.isList
  exact PySem.W.kia_one PySem.W.kitx_list I.cU ⟨o,h1,h2⟩ ek (λz=>nomatch z) fin
 | tuple ds =>
  obtain⟨p,ys,rfl,h,t⟩:=hd
  cases rx
  obtain⟨its,rr,pl,_⟩:=I.tuple h
  obtain⟨o,h1,h2,_⟩:=pl
  exact PySem.W.kia_one PySem.W.kitx_tuple I.cU ⟨o,h1,h2⟩ ek (λz=>nomatch z) fin
 | dict _=>exact hd.elim
theorem nc {H:Hp} {d:PyData} {x:V} {Q:VK} (h:dv K H d x) (q:Q (.bl (sy d || sx d)) H):j5 K [x,.ty "int"] H Q:=by
 refine⟨d,x,"int",_,rfl,h,?_,q⟩
 cases d<;>first | exact h.elim | with_unfolding_all rfl
theorem lH {H:Hp} {d:PyData} {x:V} {Q:VK} (h:dv K H d x) (q:Q (.bl (sx d)) H):j5 K [x,.ty "bool"] H Q:=by
 refine⟨d,x,"bool",_,rfl,h,?_,q⟩
 cases d<;>first | exact h.elim | with_unfolding_all rfl
theorem eQ {H:Hp} {d:PyData} {x:V} {Q:VK} (h:dv K H d x) (q:Q (.bl (tP d)) H):j5 K [x,.ty "tuple"] H Q:=by
 refine⟨d,x,"tuple",_,rfl,h,?_,q⟩
 cases d<;>first | exact h.elim | with_unfolding_all rfl
end
def qN (i:Int) (n:Nat):List V:=(List.range n).map fun(k:Nat)=>V.int (i+(k:Int))
def tQ (ta:TA):TE:=λσ H Q=>ta σ H λvs H1=>∃ i j:Int,vs=[.int i,.int j]/\(-(2^62)<=i/\i<2^62 /\ -(2^62)<=j/\j<2^62)/\j-i<=10^6/\∀ l,H1 l=none->Q (.ref l) (upd H1 l (.lst (qN i (j-i).toNat)))
variable {X:Cx}
theorem boot_any:bootBuiltins "any"=some (.builtin "any"):=by decide +kernel
section
variable {X:Cx} {K:PySem.W.Frag}
def rm (K:PySem.W.Frag):List V->Hp->VK->Prop:=λxs H Q=>∃(a:Addr) (bs:List Bool),xs=[.ref a]/\bh K H a (bs.map V.bl)/\Q (.bl (bs.any id)) H
theorem la (hc:X.calm=true):cp X (.builtin "any") (rm X.K):=by
 intro pins s σ H xs us Q I r h
 obtain⟨a,bs,rfl,hq,q⟩:=h
 obtain⟨u,rfl,ru⟩:=vals1 r
 cases ru
 obtain⟨its,rv,p,hz⟩:=I.list hq
 have hl:=p.isList
 have hlt:a<s.heap.objs.size:=by obtain⟨_,e,_⟩:=hl;exact Heap.lt_size e
 have hln:its.length=bs.length:=by have:=rv.length;rw [List.length_map] at this;omega
 have hb:∀(i:Nat) v,its[i]?=some v->∃ b,bs[i]?=some b/\v=.bool b:=λi v e=>by
  have hi:i<its.length:=(List.getElem?_eq_some_iff.mp e).1
  have hi2:i<bs.length:=by omega
  obtain⟨u,e1,e2⟩:=rv.get (i:=i) (x:=V.bl bs[i]) (by rw [List.getElem?_map,List.getElem?_eq_getElem hi2];rfl)
  rw [e] at e1
  cases e1
  exact⟨bs[i],List.getElem?_eq_getElem hi2,e2⟩
 refine call_any_walk (wpAny_pyIter_list hl ?_)
 refine⟨s.heap.objs.size,[s.heap.objs.size,a],[s.heap.objs.size],its.toArray.size,_,_,λi=>(bs[i]?).getD false,rfl,Walks.list (A:=X.A.in1) (I.ok.hd hc) _ a (Nat.ne_of_lt hlt) its.toArray,
  ⟨⟨_,Heap.get?_push_size _ rfl,rfl,rfl⟩,hl.push _⟩,λi v s' Q' E' hP hQ=>?_,λh' tk hk=>?_⟩
 ·obtain⟨b,e,rfl⟩:=hb i v (by simpa using hP)
  simp only [e,Option.getD_some] at hQ
  exact wpAny_truthy_bool hQ
 ·have e:((List.range its.toArray.size).any λi=>(bs[i]?).getD false)=bs.any id:=by
   rw [List.size_toArray,hln,Bool.eq_iff_iff]
   simp only [List.any_eq_true,List.mem_range,id]
   constructor
   ·rintro⟨i,hi,z⟩
    rw [List.getElem?_eq_getElem hi,Option.getD_some] at z
    exact⟨_,List.getElem_mem hi,z⟩
   ·rintro⟨b,hb',z⟩
    obtain⟨i,hi,rfl⟩:=List.mem_iff_getElem.mp hb'
    exact⟨i,hi,by rw [List.getElem?_eq_getElem hi,Option.getD_some];exact z⟩
  rw [e]
  exact⟨.bl _,H,I.kept λb o eb=>hk b o (λhm=>by rw [List.mem_singleton.mp hm] at eb;exact Nat.lt_irrefl _ (Heap.lt_size eb)) (Heap.get?_push_of_some _ eb),rfl,q⟩
theorem pB {H:Hp} {p:Addr} {bs:List Bool} {Q:VK} (h:bh K H p (bs.map V.bl)) (q:Q (.bl (bs.any id)) H):rm K [.ref p] H Q:=⟨p,bs,rfl,h,q⟩
end
end L2
namespace Num
def S:Nat->(Nat->Int)->Int
 | 0,_=>0
 | n+1,f=>S n f+f n
theorem aq:∀{n:Nat} {f g:Nat->Int},(∀ i,i<n->f i=g i)->S n f=S n g
 | 0,_,_,_=>rfl
 | n+1,f,g,h=>by
  show S n f+f n=S n g+g n
  rw [aq λi hi=>h i (by omega),h n (by omega)]
theorem eK:∀{n:Nat} {f g:Nat->Int},(∀ i,i<n->f i<=g i)->S n f<=S n g
 | 0,_,_,_=>Int.le_refl _
 | n+1,f,g,h=>Int.add_le_add (eK λi hi=>h i (by omega)) (h n (by omega))
theorem cS:∀{n:Nat},S n (λ_=>0)=0
 | 0=>rfl
 | n+1=>by show S n _+0=0;rw [cS];rfl
theorem bA (c:Int):∀{n:Nat},S n (λ_=>c)=n*c
 | 0=>by show (0:Int)=((0:Nat):Int)*c;simp
 | n+1=>by
  show S n _+c=_
  rw [bA c,Int.natCast_add,Int.add_mul]
  simp
theorem eZ {n:Nat} {f:Nat->Int} (h:∀ i,i<n->0<=f i):0<=S n f:=by
 have:=eK (f:=λ_=>0) h
 rwa [cS] at this
theorem bY (f g:Nat->Int):∀ n:Nat,S n (λi=>f i+g i)=S n f+S n g
 | 0=>rfl
 | n+1=>by
  show S n _+(f n+g n)=S n f+f n+(S n g+g n)
  rw [bY f g n];omega
theorem bR (c:Int) (f:Nat->Int):∀ n:Nat,S n (λi=>c*f i)=c*S n f
 | 0=>by show (0:Int)=c*0;simp
 | n+1=>by
  show S n _+c*f n=c*(S n f+f n)
  rw [bR c f n,Int.mul_add]
theorem i9 (c:Int) (f:Nat->Int) (n:Nat):S n (λi=>f i*c)=S n f*c:=by
 rw [Int.mul_comm,<- bR]
 exact aq λi _=>Int.mul_comm _ _
theorem cR (f:Nat->Nat->Int):∀ n m:Nat,S n (λi=>S m (λj=>f i j))=S m (λj=>S n (λi=>f i j))
 | 0,m=>by show 0=S m (λ_=>0);rw [cS]
 | n+1,m=>by
  show S n _+S m _=S m (λj=>S n (λi=>f i j)+f n j)
  rw [cR f n m,bY]
theorem eB (c:Int) (k:Nat):∀ n:Nat,S n (λi=>if i=k then c else 0)=if k<n then c else 0
 | 0=>by simp [S]
 | n+1=>by
  show S n _+(if n=k then c else 0)=_
  rw [eB c k n]
  by_cases h1:k<n
  ·rw [if_pos h1,if_neg (by omega),if_pos (by omega)];omega
  ·by_cases h2:n=k
   ·rw [if_neg h1,if_pos h2,if_pos (by omega)];omega
   ·rw [if_neg h1,if_neg h2,if_neg (by omega)];rfl
theorem qG {n:Nat} {f:Nat->Int} {s t:Nat->Nat} (h1:∀ i,i<n->s i<n) (h2:∀ k,k<n->t k<n) (h3:∀ i,i<n->t (s i)=i) (h4:∀ k,k<n->s (t k)=k):S n (λi=>f (s i))=S n f:=by
 have e1:S n (λi=>f (s i))=S n (λi=>S n (λk=>if k=s i then f k else 0)):=aq λi hi=>by
  have:S n (λk=>if k=s i then f k else 0)=S n (λk=>if k=s i then f (s i) else 0):=aq λk _=>by
   by_cases c:k=s i
   ·rw [if_pos c,if_pos c,c]
   ·rw [if_neg c,if_neg c]
  rw [this,eB,if_pos (h1 i hi)]
 rw [e1,cR]
 refine aq λk hk=>?_
 have:S n (λi=>if k=s i then f k else 0)=S n (λi=>if i=t k then f k else 0):=aq λi hi=>by
  by_cases c:i=t k
  ·rw [if_pos c,if_pos (by rw [c,h4 k hk])]
  ·rw [if_neg c,if_neg λz=>c (by rw [z,h3 i hi])]
 rw [this,eB,if_pos (h2 k hk)]
theorem gz {k n:Nat} {h:Nat->Int} {e:Nat->Nat} (h0:∀ i,i<n->0<=h i) (he:∀ j,j<k->e j<n) (inj:∀ i j,i<k->j<k->e i=e j->i=j):S k (λj=>h (e j))<=S n h:=by
 have e1:S k (λj=>h (e j))=S k (λj=>S n (λi=>if i=e j then h i else 0)):=aq λj hj=>by
  have:S n (λi=>if i=e j then h i else 0)=S n (λi=>if i=e j then h (e j) else 0):=aq λi _=>by
   by_cases c:i=e j
   ·rw [if_pos c,if_pos c,c]
   ·rw [if_neg c,if_neg c]
  rw [this,eB,if_pos (he j hj)]
 rw [e1,cR]
 refine eK λi hi=>?_
 by_cases c:∃ j,j<k/\e j=i
 ·obtain⟨j,hj,rfl⟩:=c
  have:S k (λj'=>if e j=e j' then h (e j) else 0)=S k (λj'=>if j'=j then h (e j) else 0):=aq λj' hj'=>by
   by_cases c:j'=j
   ·rw [if_pos c,if_pos (by rw [c])]
   ·rw [if_neg c,if_neg λz=>c (inj _ _ hj hj' z).symm]
  rw [this,eB,if_pos hj]
  exact Int.le_refl _
 ·have:S k (λj'=>if i=e j' then h i else 0)=S k (λ_=>0):=aq λj' hj'=>if_neg λz=>c ⟨j',hj',z.symm⟩
  rw [this,cS]
  exact h0 i hi
theorem sq_nonneg (a:Int):0<=a*a:=by
 rcases Int.le_total 0 a with h | h
 ·exact Int.mul_nonneg h h
 ·exact Int.mul_nonneg_of_nonpos_of_nonpos h h
theorem two_mul_le (a b:Int):a*b+b*a<=a*a+b*b:=by
 have:=sq_nonneg (a-b)
 have e:(a-b)*(a-b)=a*a+b*b-(a*b+b*a):=by grind
 omega
theorem sg (f:Nat->Int) (n:Nat):S n f*S n f<=n*S n (λi=>f i*f i):=by
 have h:S n (λi=>S n (λj=>f i*f j+f j*f i))<=S n (λi=>S n (λj=>f i*f i+f j*f j)):=eK λi _=>eK λj _=>two_mul_le _ _
 have e1:S n (λi=>S n (λj=>f i*f j+f j*f i))=S n f*S n f+S n f*S n f:=by
  have:∀ i,i<n->S n (λj=>f i*f j+f j*f i)=f i*S n f+f i*S n f:=λi _=>by
   rw [bY,bR,i9,Int.mul_comm (S n f)]
  rw [aq this,bY,i9]
 have e2:S n (λi=>S n (λj=>f i*f i+f j*f j))=n*S n (λi=>f i*f i)+n*S n (λi=>f i*f i):=by
  have:∀ i,i<n->S n (λj=>f i*f i+f j*f j)=n*(f i*f i)+S n (λj=>f j*f j):=λi _=>by
   rw [bY,bA]
  rw [aq this,bY,bR,bA]
 omega
theorem gA (f:Nat->Int) (m:Nat):∀ k:Nat,S (m*k) f=S k (λj=>S m (λi=>f (m*j+i)))
 | 0=>rfl
 | k+1=>by
  show _=S k _+S m (λi=>f (m*k+i))
  rw [<- gA f m k]
  have:∀ i:Nat,S (m*k+i) f=S (m*k) f+S i (λi=>f (m*k+i)):=by
   intro i
   induction i with
   | zero=>show S (m*k) f=S (m*k) f+0;omega
   | succ i ih =>
    show S (m*k+i) f+f (m*k+i)=S (m*k) f+(S i _+f (m*k+i))
    rw [ih];omega
  exact this m
theorem qH {f:Nat->Int} {m:Nat} (h:∀ i,f (i+m)=f i) (k:Nat):S (m*k) f=k*S m f:=by
 rw [gA]
 have:∀ j i:Nat,f (m*j+i)=f i:=by
  intro j
  induction j with
  | zero=>intro i;rw [Nat.mul_zero,Nat.zero_add]
  | succ j ih=>intro i;rw [show m*(j+1)+i=(m*j+i)+m by rw [Nat.mul_succ];omega,h,ih]
 rw [aq λj _=>aq λi _=>this j i,bA]
section
variable {p:Int} {w:Int->Int}
theorem dN (hp:0<p) (x:Int):(x%p).toNat<p.toNat:=by
 have h1:=Int.emod_nonneg x (show p≠0 by omega)
 have h2:=Int.emod_lt_of_pos x hp
 omega
theorem bb (hp:0<p) (x:Int):(((x%p).toNat:Nat):Int)=x%p:=by
 have h1:=Int.emod_nonneg x (show p≠0 by omega)
 omega
theorem kY {i j:Nat} (hi:(i:Int)<p) (hj:(j:Int)<p) (h:Al p i j):i=j:=by
 have:=Al.iff.mp h
 rw [Int.emod_eq_of_lt (by omega) hi,Int.emod_eq_of_lt (by omega) hj] at this
 omega
def By (p:Int) (w:Int->Int):Prop:=∀ x y:Int,Al p x y->w x=w y
theorem oo (hp:0<p) (hw:By p w) {u v:Int} (huv:Al p (u*v) 1) (k:Int):S p.toNat (λi=>w (u*i+k))=S p.toNat (λi=>w i):=by
 have e:∀ i:Nat,w (u*i+k)=(λi:Nat=>w i) ((u*i+k)%p).toNat:=λi=>by
  show _=w _
  rw [bb hp]
  exact hw _ _ (Al.rest _ _).symm
 rw [aq λi _=>e i]
 refine qG (f:=λi:Nat=>w i) (s:=λi=>((u*(i:Int)+k)%p).toNat) (t:=λj=>((v*((j:Int)-k))%p).toNat) (λi _=>dN hp _) (λj _=>dN hp _) (λi hi=>?_) (λj hj=>?_)
 ·refine kY (p:=p) (by rw [bb hp];exact Int.emod_lt_of_pos _ hp) (by omega) ?_
  rw [bb hp]
  refine (Al.rest _ _).trans ?_
  rw [bb hp]
  obtain⟨a,ha⟩:=Al.rest p (u*(i:Int)+k)
  obtain⟨b,hb⟩:=huv
  refine⟨v*a+b*i,?_⟩
  have:(u*↑i+k)%p=u*i+k+p*a:=by omega
  rw [this]
  grind
 ·refine kY (p:=p) (by rw [bb hp];exact Int.emod_lt_of_pos _ hp) (by omega) ?_
  rw [bb hp]
  refine (Al.rest _ _).trans ?_
  rw [bb hp]
  obtain⟨a,ha⟩:=Al.rest p (v*((j:Int)-k))
  obtain⟨b,hb⟩:=huv
  refine⟨u*a+b*(j-k),?_⟩
  have:(v*(↑j-k))%p=v*(j-k)+p*a:=by omega
  rw [this]
  grind
theorem Co.inv {a n:Int} (h:Co a n):∃ v,Al n (a*v) 1:=by
 obtain⟨u,v,e⟩:=h
 exact⟨u,-v,by rw [Int.mul_comm a u,Int.mul_neg];rw [Int.mul_comm n v];omega⟩
def KK (p:Int) (w:Int->Int) (y y':Nat):Int:=S p.toNat λg=>S p.toNat λx=>w ((g:Int)*((x:Int)+y+1))*w ((g:Int)*((x:Int)+y'+1))
theorem qE (hp:Pm p) (hw:By p w) (w0:w 0=0) (ws:S p.toNat (λi=>w i)=0) {y y':Nat} (hy:(y:Int)<p) (hy':(y':Int)<p):KK p w y y'<=if y'=y then p*S p.toNat (λi=>w i*w i) else 0:=by
 have h2:=hp.two
 have hpn:((p.toNat:Nat):Int)=p:=by omega
 have W0:0<=S p.toNat (λi=>w i*w i):=eZ λi _=>sq_nonneg _
 -- a row: all places,by one number
 have row:∀ g:Nat,g<p.toNat->g≠0->S p.toNat (λx=>w ((g:Int)*((x:Int)+y+1))*w ((g:Int)*((x:Int)+y'+1)))=S p.toNat (λa=>w a*w ((a:Int)+g*((y':Int)-y))):=λg hg g0=>by
  obtain⟨v,hv⟩:=(hp.co (a:=(g:Int)) λz=>by have:=Int.le_of_dvd (by omega) z;omega).inv
  have:=oo (p:=p) (w:=λz=>w z*w (z+g*((y':Int)-y))) (by omega) (λa b h=>by
   show _*_=_*_
   rw [hw a b h,hw (a+(g:Int)*((y':Int)-y)) (b+(g:Int)*((y':Int)-y)) (by obtain⟨c,hc⟩:=h;exact⟨c,by omega⟩)]) hv ((g:Int)*(y+1))
  rw [<- this]
  refine aq λx _=>?_
  show _=w _*w _
  rw [show (g:Int)*(x:Int)+(g:Int)*((y:Int)+1)=(g:Int)*((x:Int)+y+1) by grind,show (g:Int)*((x:Int)+y+1)+(g:Int)*((y':Int)-y)=(g:Int)*((x:Int)+y'+1) by grind]
 by_cases c:y'=y
 ·subst c
  rw [if_pos rfl]
  have:KK p w y' y'<=S p.toNat λg=>S p.toNat (λi=>w i*w i):=eK λg hg=>by
   by_cases g0:g=0
   ·subst g0
    have:S p.toNat (λx=>w (((0:Nat):Int)*((x:Int)+y'+1))*w (((0:Nat):Int)*((x:Int)+y'+1)))=S p.toNat λ_=>0:=aq λx _=>by
     rw [show ((0:Nat):Int)*((x:Int)+y'+1)=0 by simp,w0,Int.zero_mul]
    rw [this,cS]
    exact W0
   ·rw [row g hg g0]
    refine Int.le_of_eq (aq λa _=>?_)
    rw [show (a:Int)+(g:Int)*((y':Int)-y')=a by rw [Int.sub_self];omega]
  rw [bA,hpn] at this
  exact this
 ·rw [if_neg c]
  have e1:KK p w y y'<=S p.toNat λg=>S p.toNat (λa=>w a*w ((a:Int)+g*((y':Int)-y))):=eK λg hg=>by
   by_cases g0:g=0
   ·subst g0
    have:S p.toNat (λx=>w (((0:Nat):Int)*((x:Int)+y+1))*w (((0:Nat):Int)*((x:Int)+y'+1)))=S p.toNat λ_=>0:=aq λx _=>by
     rw [show ((0:Nat):Int)*((x:Int)+y+1)=0 by simp,w0,Int.zero_mul]
    rw [this,cS]
    refine eZ λa _=>?_
    rw [show (a:Int)+((0:Nat):Int)*((y':Int)-y)=a by simp]
    exact sq_nonneg _
   ·rw [row g hg g0]
    exact Int.le_refl _
  have e2:(S p.toNat λg=>S p.toNat (λa=>w a*w ((a:Int)+g*((y':Int)-y))))=0:=by
   rw [cR]
   have:∀ a,a<p.toNat->S p.toNat (λg=>w a*w ((a:Int)+g*((y':Int)-y)))=0:=λa _=>by
    rw [bR]
    obtain⟨v,hv⟩:=(hp.co (a:=(y':Int)-y) λz=>by
     rcases (by omega:0<(y':Int)-y∨0<(y:Int)-y') with h | h
     ·have:=Int.le_of_dvd h z;omega
     ·have:=Int.le_of_dvd h (by have:=(Int.dvd_neg).mpr z;rwa [show -((y':Int)-y)=(y:Int)-y' by omega] at this);omega).inv
    have:=oo (p:=p) (by omega) hw hv a
    rw [show S p.toNat (λg=>w ((a:Int)+g*((y':Int)-y)))=S p.toNat (λi=>w (((y':Int)-y)*i+a)) from aq λi _=>by rw [Int.add_comm,Int.mul_comm],this,ws,Int.mul_zero]
   rw [aq this,cS]
  omega
def FF (w:Int->Int) (M:Nat) (g:Int):Int:=S M λx=>S M λy=>w (g*((x:Int)+y+1))
theorem qC (hp:Pm p) (hw:By p w) (w0:w 0=0) (ws:S p.toNat (λi=>w i)=0) {M:Nat} (hM:(M:Int)<=p):S p.toNat (λg=>FF w M g*FF w M g)<=M*(M*(p*S p.toNat (λi=>w i*w i))):=by
 have h2:=hp.two
 have W0:0<=S p.toNat (λi=>w i*w i):=eZ λi _=>sq_nonneg _
 have h1:∀ g,g<p.toNat->FF w M (g:Nat)*FF w M (g:Nat)<=M*S p.toNat (λx=>S M (λy=>w ((g:Int)*((x:Int)+y+1)))*S M (λy=>w ((g:Int)*((x:Int)+y+1)))):=λg _=>by
  refine Int.le_trans (sg (λx=>S M λy=>w ((g:Int)*((x:Int)+y+1))) M) ?_
  refine Int.mul_le_mul_of_nonneg_left ?_ (by omega)
  exact gz (e:=λj=>j) (h:=λx:Nat=>S M (λy=>w ((g:Int)*((x:Int)+y+1)))*S M (λy=>w ((g:Int)*((x:Int)+y+1)))) (λi _=>sq_nonneg _) (λj hj=>by show j<_;omega) (λi j _ _ z=>z)
 refine Int.le_trans (eK h1) ?_
 rw [bR]
 refine Int.mul_le_mul_of_nonneg_left ?_ (by omega)
 -- the product of two sums,turned about
 have e1:(S p.toNat λg=>S p.toNat (λx=>S M (λy=>w ((g:Int)*((x:Int)+y+1)))*S M (λy=>w ((g:Int)*((x:Int)+y+1)))))=S M λy=>S M λy'=>KK p w y y':=by
  have a1:∀ g,g<p.toNat->S p.toNat (λx=>S M (λy=>w ((g:Int)*((x:Int)+y+1)))*S M (λy=>w ((g:Int)*((x:Int)+y+1))))=S M λy=>S M λy'=>S p.toNat λx=>w ((g:Int)*((x:Int)+y+1))*w ((g:Int)*((x:Int)+y'+1)):=λg _=>by
   have:∀ x,x<p.toNat->S M (λy=>w ((g:Int)*(((x:Nat):Int)+y+1)))*S M (λy=>w ((g:Int)*((x:Int)+y+1)))=S M λy=>S M λy'=>w ((g:Int)*((x:Int)+y+1))*w ((g:Int)*((x:Int)+y'+1)):=λx _=>by
    rw [<- i9]
    exact aq λy _=>(bR _ _ _).symm
   rw [aq this,cR]
   exact aq λy _=>cR _ _ _
  rw [aq a1,cR]
  exact aq λy _=>cR _ _ _
 rw [e1]
 have:∀ y,y<M->S M (λy'=>KK p w y y')<=p*S p.toNat (λi=>w i*w i):=λy hy=>by
  have:=eK (n:=M) λy' hy'=>qE hp hw w0 ws (y:=y) (y':=y') (by omega) (by omega)
  rw [eB,if_pos hy] at this
  exact this
 have:=eK this
 rwa [bA] at this
theorem o8 (hp:Pm p) (hw:By p w) (w0:w 0=0) (ws:S p.toNat (λi=>w i)=0) {M:Nat} (hM:(M:Int)<=p) {l:Nat} {e:Nat->Int} (he:∀ i j,i<l->j<l->Al p (e i) (e j)->i=j) (hs:∀ j,j<l->∀ z,w (e j*z)=w z):l*(FF w M 1*FF w M 1)<=M*(M*(p*S p.toNat (λi=>w i*w i))):=by
 have h2:=hp.two
 refine Int.le_trans ?_ (qC hp hw w0 ws hM)
 have a1:S l (λj=>(λg:Nat=>FF w M g*FF w M g) ((e j%p).toNat))=l*(FF w M 1*FF w M 1):=by
  rw [<- bA]
  refine aq λj hj=>?_
  have:FF w M ((e j%p).toNat:Nat)=FF w M 1:=aq λx _=>aq λy _=>by
   rw [bb (by omega),Int.one_mul,<- hs j hj ((x:Int)+y+1)]
   exact hw _ _ ((Al.rest p (e j)).mul (Al.refl p _))
  show FF w M ((e j%p).toNat:Nat)*_=_
  rw [this]
 rw [<- a1]
 refine gz (h:=λg:Nat=>FF w M g*FF w M g) (e:=λj=>(e j%p).toNat) (λi _=>sq_nonneg _) (λj _=>dN (by omega) _) λi j hi hj z=>he i j hi hj (rest_eq (by omega) z)
open Classical in
noncomputable def vv (p:Int) (es:List Nat) (q:Nat) (z:Int):Int:=if ¬p∣z/\(∀ r∈es,¬Al p (z^((p-1).toNat/r)) 1)/\Al p (z^((p-1).toNat/q)) 1 then 1 else 0
noncomputable def un (p:Int) (z:Int):Int:=vv p [] 1 z
def uu (es:List Nat) (q i:Nat):Int:=if (∀ r∈es,¬r∣i)/\q∣i then 1 else 0
theorem c8 (p:Int) (es:List Nat) (q:Nat) (z:Int):vv p es q z=0∨vv p es q z=1:=by
 unfold vv
 split
 ·exact .inr rfl
 ·exact .inl rfl
theorem b8 {p:Int} {es:List Nat} {q:Nat} {z:Int} (h:p∣z):vv p es q z=0:=if_neg λc=>c.1 h
theorem gy {p:Int} {es:List Nat} {q:Nat} {z:Int} (h:¬(¬p∣z/\(∀ r∈es,¬Al p (z^((p-1).toNat/r)) 1)/\Al p (z^((p-1).toNat/q)) 1)):vv p es q z=0:=if_neg h
theorem dC {p:Int} {es:List Nat} {q:Nat} {z:Int} (h1:¬p∣z) (h2:∀ r∈es,¬Al p (z^((p-1).toNat/r)) 1) (h3:Al p (z^((p-1).toNat/q)) 1):vv p es q z=1:=if_pos ⟨h1,h2,h3⟩
theorem i4 (p:Int) (es:List Nat) (q:Nat):By p (vv p es q):=λx y h=>by
 have e:(¬p∣x/\(∀ r∈es,¬Al p (x^((p-1).toNat/r)) 1)/\Al p (x^((p-1).toNat/q)) 1)↔(¬p∣y/\(∀ r∈es,¬Al p (y^((p-1).toNat/r)) 1)/\Al p (y^((p-1).toNat/q)) 1):=by
  have a1:p∣x↔p∣y:=⟨λz=>by have:=Int.dvd_sub z h;rwa [show x-(x-y)=y by omega] at this,λz=>by have:=Int.dvd_add h z;rwa [show x-y+y=x by omega] at this⟩
  have a2:∀ k:Nat,Al p (x^k) 1↔Al p (y^k) 1:=λk=>⟨λz=>(h.pow k).symm.trans z,λz=>(h.pow k).trans z⟩
  rw [a1,a2]
  exact⟨fun⟨b1,b2,b3⟩=>⟨b1,λr hr z=>b2 r hr ((a2 _).mpr z),b3⟩,fun⟨b1,b2,b3⟩=>⟨b1,λr hr z=>b2 r hr ((a2 _).mp z),b3⟩⟩
 by_cases c:(¬p∣x/\(∀ r∈es,¬Al p (x^((p-1).toNat/r)) 1)/\Al p (x^((p-1).toNat/q)) 1)
 ·have c':=e.mp c
  rw [dC c.1 c.2.1 c.2.2,dC c'.1 c'.2.1 c'.2.2]
 ·rw [gy c,gy λz=>c (e.mpr z)]
theorem fC (hp:Pm p) {z:Int} (h:¬p∣z):un p z=1:=dC h (λr hr=>by cases hr) (by rw [Nat.div_one];exact lu hp h)
theorem pow_one {g:Int} {n:Nat} (o:Ord p g n) {r:Nat} (r0:0<r) (hr:r∣n) (i:Nat):Al p ((g^i)^(n/r)) 1↔r∣i:=by
 obtain⟨t,ht⟩:=hr
 have n0:=o.pos
 have t0:0<t:=by
  rcases Nat.eq_zero_or_pos t with z | z
  ·subst z;omega
  ·exact z
 have e:n/r=t:=by rw [ht,Nat.mul_div_cancel_left _ r0]
 rw [e,<- Pw.pow_mul]
 constructor
 ·intro h
  have:=o.dv _ h
  rw [ht] at this
  exact Nat.dvd_of_mul_dvd_mul_right t0 this
 ·rintro⟨k,rfl⟩
  rw [show r*k*t=n*k by rw [ht,Nat.mul_assoc,Nat.mul_assoc,Nat.mul_comm k t]]
  exact aJ o.one
theorem mI (hp:Pm p) {g:Int} (o:Ord p g (p-1).toNat) (cg:Co g p) {es:List Nat} {q:Nat} (he:∀ r∈es,0<r/\r∣(p-1).toNat) (q0:0<q) (hq:q∣(p-1).toNat) (i:Nat):vv p es q (g^i)=uu es q i:=by
 have nd:¬p∣g^i:=hp.unit (cg.pow i)
 have a1:=pow_one o q0 hq i
 unfold uu
 by_cases c:(∀ r∈es,¬r∣i)/\q∣i
 ·rw [if_pos c]
  exact dC nd (λr hr z=>c.1 r hr ((pow_one o (he r hr).1 (he r hr).2 i).mp z)) (a1.mpr c.2)
 ·rw [if_neg c]
  exact gy fun⟨_,b2,b3⟩=>c ⟨λr hr z=>b2 r hr ((pow_one o (he r hr).1 (he r hr).2 i).mpr z),a1.mp b3⟩
def cc (es:List Nat) (e:Nat):Int:=S e λk=>if ∀ r∈es,¬r∣k then 1 else 0
theorem qv {es:List Nat} {e q:Nat} (q0:0<q) (hd:∀ r∈es,r∣e) (hc:∀ r∈es,Nat.Coprime r q) (l:Nat):S (q*e*l) (uu es q)=l*cc es e:=by
 rw [qH (m:=q*e) (λi=>by
  have a1:q∣i+q*e↔q∣i:=(Nat.dvd_add_iff_left ⟨e,rfl⟩).symm
  have a2:(∀ r∈es,¬r∣i+q*e)↔∀ r∈es,¬r∣i:=by
   have:∀ r∈es,(r∣i+q*e↔r∣i):=λr hr=>(Nat.dvd_add_iff_left (Nat.dvd_trans (hd r hr) ⟨q,Nat.mul_comm _ _⟩)).symm
   exact⟨λh r hr z=>h r hr ((this r hr).mpr z),λh r hr z=>h r hr ((this r hr).mp z)⟩
  show (if _ then (1:Int) else 0)=if _ then (1:Int) else 0
  simp only [a1,a2])]
 congr 1
 rw [gA]
 refine aq λk _=>?_
 have:S q (λi=>uu es q (q*k+i))=S q (λi=>if i=0 then uu es q (q*k) else 0):=aq λi hi=>by
  by_cases c:i=0
  ·subst c;rw [if_pos rfl];rfl
  ·rw [if_neg c]
   refine if_neg λz=>?_
   have:=(Nat.dvd_add_iff_right (m:=q*k) ⟨k,rfl⟩).mpr z.2
   have:=Nat.le_of_dvd (by omega) this
   omega
 rw [this,eB,if_pos q0]
 have a1:(∀ r∈es,¬r∣q*k)↔∀ r∈es,¬r∣k:=by
  have:∀ r∈es,(r∣q*k↔r∣k):=λr hr=>⟨λz=>(hc r hr).dvd_of_dvd_mul_left z,λz=>Nat.dvd_trans z ⟨q,Nat.mul_comm _ _⟩⟩
  exact⟨λh r hr z=>h r hr ((this r hr).mpr z),λh r hr z=>h r hr ((this r hr).mp z)⟩
 show (if _ then (1:Int) else 0)=if _ then (1:Int) else 0
 have a2:q∣q*k:=⟨k,rfl⟩
 simp only [a1,a2,and_true]
theorem jK (hp:Pm p):S p.toNat (λi=>un p i)=p-1:=by
 have h2:=hp.two
 have:S p.toNat (λi=>un p i+if i=0 then 1 else 0)=S p.toNat (λ_=>1):=aq λi hi=>by
  by_cases c:i=0
  ·subst c
   rw [if_pos rfl,show un p ((0:Nat):Int)=0 from b8 ⟨0,by simp⟩];rfl
  ·rw [if_neg c,fC hp λz=>by have:=Int.le_of_dvd (by omega) z;omega];rfl
 rw [bY,eB,bA,if_pos (by omega)] at this
 omega
theorem qw (hp:Pm p) {es:List Nat} {e q l:Nat} (hn:(p-1).toNat=q*e*l) (q0:0<q) (hd:∀ r∈es,0<r/\r∣e) (hc:∀ r∈es,Nat.Coprime r q):S p.toNat (λi=>vv p es q i)=l*cc es e:=by
 have h2:=hp.two
 obtain⟨g,g1,gp,o⟩:=gJ hp
 have cg:Co g p:=hp.co λz=>by have:=Int.le_of_dvd (by omega) z;omega
 have he:∀ r∈es,0<r/\r∣(p-1).toNat:=λr hr=>⟨(hd r hr).1,by rw [hn];exact Nat.dvd_trans (hd r hr).2 ⟨q*l,by rw [Nat.mul_comm q e,Nat.mul_assoc]⟩⟩
 have hq:q∣(p-1).toNat:=⟨e*l,by rw [hn,Nat.mul_assoc]⟩
 have U:=qv q0 (λr hr=>(hd r hr).2) hc l
 rw [<- hn] at U
 have cst:∀ i:Nat,(((g^i%p).toNat:Nat):Int)=g^i%p:=λi=>bb (by omega) _
 have inj:∀ i j,i<(p-1).toNat->j<(p-1).toNat->(g^i%p).toNat=(g^j%p).toNat->i=j:=λi j hi hj z=>o.inj cg hi hj (rest_eq (by omega) z)
 have b1:S (p-1).toNat (uu es q)<=S p.toNat (λi=>vv p es q i):=by
  have:=gz (n:=p.toNat) (h:=λi:Nat=>vv p es q i) (e:=λj=>(g^j%p).toNat) (λi _=>by rcases c8 p es q i with z | z<;>rw [z]<;>decide) (λj _=>dN (by omega) _) inj
  refine Int.le_trans (Int.le_of_eq (aq λi _=>?_)) this
  show _=vv p es q ((g^i%p).toNat:Nat)
  rw [cst,i4 p es q _ _ (Al.rest p (g^i)),mI hp o cg he q0 hq]
 have b2:S (p-1).toNat (λi=>1+(-1)*uu es q i)<=S p.toNat (λi=>un p i+(-1)*vv p es q i):=by
  have:=gz (n:=p.toNat) (h:=λi:Nat=>un p i+(-1)*vv p es q i) (e:=λj=>(g^j%p).toNat) (λi _=>by
   by_cases c:p∣((i:Nat):Int)
   ·rw [show vv p es q i=0 from b8 c,show un p i=0 from b8 c];decide
   ·rw [fC hp c]
    rcases c8 p es q i with z | z<;>rw [z]<;>decide) (λj _=>dN (by omega) _) inj
  refine Int.le_trans (Int.le_of_eq (aq λi _=>?_)) this
  show _=un p ((g^i%p).toNat:Nat)+(-1)*vv p es q ((g^i%p).toNat:Nat)
  rw [cst,i4 p es q _ _ (Al.rest p (g^i)),mI hp o cg he q0 hq,un,i4 p [] 1 _ _ (Al.rest p (g^i))]
  have:vv p [] 1 (g^i)=1:=fC hp (hp.unit (cg.pow i))
  rw [this]
 rw [bY,bA,bR,bY,bR,jK hp] at b2
 rw [U] at b1 b2
 omega
theorem kN {l c:Int} (hl:0<l) {X Y:Int} (h:l*(l*l*(X*X))<=l*(l*l*Y)):X*X<=Y:=by
 have:=Int.le_of_mul_le_mul_left h hl
 exact Int.le_of_mul_le_mul_left this (Int.mul_pos hl hl)
theorem pq {a b:Int} (hb:0<=b) (h:a*a<=b*b):-b<=a/\a<=b:=by
 constructor
 ·rcases (by omega:a < -b ∨ -b<=a) with z | z
  ·exfalso
   have h1:b*b<(-a)*(-a):=Int.lt_of_le_of_lt (Int.mul_le_mul_of_nonneg_left (show b <= -a by omega) hb) (Int.mul_lt_mul_of_pos_right (show b < -a by omega) (by omega))
   rw [Int.neg_mul_neg] at h1
   omega
  ·exact z
 ·rcases (by omega:b<a∨a<=b) with z | z
  ·exfalso
   have h1:b*b<a*a:=Int.lt_of_le_of_lt (Int.mul_le_mul_of_nonneg_left (show b<=a by omega) hb) (Int.mul_lt_mul_of_pos_right z (by omega))
   omega
  ·exact z
noncomputable def NN (p:Int) (es:List Nat) (q M:Nat):Int:=S M λx=>S M λy=>vv p es q ((x:Int)+y+1)
theorem near (hp:Pm p) {es:List Nat} {e q l M:Nat} (hn:(p-1).toNat=q*e*l) (q0:0<q) (e0:0<e) (hd:∀ r∈es,0<r/\r∣e) (hc:∀ r∈es,Nat.Coprime r q) (hM:2*(M:Int)<=p) {R:Int} (R0:0<=R) (hR:p*cc es e<=R*R) (c0:0<=cc es e):-((q:Int)*e*(R*M))<=(q:Int)*e*NN p es q M-cc es e*(M*M)/\(q:Int)*e*NN p es q M-cc es e*(M*M)<=(q:Int)*e*(R*M):=by
 have h2:=hp.two
 have hni:p-1=(q:Int)*e*l:=by
  have:(((p-1).toNat:Nat):Int)=((q*e*l:Nat):Int):=by rw [hn]
  rw [Int.natCast_mul,Int.natCast_mul] at this
  omega
 have l0:0<(l:Int):=by
  rcases Nat.eq_zero_or_pos l with z | z
  ·subst z;rw [Nat.mul_zero] at hn;omega
  ·omega
 have m0:0<(q:Int)*e:=Int.mul_pos (by omega) (by omega)
 have V:=qw hp hn q0 hd hc
 obtain⟨g,g1,gp,o⟩:=gJ hp
 have cg:Co g p:=hp.co λz=>by have:=Int.le_of_dvd (by omega) z;omega
 generalize cc es e=c at V hR c0 ⊢
 generalize hm:(q:Int)*e=m at hni m0 ⊢
 -- the difference from what is due
 let w:Int->Int:=λz=>(p-1)*vv p es q z+(-(c*l))*un p z
 have hw:By p w:=λx y h=>by
  show _*_+_*_=_*_+_*_
  rw [i4 p es q x y h,un,i4 p [] 1 x y h,un]
 have w0:w 0=0:=by
  show _*_+_*_=_
  rw [show vv p es q 0=0 from b8 ⟨0,by simp⟩,show un p 0=0 from b8 ⟨0,by simp⟩,Int.mul_zero,Int.mul_zero];rfl
 have ws:S p.toNat (λi=>w i)=0:=by
  show S p.toNat (λi=>(p-1)*vv p es q i+(-(c*l))*un p i)=0
  rw [bY,bR,bR,V,jK hp]
  grind
 have W:S p.toNat (λi=>w i*w i)<=(p-1)*(p-1)*(c*l):=by
  have:S p.toNat (λi=>w i*w i)=S p.toNat (λi=>((p-1)*(p-1)-2*(p-1)*(c*l))*vv p es q i+(c*l)*(c*l)*un p i):=aq λi _=>by
   show ((p-1)*vv p es q i+(-(c*l))*un p i)*((p-1)*vv p es q i+(-(c*l))*un p i)=_
   by_cases z:p∣((i:Nat):Int)
   ·rw [show vv p es q i=0 from b8 z,show un p i=0 from b8 z];simp
   ·rw [fC hp z]
    rcases c8 p es q i with y | y<;>rw [y]<;>grind
  rw [this,bY,bR,bR,V,jK hp]
  have k1:0<=(p-1)*((c*l)*(c*l)):=Int.mul_nonneg (by omega) (sq_nonneg _)
  have k2:((p-1)*(p-1)-2*(p-1)*(c*l))*(l*c)+(c*l)*(c*l)*(p-1)=(p-1)*(p-1)*(c*l)-(p-1)*((c*l)*(c*l)):=by grind
  omega
 have F:FF w M 1=(p-1)*NN p es q M-c*l*(M*M):=by
  have a1:FF w M 1=S M λx=>S M λy=>(p-1)*vv p es q ((x:Int)+y+1)+(-(c*l)):=aq λx hx=>aq λy hy=>by
   rw [Int.one_mul]
   show (p-1)*_+(-(c*l))*un p _=_
   rw [fC hp λz=>by have:=Int.le_of_dvd (by omega) z;omega,Int.mul_one]
  rw [a1]
  have a2:∀ x,x<M->S M (λy=>(p-1)*vv p es q (((x:Nat):Int)+y+1)+(-(c*l)))=(p-1)*S M (λy=>vv p es q ((x:Int)+y+1))+M*(-(c*l)):=λx _=>by
   rw [bY,bR,bA]
  rw [aq a2,bY,bR,bA]
  show (p-1)*NN p es q M+_=_
  grind
 have one:=o8 (p:=p) hp hw w0 ws (M:=M) (by omega) (l:=l) (e:=λj=>g^(q*e*j)) (λi j hi hj z=>by
  have:=o.inj cg (i:=q*e*i) (j:=q*e*j) (by rw [hn];exact Nat.mul_lt_mul_of_pos_left hi (Nat.mul_pos q0 e0)) (by rw [hn];exact Nat.mul_lt_mul_of_pos_left hj (Nat.mul_pos q0 e0)) z
  exact Nat.eq_of_mul_eq_mul_left (Nat.mul_pos q0 e0) this) (λj hj z=>by
  have key:∀ r:Nat,0<r->r∣q*e->∀ z:Int,Al p ((g^(q*e*j)*z)^((p-1).toNat/r)) 1↔Al p (z^((p-1).toNat/r)) 1:=λr r0 hr z=>by
   have h1:=(pow_one o r0 (by rw [hn];exact Nat.dvd_trans hr ⟨l,rfl⟩) (q*e*j)).mpr (Nat.dvd_trans hr ⟨j,rfl⟩)
   rw [Pw.mul_pow]
   have h3:=h1.mul (Al.refl p (z^((p-1).toNat/r)))
   rw [Int.one_mul] at h3
   exact⟨λk=>h3.symm.trans k,λk=>h3.trans k⟩
  have nd:p∣g^(q*e*j)*z↔p∣z:=⟨λk=>hp.or k (hp.unit (cg.pow _)),λk=>Int.dvd_mul_of_dvd_right k⟩
  have same:∀(fs:List Nat) (t:Nat),(∀ r∈fs,0<r/\r∣q*e)->0<t->t∣q*e->vv p fs t (g^(q*e*j)*z)=vv p fs t z:=λfs t hf t0 ht=>by
   by_cases k:(¬p∣z/\(∀ r∈fs,¬Al p (z^((p-1).toNat/r)) 1)/\Al p (z^((p-1).toNat/t)) 1)
   ·rw [dC k.1 k.2.1 k.2.2,dC (λy=>k.1 (nd.mp y)) (λr hr y=>k.2.1 r hr ((key r (hf r hr).1 (hf r hr).2 z).mp y)) ((key t t0 ht z).mpr k.2.2)]
   ·rw [gy k,gy λy=>k ⟨λx=>y.1 (nd.mpr x),λr hr x=>y.2.1 r hr ((key r (hf r hr).1 (hf r hr).2 z).mpr x),(key t t0 ht z).mp y.2.2⟩]
  show _*_+_*_=_*_+_*_
  rw [same es q (λr hr=>⟨(hd r hr).1,Nat.dvd_trans (hd r hr).2 ⟨q,Nat.mul_comm _ _⟩⟩) q0 ⟨e,rfl⟩,un,same [] 1 (λr hr=>by cases hr) Nat.one_pos (Nat.one_dvd _),un])
 rw [F] at one
 have X:(p-1)*NN p es q M-c*l*(M*M)=l*(m*NN p es q M-c*(M*M)):=by rw [hni];grind
 rw [X] at one
 have bnd:(l:Int)*((l:Int)*l*((m*NN p es q M-c*(M*M))*(m*NN p es q M-c*(M*M))))<=(l:Int)*((l:Int)*l*((m*(R*M))*(m*(R*M)))):=by
  have b1:(M:Int)*(M*(p*S p.toNat (λi=>w i*w i)))<=(M:Int)*(M*(p*((p-1)*(p-1)*(c*l)))):=Int.mul_le_mul_of_nonneg_left (Int.mul_le_mul_of_nonneg_left (Int.mul_le_mul_of_nonneg_left W (by omega)) (by omega)) (by omega)
  have b2:(M:Int)*(M*(p*((p-1)*(p-1)*(c*l))))=(M*m*l)*(M*m*l)*l*(p*c):=by rw [hni];grind
  have b3:(M*m*l)*(M*m*l)*l*(p*c)<=(M*m*l)*(M*m*l)*l*(R*R):=Int.mul_le_mul_of_nonneg_left hR (Int.mul_nonneg (sq_nonneg _) (by omega))
  have b4:(l:Int)*((l:Int)*l*((m*(R*M))*(m*(R*M))))=(M*m*l)*(M*m*l)*l*(R*R):=by grind
  have b5:(l:Int)*((l:Int)*l*((m*NN p es q M-c*(M*M))*(m*NN p es q M-c*(M*M))))=l*(l*(m*NN p es q M-c*(M*M))*(l*(m*NN p es q M-c*(M*M)))):=by grind
  omega
 exact pq (Int.mul_nonneg (by omega) (Int.mul_nonneg R0 (by omega))) (kN (c:=c) l0 bnd)
def dJ:List Nat->Nat
 | []=>1
 | q::l=>q*dJ l
def bJ (f:Nat->Int):List Nat->Int
 | []=>0
 | q::l=>f q+bJ f l
def Ch:Nat->List Nat->Prop
 | _,[]=>True
 | b,t::T=>(∀ q,Nm q->b<q->t<=q)/\Ch t T
theorem lb {f:Nat->Int} (f0:∀ q,0<=f q) (fa:∀ s t,0<s->s<=t->f t<=f s):∀(T:List Nat) (b:Nat) (l:List Nat),Ch b T->l.Pairwise (·<·)->(∀ q∈l,Nm q/\b<q)->l.length<=T.length->(∀ t∈T,0<t)->bJ f l<=bJ f T
 | [],_,[],_,_,_,_,_=>Int.le_refl _
 | [],_,_::_,_,_,_,h,_=>absurd h (by simp)
 | t::T,b,[],_,_,_,_,ht=>by
  have:∀ T:List Nat,0<=bJ f T:=λT=>by
   induction T with
   | nil=>exact Int.le_refl _
   | cons t T ih=>exact Int.add_nonneg (f0 t) ih
  exact this (t::T)
 | t::T,b,q::l,⟨c1,c2⟩,hl,hq,hlen,ht=>by
  obtain⟨l1,l2⟩:=List.pairwise_cons.mp hl
  have tq:=c1 q (hq q (List.mem_cons_self ..)).1 (hq q (List.mem_cons_self ..)).2
  have:=lb f0 fa T t l c2 l2 (λx hx=>⟨(hq x (List.mem_cons_of_mem _ hx)).1,Nat.lt_of_le_of_lt tq (l1 x hx)⟩) (by simpa using hlen) (λx hx=>ht x (List.mem_cons_of_mem _ hx))
  have:=fa t q (ht t (List.mem_cons_self ..)) tq
  show f q+bJ f l<=f t+bJ f T
  omega
theorem jR:∀(T:List Nat) (b:Nat) (l:List Nat),Ch b T->l.Pairwise (·<·)->(∀ q∈l,Nm q/\b<q)->T.length<=l.length->dJ T<=dJ l
 | [],_,l,_,_,hq,_=>by
  have:∀ l:List Nat,(∀ q∈l,Nm q)->1<=dJ l:=λl=>by
   induction l with
   | nil=>intro _;exact Nat.le_refl _
   | cons q l ih =>
    intro h
    have h1:=(h q (List.mem_cons_self ..)).1
    exact Nat.mul_pos (by omega) (ih λx hx=>h x (List.mem_cons_of_mem _ hx))
  exact this l λq h=>(hq q h).1
 | t::T,b,[],_,_,_,h=>absurd h (by simp)
 | t::T,b,q::l,⟨c1,c2⟩,hl,hq,hlen=>by
  obtain⟨l1,l2⟩:=List.pairwise_cons.mp hl
  have tq:=c1 q (hq q (List.mem_cons_self ..)).1 (hq q (List.mem_cons_self ..)).2
  exact Nat.mul_le_mul tq (jR T t l c2 l2 (λx hx=>⟨(hq x (List.mem_cons_of_mem _ hx)).1,Nat.lt_of_le_of_lt tq (l1 x hx)⟩) (by simpa using hlen))
theorem eF {q d:Nat} (h:Nm q) (hd:2<=d) (hq:d<q):¬d∣q:=h.2 d hd hq
theorem ou:Ch 4 [5,7,11,13,17,19,23,29]:=by
 have key:∀ q,Nm q->5<q->¬2∣q/\¬3∣q/\¬5∣q:=λq h c=>⟨eF h (by omega) (by omega),eF h (by omega) (by omega),eF h (by omega) (by omega)⟩
 refine⟨λq _ b=>b,λq h b=>?_,λq h b=>?_,λq h b=>?_,λq h b=>?_,λq h b=>?_,λq h b=>?_,λq h b=>?_,True.intro⟩ <;>
 ·have:=key q h (by omega)
  rcases (by omega:q%2=0∨q%2=1) with z | z
  ·omega
  ·rcases (by omega:q=7∨q=9∨q=11∨q=13∨q=15∨q=17∨q=19∨q=21∨q=23∨q=25∨q=27∨29<=q) with z | z | z | z | z | z | z | z | z | z | z | z<;>omega
theorem iV {n:Nat}:∀{l:List Nat},l.Pairwise (·<·)->(∀ q∈l,Nm q/\q∣n)->dJ l∣n
 | [],_,_=>Nat.one_dvd _
 | q::l,hl,hq=>by
  obtain⟨l1,l2⟩:=List.pairwise_cons.mp hl
  refine Nat.Coprime.mul_dvd_of_dvd_of_dvd ?_ (hq q (List.mem_cons_self ..)).2 (iV l2 λx hx=>hq x (List.mem_cons_of_mem _ hx))
  have nq:=(hq q (List.mem_cons_self ..)).1
  have:∀ m:List Nat,(∀ x∈m,Nm x/\q<x)->Nat.Coprime q (dJ m):=λm=>by
   induction m with
   | nil=>intro _;exact Nat.coprime_one_right q
   | cons x m ih =>
    intro h
    have hx:=h x (List.mem_cons_self ..)
    exact Nat.Coprime.mul_right (nq.co (hx.1.2 q nq.1 hx.2)) (ih λy hy=>h y (List.mem_cons_of_mem _ hy))
  exact this l λx hx=>⟨(hq x (List.mem_cons_of_mem _ hx)).1,l1 x hx⟩
theorem j9 {f g:Nat->Int}:∀{l:List Nat},(∀ q∈l,f q<=g q)->bJ f l<=bJ g l
 | [],_=>Int.le_refl _
 | q::l,h=>Int.add_le_add (h q (List.mem_cons_self ..)) (j9 λx hx=>h x (List.mem_cons_of_mem _ hx))
theorem i3 (c:Int) (f:Nat->Int):∀ l:List Nat,bJ (λq=>c+f q) l=l.length*c+bJ f l
 | []=>by show (0:Int)=((0:Nat):Int)*c+0;simp
 | q::l=>by
  show c+f q+bJ _ l=(((l.length+1:Nat):Int))*c+(f q+bJ f l)
  rw [i3 c f l,Int.natCast_add,Int.add_mul]
  simp
  omega
theorem ja (M:Nat) (f:Nat->Nat->Int):∀ l:List Nat,S M (λx=>bJ (f x) l)=bJ (λq=>S M λx=>f x q) l
 | []=>cS
 | q::l=>by
  show S M (λx=>f x q+bJ (f x) l)=_
  rw [bY,ja M f l];rfl
theorem one_le {f:Nat->Int} (h0:∀ q,0<=f q):∀{l:List Nat} {q:Nat},q∈l->1<=f q->1<=bJ f l
 | x::l,q,h,h1=>by
  have s0:∀ l:List Nat,0<=bJ f l:=λl=>by
   induction l with
   | nil=>exact Int.le_refl _
   | cons x l ih=>exact Int.add_nonneg (h0 x) ih
  rcases List.mem_cons.mp h with z | z
  ·have:=s0 l
   show 1<=f x+bJ f l
   rw [<- z];omega
  ·have:=one_le h0 z h1
   have:=h0 x
   show 1<=f x+bJ f l
   omega
open Classical in
noncomputable def fL (n:Nat):List Nat:=(List.range (n+1)).filter λq=>decide (5<=q/\Nm q/\q∣n)
open Classical in
theorem bZ {n:Nat} (n0:0<n) {q:Nat}:q∈fL n↔5<=q/\Nm q/\q∣n:=by
 unfold fL
 rw [List.mem_filter,List.mem_range,decide_eq_true_iff]
 exact⟨λh=>h.2,λh=>⟨by have:=Nat.le_of_dvd n0 h.2.2;omega,h⟩⟩
theorem fm (n:Nat):(fL n).Pairwise (·<·):=List.Pairwise.filter _ List.pairwise_lt_range
theorem gb (hp:Pm p) {M:Nat} (hM:(M:Int)=4000000) (h9:p<=10^9) (h8:8000000<=p) {es:List Nat} {e:Nat} {R c:Int} (e0:0<e) (hd:∀ r∈es,0<r/\r∣e) (he:e∣(p-1).toNat) (h2n:2∣(p-1).toNat)
  (hc:∀ q,Nm q->5<=q->(∀ r∈es,Nat.Coprime r q)/\Nat.Coprime q e) (hm:∀ q,Nm q->q∣(p-1).toNat->q∈es∨5<=q) (hcc:cc es e=c) (c0:0<=c) (R0:0<=R) (hR:10^9*c<=R*R)
  (num:e*(7*(R*4000000)+bJ (λq=>c*16000000000000/((q:Int)*e)) [5,7,11,13,17,19,23])<c*16000000000000-e*(R*4000000))
  (no:∀ z:Int,1<=z->z<8000000->¬Ord p z (p-1).toNat):False:=by
 have h2:=hp.two
 generalize hN:(p-1).toNat=n at *
 have n0:0<n:=by omega
 have hR':p*cc es e<=R*R:=by
  rw [hcc]
  exact Int.le_trans (Int.mul_le_mul_of_nonneg_right h9 c0) hR
 -- those without a full one
 have L7:(fL n).length<=7:=by
  rcases (by omega:(fL n).length<=7∨8<=(fL n).length) with z | z
  ·exact z
  ·exfalso
   have a1:=jR [5,7,11,13,17,19,23,29] 4 (fL n) ou (fm n) (λq hq=>⟨((bZ n0).mp hq).2.1,((bZ n0).mp hq).1⟩) z
   have two:Nm 2:=⟨by omega,λd d2 dl=>by omega⟩
   have a2:=iV (n:=n) (l:=2::fL n) (List.pairwise_cons.mpr ⟨λq hq=>by have:=((bZ n0).mp hq).1;omega,fm n⟩) λq hq=>by
    rcases List.mem_cons.mp hq with rfl | hq
    ·exact⟨two,h2n⟩
    ·exact ((bZ n0).mp hq).2
   have a3:=Nat.le_of_dvd n0 a2
   have a4:dJ [5,7,11,13,17,19,23,29]=1078282205:=by decide
   rw [a4] at a1
   have a5:dJ (2::fL n)=2*dJ (fL n):=rfl
   omega
 have N1:=near (q:=1) (es:=es) (e:=e) (l:=n/e) (M:=M) hp (by rw [hN,Nat.one_mul,Nat.mul_div_cancel' he]) Nat.one_pos e0 hd (λr _=>Nat.coprime_one_right r) (by omega) R0 hR' (by rw [hcc];exact c0)
 rw [hcc] at N1
 have Nq:∀ q∈fL n,NN p es q M<=R*4000000+c*16000000000000/((q:Int)*e):=λq hq=>by
  obtain⟨q5,qn,qd⟩:=(bZ n0).mp hq
  obtain⟨k1,k2⟩:=hc q qn q5
  obtain⟨l,hl⟩:=Nat.Coprime.mul_dvd_of_dvd_of_dvd k2 qd he
  have a:=(near (q:=q) (es:=es) (e:=e) (l:=l) (M:=M) hp (by rw [hN];exact hl) (by omega) e0 hd k1 (by omega) R0 hR' (by rw [hcc];exact c0)).2
  rw [hcc] at a
  have m0:0<(q:Int)*e:=Int.mul_pos (by omega) (by omega)
  have:(NN p es q M-R*4000000)<=c*16000000000000/((q:Int)*e):=by
   refine Int.le_ediv_of_mul_le m0 ?_
   rw [Int.sub_mul,Int.mul_comm _ ((q:Int)*e),Int.mul_comm (R*4000000) ((q:Int)*e)]
   have e2:c*((M:Int)*(M:Int))=c*16000000000000:=by rw [hM];congr 1
   have e3:(q:Int)*e*(R*(M:Int))=(q:Int)*e*(R*4000000):=by rw [hM]
   omega
  omega
 have sum1:NN p es 1 M<=bJ (λq=>NN p es q M) (fL n):=by
  have e1:bJ (λq=>NN p es q M) (fL n)=S M λx=>S M λy=>bJ (λq=>vv p es q ((x:Int)+y+1)) (fL n):=by
   have a:∀ x,x<M->S M (λy=>bJ (λq=>vv p es q (((x:Nat):Int)+y+1)) (fL n))=bJ (λq=>S M λy=>vv p es q ((x:Int)+y+1)) (fL n):=λx _=>ja M (λy q=>vv p es q ((x:Int)+y+1)) (fL n)
   rw [aq a,ja M (λx q=>S M λy=>vv p es q ((x:Int)+y+1)) (fL n)]
   rfl
  rw [e1]
  refine eK λx hx=>eK λy hy=>?_
  have v0:∀ q,0<=vv p es q ((x:Int)+y+1):=λq=>by rcases c8 p es q ((x:Int)+y+1) with z | z<;>rw [z]<;>decide
  rcases c8 p es 1 ((x:Int)+y+1) with z | z
  ·rw [z]
   have:∀ l:List Nat,0<=bJ (λq=>vv p es q ((x:Int)+y+1)) l:=λl=>by
    induction l with
    | nil=>exact Int.le_refl _
    | cons t T ih=>exact Int.add_nonneg (v0 t) ih
   exact this _
  ·rw [z]
   have nd:¬p∣(x:Int)+y+1:=λk=>by rw [b8 k] at z;cases z
   have nr:∀ r∈es,¬Al p (((x:Int)+y+1)^((p-1).toNat/r)) 1:=λr hr k=>by
    rw [gy λw=>w.2.1 r hr k] at z;cases z
   have no1:=no ((x:Int)+y+1) (by omega) (by omega)
   by_cases k:∃ q,Nm q/\q∣n/\Al p (((x:Int)+y+1)^(n/q)) 1
   ·obtain⟨q,k1,k2,k3⟩:=k
    have hq:q∈fL n:=(bZ n0).mpr ⟨by
     rcases hm q k1 k2 with w | w
     ·exact absurd (by rw [hN];exact k3) (nr q w)
     ·exact w,k1,k2⟩
    exact one_le v0 hq (Int.le_of_eq (dC nd nr (by rw [hN];exact k3)).symm)
   ·exact absurd (l6 n0 (by rw [<- hN];exact lu hp nd) λq k1 k2 k3=>k ⟨q,k1,k2,k3⟩) no1
 have sum2:=j9 Nq
 rw [i3] at sum2
 have sum3:=lb (f:=λq=>c*16000000000000/((q:Int)*e)) (λq=>Int.ediv_nonneg (by omega) (Int.mul_nonneg (by omega) (by omega))) (λs t s0 st=>by
  show c*16000000000000/((t:Int)*e)<=c*16000000000000/((s:Int)*e)
  have s1:0<(s:Int)*e:=Int.mul_pos (by omega) (by omega)
  have t1:(s:Int)*e<=(t:Int)*e:=Int.mul_le_mul_of_nonneg_right (by omega) (by omega)
  refine Int.le_ediv_of_mul_le s1 ?_
  refine Int.le_trans (Int.mul_le_mul_of_nonneg_left t1 (Int.ediv_nonneg (by omega) (by omega))) ?_
  exact Int.ediv_mul_le _ (by omega)) [5,7,11,13,17,19,23] 4 (fL n) (by
   have:=ou
   exact⟨this.1,this.2.1,this.2.2.1,this.2.2.2.1,this.2.2.2.2.1,this.2.2.2.2.2.1,this.2.2.2.2.2.2.1,True.intro⟩) (fm n) (λq hq=>⟨((bZ n0).mp hq).2.1,((bZ n0).mp hq).1⟩) L7 (by decide)
 have len:((fL n).length:Int)*(R*4000000)<=7*(R*4000000):=Int.mul_le_mul_of_nonneg_right (by omega) (by omega)
 have tot:NN p es 1 M<=7*(R*4000000)+bJ (λq=>c*16000000000000/((q:Int)*e)) [5,7,11,13,17,19,23]:=by omega
 have tot2:(e:Int)*NN p es 1 M<=e*(7*(R*4000000)+bJ (λq=>c*16000000000000/((q:Int)*e)) [5,7,11,13,17,19,23]):=Int.mul_le_mul_of_nonneg_left tot (by omega)
 have n1:=N1.1
 have e2:c*((M:Int)*(M:Int))=c*16000000000000:=by rw [hM];congr 1
 have e3:((1:Nat):Int)*e*(R*(M:Int))=e*(R*4000000):=by rw [show ((1:Nat):Int)=1 from rfl,Int.one_mul,hM]
 have e4:((1:Nat):Int)*e*NN p es 1 M=e*NN p es 1 M:=by rw [show ((1:Nat):Int)=1 from rfl,Int.one_mul]
 rw [e2,e3,e4] at n1
 omega
theorem LF.small (hp:Pm p) (h9:p<=10^9) {g:Int} (h:LF p g):g<=8000000:=by
 have h2:=hp.two
 have g1:=h.one
 have gp:=h.lt
 rcases (by omega:g<=8000000∨8000000<g) with z | z
 ·exact z
 exfalso
 have no:∀ z:Int,1<=z->z<8000000->¬Ord p z (p-1).toNat:=λx x1 x2=>h.no x x1 (by omega)
 have odd:¬(2:Int)∣p:=hp.no 2 (by omega) (by omega)
 have h2n:2∣(p-1).toNat:=by omega
 by_cases c:3∣(p-1).toNat
 ·refine gb (M:=4000000) (hM:=rfl) (es:=[2,3]) (e:=6) (R:=44722) (c:=2) hp h9 (by omega) (by omega) (by decide) (Nat.Coprime.mul_dvd_of_dvd_of_dvd (by decide) h2n c) h2n (λq hq q5=>?_) (λq hq hd=>?_) (by decide) (by decide) (by decide) (by decide) (by decide) no
  ·have q2:=eF hq (d:=2) (by omega) (by omega)
   have q3:=eF hq (d:=3) (by omega) (by omega)
   have n2:Nm 2:=⟨by omega,λd _ _=>by omega⟩
   have n3:Nm 3:=⟨by omega,λd d2 d3=>by
    have:d=2:=by omega
    subst this
    decide⟩
   have k2:=n2.co q2
   have k3:=n3.co q3
   refine⟨λr hr=>?_,(Nat.Coprime.mul_left k2 k3).symm⟩
   rcases List.mem_cons.mp hr with rfl | hr
   ·exact k2
   ·rw [List.mem_singleton.mp hr];exact k3
  ·have:=hq.1
   rcases (by omega:q=2∨q=3∨q=4∨5<=q) with z | z | z | z
   ·exact .inl (by simp [z])
   ·exact .inl (by simp [z])
   ·exact absurd (by rw [z];decide) (eF hq (d:=2) (by omega) (by omega))
   ·exact .inr z
 ·refine gb (M:=4000000) (hM:=rfl) (es:=[2]) (e:=2) (R:=31623) (c:=1) hp h9 (by omega) (by omega) (by decide) (by omega) h2n (λq hq q5=>?_) (λq hq hd=>?_) (by decide) (by decide) (by decide) (by decide) (by decide) no
  ·have q2:=eF hq (d:=2) (by omega) (by omega)
   have n2:Nm 2:=⟨by omega,λd _ _=>by omega⟩
   have k2:=n2.co q2
   exact⟨λr hr=>by rw [List.mem_singleton.mp hr];exact k2,k2.symm⟩
  ·have:=hq.1
   rcases (by omega:q=2∨q=3∨q=4∨5<=q) with z | z | z | z
   ·exact .inl (by simp [z])
   ·exact absurd (z▸hd) c
   ·exact absurd (by rw [z];decide) (eF hq (d:=2) (by omega) (by omega))
   ·exact .inr z
end
end Num
namespace L2
open PySem PySem.Spec PyProof.Rows
section
variable {κ:Type} [DecidableEq κ]
def oh (kvs:List (κ × V)) (k:κ):Option V:=(kvs.find? λkv=>decide (kv.1=k)).map (·.2)
def putK (kvs:List (κ × V)) (k:κ) (v:V):List (κ × V) :=
 if (kvs.any λkv=>decide (kv.1=k))=true then kvs.map (λkv=>if kv.1=k then (kv.1,v) else kv) else kvs++[(k,v)]
theorem fG.getD {o:Option V} {u:Option Value} {d:V} {d':Value} (r:fG o u) (rd:RelV d d'):RelV (o.getD d) (u.getD d'):=by
 cases o with
 | none=>cases u with
  | none=>exact rd
  | some _=>exact (show False from r).elim
 | some _=>cases u with
  | none=>exact (show False from r).elim
  | some _=>exact r
theorem KV.any {kvs:List (κ × V)} {vs:List (κ × Value)} (r:KV kvs vs) (k:κ):(kvs.any λkv=>decide (kv.1=k))=vs.any λkv=>decide (kv.1=k):=by
 unfold KV at r
 induction r with
 | nil=>rfl
 | cons h t ih=>rw [List.any_cons,List.any_cons,ih,h.1]
theorem KV.length {kvs:List (κ × V)} {vs:List (κ × Value)} (r:KV kvs vs):kvs.length=vs.length:=Paired.length r
end
section
variable {P:Program} {w:World} {H:Hp} {h:Heap} {a:Addr}
end
def kU (H:Hp) (a:Addr) (y:V) (r:Option V):Prop :=
 (∃ kvs k,Rd H a (.dK kvs)/\y=kV k/\r=oh kvs k)∨∃ kvs k b,Rd H a (.dT kvs)/\y=.ref b/\H b=some (.tup (k.map kV))/\r=oh kvs k
def kW (H:Hp) (a:Addr) (y v:V) (H':Hp):Prop :=
 (∃ kvs k,H a=some (.dK kvs)/\y=kV k/\kvs.length<sizeLine/\H'=upd H a (.dK (putK kvs k v))) ∨
 ∃ kvs k b,H a=some (.dT kvs)/\y=.ref b/\H b=some (.tup (k.map kV))/\kvs.length<sizeLine/\H'=upd H a (.dT (putK kvs k v))
theorem kU.k {H:Hp} {a:Addr} {kvs:List (Key × V)} {k:Key} (e:H a=some (.dK kvs)):kU H a (kV k) (oh kvs k):=.inl ⟨kvs,k,.inl e,rfl,rfl⟩
theorem kU.t {H:Hp} {a b:Addr} {kvs:List (List Key × V)} {k:List Key} (e:H a=some (.dT kvs)) (eb:H b=some (.tup (k.map kV))):kU H a (.ref b) (oh kvs k):=.inr ⟨kvs,k,b,.inl e,rfl,eb,rfl⟩
theorem kW.k {H:Hp} {a:Addr} {kvs:List (Key × V)} {k:Key} {v:V} (e:H a=some (.dK kvs)) (hl:kvs.length<sizeLine):kW H a (kV k) v (upd H a (.dK (putK kvs k v))):=.inl ⟨kvs,k,e,rfl,hl,rfl⟩
theorem kW.t {H:Hp} {a b:Addr} {kvs:List (List Key × V)} {k:List Key} {v:V} (e:H a=some (.dT kvs)) (eb:H b=some (.tup (k.map kV))) (hl:kvs.length<sizeLine) :
  kW H a (.ref b) v (upd H a (.dT (putK kvs k v))):=.inr ⟨kvs,k,b,e,rfl,eb,hl,rfl⟩
section
variable {X:Cx} {pins:List (Addr × Obj)} {σ:St} {H:Hp} {s:Shared} {a:Addr} {y v:V} {u r:Value} {o:Option V} {A:Around} {E:Value->Shared->Prop}
end
section
variable {X:Cx} {pins:List (Addr × Obj)} {σ:St} {H:Hp} {s:Shared} {a:Addr} {kvs:List (Key × V)} {k:Key} {u:Value} {A:Around} {E:Value->Shared->Prop}
end
def rC (td ty:TE):TE:=λσ H Q=>td σ H λx H1=>ty σ H1 λy H2=>∃ a v,x=.ref a/\kU H2 a y (some v)/\Q v H2
def rq (td ty tv:TE):TS:=λD σ H=>tv σ H λv H1=>td σ H1 λx H2=>ty σ H2 λy H3=>∃ a H4,x=.ref a/\kW H3 a y v H4/\D.nx σ H4
section
variable {X:Cx} {o i e value:Expr} {pos pos' tpos:Pos} {td ty tv:TE}
end
section
variable {X:Cx} {pos:Pos}
end
def jH:List (TE × TE)->St->Hp->(List (V × V)->Hp->Prop)->Prop
 | [],_,H,Q=>Q [] H
 | (tk,tv)::r,σ,H,Q=>tk σ H λx H1=>tv σ H1 λy H2=>jH r σ H2 λps H3=>Q ((x,y)::ps) H3
def pW (kvs more:List (Key × V)):List (Key × V):=more.foldl (λacc kv=>putK acc kv.1 kv.2) kvs
def rD (trs:List (TE × TE)):TE:=λσ H Q=>∀ p,H p=none->jH trs σ (upd H p (.dK [])) λps H2=>H2 p=some (.dK [])/\∃ kvs:List (Key × V),ps=kvs.map (λkv=>(kV kv.1,kv.2))/\kvs.length<=15/\Q (.ref p) (upd H2 p (.dK (pW [] kvs)))
structure M1 (X:Cx) (o:Expr) (m:Str) (apos:Pos) (e:Expr) (cpos:Pos):Prop where
 base:attributeBase o m X.env (eval o X.env)=eval o X.env
 sY:((backTo cpos (starEach [e] X.env)).all (λx=>!x.1) && (backToKw cpos (keywordEach [] X.env)).all (λx=>x.1.isSome)
  && decide (([e]:List Expr).length+([]:List Keyword).length+(if ([]:List Keyword).isEmpty then 0 else 1)<30))=true
 line:(apos.endLine==cpos.line)=true
 trees:backTo cpos (starEach [e] X.env)=[(false,eval e X.env)]
structure M2 (X:Cx) (o:Expr) (m:Str) (apos:Pos) (e f:Expr) (cpos:Pos):Prop where
 base:attributeBase o m X.env (eval o X.env)=eval o X.env
 sY:((backTo cpos (starEach [e,f] X.env)).all (λx=>!x.1) && (backToKw cpos (keywordEach [] X.env)).all (λx=>x.1.isSome)
  && decide (([e,f]:List Expr).length+([]:List Keyword).length+(if ([]:List Keyword).isEmpty then 0 else 1)<30))=true
 line:(apos.endLine==cpos.line)=true
 trees:backTo cpos (starEach [e,f] X.env)=[(false,eval e X.env),(false,eval f X.env)]
section
variable {X:Cx} {pins:List (Addr × Obj)} {σ:St} {H:Hp} {s:Shared} {a:Addr} {y d:V} {u r:Value} {o:Option V} {A:Around} {E:Value->Shared->Prop}
end
section
variable {X:Cx} {o e f:Expr} {apos cpos:Pos} {td ty tx:TE}
end
section
variable {X:Cx} {pins:List (Addr × Obj)} {σ:St} {H:Hp} {s:Shared} {a:Addr} {kvs:List (Key × V)} {A:Around} {E:Value->Shared->Prop}
end
section
variable {X:Cx} {pins:List (Addr × Obj)} {σ:St} {H:Hp} {s:Shared} {a:Addr} {y:V} {u:Value} {A:Around} {E:Value->Shared->Prop}
end
def rY (l:Int) (b:Bool):HO:=.dK [(Sum.inr "left",.int l),(Sum.inr "free",.bl b)]
def rX (l:Int) (b:Bool):Prop:=b=true∨(0<=l/\l<2147483647)
def Up (p:Addr) (b:Bool) (H H':Hp):Prop:=∃ l,rX l b/\H'=upd H p (rY l b)
theorem kS {H:Hp} {p:Addr} {o o':HO}:upd (upd H p o) p o'=upd H p o':=by
 funext c
 by_cases e:c=p
 ·subst e;rw [ai,ai]
 ·rw [ak e,ak e,ak e]
theorem Up.trans {p:Addr} {b:Bool} {H H1 H2:Hp} (h:Up p b H H1) (h':Up p b H1 H2):Up p b H H2:=by
 obtain⟨l,_,rfl⟩:=h
 obtain⟨l',k',rfl⟩:=h'
 exact⟨l',k',kS⟩
theorem Up.at {p:Addr} {b:Bool} {H H1:Hp} (h:Up p b H H1):∃ l,rX l b/\H1 p=some (rY l b):=by
 obtain⟨l,k,rfl⟩:=h
 exact⟨l,k,ai⟩
theorem Up.ne {p q:Addr} {b:Bool} {H H1:Hp} (h:Up p b H H1) (n:q≠p):H1 q=H q:=by
 obtain⟨l,k,rfl⟩:=h
 exact ak n
def Us (p:Addr) (b:Bool) (H H':Hp):Prop:=(∃ l,rX l b/\H' p=some (rY l b))/\∀ q o,q≠p->H q=some o->H' q=some o
theorem Up.us {p:Addr} {b:Bool} {H H':Hp} (h:Up p b H H'):Us p b H H':=⟨h.at,λq o n e=>by rw [h.ne n];exact e⟩
theorem Us.trans {p:Addr} {b:Bool} {H H1 H2:Hp} (h:Us p b H H1) (h':Us p b H1 H2):Us p b H H2:=⟨h'.1,λq o n e=>h'.2 q o n (h.2 q o n e)⟩
theorem Us.free {p q:Addr} {b:Bool} {H H1:Hp} (h:Us p b H H1) (f:H1 q=none):H q=none:=by
 cases e:H q with
 | none=>rfl
 | some o =>
  by_cases n:q=p
  ·subst n
   obtain⟨l,_,z⟩:=h.1
   rw [z] at f;cases f
  ·rw [h.2 q o n e] at f;cases f
section
variable {K:PySem.W.Frag} {H H':Hp}
theorem cn.fX {a:Addr} {xs:List V} (k:∀ a xs,Rd H a (.tup xs)->Rd H' a (.tup xs)) (h:cn K H a xs):cn K H' a xs:=h.imp (λz=>k _ _ z) id
mutual
theorem dv.fX (k:∀ a xs,Rd H a (.tup xs)->Rd H' a (.tup xs)):∀(d:PyData) {v:V},qy d=true->dv K H d v->dv K H' d v
 | .none,_,_,h=>h
 | .bool _,_,_,h=>h
 | .int _,_,_,h=>h
 | .str _,_,_,h=>h
 | .list ds,_,z,_=>by cases z
 | .tuple ds,_,z,⟨q,xs,e,h,t⟩=>⟨q,xs,e,h.fX k,bH.fX k ds z t⟩
 | .dict _,_,_,h=>h.elim
theorem bH.fX (k:∀ a xs,Rd H a (.tup xs)->Rd H' a (.tup xs)):∀(ds:List PyData) {xs:List V},fK ds=true->bH K H ds xs->bH K H' ds xs
 | [],_,_,h=>h
 | d::ds,_,z,⟨x,r,e,h,t⟩=>by
  have z':qy d=true/\fK ds=true:=by simpa [fK] using z
  exact⟨x,r,e,dv.fX k d z'.1 h,bH.fX k ds z'.2 t⟩
end
end
theorem Us.ref {p:Addr} {b:Bool} {H H1:Hp} (h:Us p b H H1):∃ l,rX l b/\H1 p=some (rY l b):=h.1
end L2
namespace Num
open PySem PySem.Spec PyProof.Rows
theorem LF.sG {n g g':Int} (h:LF n g) (h':LF n g'):g=g':=by
 rcases (by omega:g<g'∨g=g'∨g'<g) with z | z | z
 ·exact absurd h.ord (h'.no g h.one z)
 ·exact z
 ·exact absurd h'.ord (h.no g' h'.one z)
theorem i5.one {n:Int} {d:PyData} (h:i5 n d):∀{d'},i5 n d'->d=d':=by
 induction h with
 | mk p g ps ds h1 h2 h3 h4 h5 h6 ih =>
  intro d' h'
  cases h' with
  | mk _ g' ps' ds' k1 k2 k3 k4 k5 k6 =>
   obtain rfl:=h3.sG k3
   obtain rfl:=h4.one k4
   have:rowsOf ps ds=rowsOf ps ds':=by
    unfold rowsOf
    refine List.map_congr_left λi hi=>?_
    have il:=List.mem_range.mp hi
    have g:=List.getElem?_eq_getElem il
    rw [ih i _ _ g (k6 i _ _ g)]
   rw [this]
end Num
namespace L2
open PySem PySem.Spec PyProof.Rows
section
variable {prog:Program} {w:World} {A:Around} {E:Value->Shared->Prop} {s:Shared} {it t:Addr} {i:Nat} {items:Array Value} {Q:Value->Shared->Prop}
end
inductive Sd
 | l
 | t
def Sd.It:Sd->Heap->Addr->Addr->Nat->Prop
 | .l=>Heap.IsListIter
 | .t=>Heap.IsTupleIter
def Sd.Sq:Sd->Heap->Addr->Array Value->Prop
 | .l=>Heap.IsList
 | .t=>Heap.IsTuple
def Sd.io (k:Sd) (a:Addr):Obj:=match k with
 | .l=>{ cls:=.type "list_iterator",data:=.fields #[.ref a,.int 0 0] }
 | .t=>{ cls:=.type "tuple_iterator",data:=.fields #[.ref a,.int 0 0] }
theorem Sd.It.at {k:Sd} {h h':Heap} {it a:Addr} {i:Nat} (x:k.It h it a i) (e:∀ o,h.get? it=some o->h'.get? it=some o):k.It h' it a i:=by
 cases k<;>(obtain⟨o,e1,r⟩:=x;exact⟨o,e o e1,r⟩)
theorem Sd.It.there {k:Sd} {h:Heap} {it a:Addr} {i:Nat} (x:k.It h it a i):∃ o,h.get? it=some o/\∀ v,o.data≠.cell v:=by
 cases k<;>(obtain⟨o,e1,_,d⟩:=x;exact⟨o,e1,λv z=>by rw [d] at z;cases z⟩)
theorem Sd.Sq.at {k:Sd} {h h':Heap} {a:Addr} {xs:Array Value} (x:k.Sq h a xs) (e:∀ o,h.get? a=some o->h'.get? a=some o):k.Sq h' a xs:=by
 cases k<;>(obtain⟨o,e1,r⟩:=x;exact⟨o,e o e1,r⟩)
theorem Sd.start (k:Sd) {h:Heap} {it a:Addr} (e:h.get? it=some (k.io a)):k.It h it a 0:=by
 cases k<;>exact⟨_,e,rfl,rfl⟩
section
variable {prog:Program} {w:World} {A:Around} {E:Value->Shared->Prop} {s:Shared} {it a:Addr} {i:Nat} {xs:Array Value} {Q:Value->Shared->Prop} {k:Sd}
end
section
variable {prog:Program} {w:World} {A:Around} {E:Value->Shared->Prop} {s:Shared}
end
def mQ (k:Sd) (K:PySem.W.Frag) (H:Hp) (a:Addr) (xs:List V):Prop:=match k with
 | .l=>bh K H a xs
 | .t=>cn K H a xs
def sU (k1 k2:Sd) (K:PySem.W.Frag) (a b:Addr):It :=
 ⟨λi H=>∃ xs ys x y,mQ k1 K H a xs/\mQ k2 K H b ys/\xs[i]?=some x/\ys[i]?=some y,λi H x H'=>∃ p u v,H p=none/\x=.ref p/\(∀ xs,mQ k1 K H a xs->xs[i]?=some u)/\(∀ ys,mQ k2 K H b ys->ys[i]?=some v)/\H'=upd H p (.tup [u,v]),
  λi H=>∃ xs,mQ k1 K H a xs/\xs.length<=i⟩
def su (k1 k2:Sd) (K:PySem.W.Frag) (ta:TA):TI:=λσ H R=>ta σ H λvs H1=>∃ a b,vs=[.ref a,.ref b]/\(∃ xs,mQ k1 K H1 a xs)/\(∃ ys,mQ k2 K H1 b ys)/\R (sU k1 k2 K a b) H1
end L2
namespace Num
theorem qb {p x y:Int} {m:Nat} (h:Al p x y) (o:Ord p x m):Ord p y m:=⟨o.pos,(h.pow m).symm.trans o.one,λj z=>o.dv j ((h.pow j).trans z)⟩
def eN:List (Int × Int)->Nat
 | []=>1
 | p::r=>p.1.toNat^p.2.toNat*eN r
theorem dX:∀ a b:List (Int × Int),eN (a++b)=eN a*eN b
 | [],b=>by simp [eN]
 | p::r,b=>by
  show p.1.toNat^p.2.toNat*eN (r++b)=p.1.toNat^p.2.toNat*eN r*eN b
  rw [dX r b,Nat.mul_assoc]
theorem jW:∀ a:List (Int × Int),(∀ p∈a,Pm p.1)->(eN a:Int)=aK a
 | [],_=>rfl
 | p::r,h=>by
  have t:=(h p (List.mem_cons_self ..)).two
  show ((p.1.toNat^p.2.toNat*eN r:Nat):Int)=p.1^p.2.toNat*aK r
  rw [Int.natCast_mul,Int.natCast_pow,jW r λx z=>h x (List.mem_cons_of_mem _ z),show (p.1.toNat:Int)=p.1 by omega]
theorem jg:∀ a:List (Int × Int),(∀ p∈a,Pm p.1)->0<eN a
 | [],_=>Nat.one_pos
 | p::r,h=>by
  have t:=(h p (List.mem_cons_self ..)).two
  exact Nat.mul_pos (Nat.pow_pos (by omega)) (jg r λx z=>h x (List.mem_cons_of_mem _ z))
theorem pI {q m:Nat} (h:Nm q) (hm:¬q∣m) (k:Nat):Nat.Coprime (q^k) m:=Nat.Coprime.pow_left k (h.co hm)
theorem qM {q:Int} (hq:Pm q) {b:List (Int × Int)} (hb:∀ p∈b,Pm p.1) (ne:∀ p∈b,p.1≠q):¬q.toNat∣eN b:=λz=>by
 have t:=hq.two
 have:q∣aK b:=by
  rw [<- jW b hb]
  have:=Int.natCast_dvd_natCast.mpr z
  rwa [show (q.toNat:Int)=q by omega] at this
 obtain⟨p,hp,e⟩:=cW hq hb this
 exact ne p hp e
theorem oz {b:List (Int × Int)} (hb:∀ p∈b,Pm p.1):∀ a:List (Int × Int),(∀ p∈a,Pm p.1)->(∀ x∈a,∀ y∈b,y.1≠x.1)->Nat.Coprime (eN a) (eN b)
 | [],_,_=>Nat.coprime_one_left _
 | p::r,h,ne=>by
  have hp:=h p (List.mem_cons_self ..)
  exact Nat.Coprime.mul_left (pI (lT hp) (qM hp hb (ne p (List.mem_cons_self ..))) _) (oz hb r (λx z=>h x (List.mem_cons_of_mem _ z)) λx z=>ne x (List.mem_cons_of_mem _ z))
theorem nJ {n a:Int} {q t:Nat} (hq:Nm q) (h:Al n (a^q^t) 1) (no:∀ j,j<t->¬Al n (a^q^j) 1):Ord n a (q^t):=by
 have q2:=hq.1
 obtain⟨m,o,_⟩:=gY (N:=q^t) (Nat.pow_pos (by omega)) h
 have d:=o.dv _ h
 cases t with
 | zero =>
  have:m=1:=Nat.eq_one_of_dvd_one (by simpa using d)
  rw [this] at o
  simpa using o
 | succ k =>
  have:m=q^(k+1):=j2 hq k m d λz=>no k (Nat.lt_succ_self _) (by
   obtain⟨c,hc⟩:=z
   rw [hc]
   exact aJ o.one)
  rw [<- this]
  exact o
theorem b6 {a:Int} {x y:Nat}:(a^x)^y=a^(x*y):=by rw [Int.pow_mul]
theorem jz {n a:Int} {M1 M2 E1 E2:Nat} (co:Nat.Coprime M1 M2) (p1:0<M1) (p2:0<M2) (h:Al n (a^(M1*M2)) 1) (o1:Ord n (a^M2) E1) (o2:Ord n (a^M1) E2):Ord n a (E1*E2):=by
 have d1:E1∣M1:=o1.dv M1 (by rw [b6,Nat.mul_comm];exact h)
 have d2:E2∣M2:=o2.dv M2 (by rw [b6];exact h)
 obtain⟨c1,hc1⟩:=d1
 obtain⟨c2,hc2⟩:=d2
 obtain⟨e,o,_⟩:=gY (Nat.mul_pos p1 p2) h
 have x1:e∣M2*E1:=o.dv _ (by rw [<- b6];exact o1.one)
 have x2:e∣M1*E2:=o.dv _ (by rw [<- b6];exact o2.one)
 have cc:Nat.Coprime c2 c1:=by
  have:Nat.Coprime c1 c2:=Nat.Coprime.coprime_dvd_left ⟨E1,by rw [hc1,Nat.mul_comm]⟩ (Nat.Coprime.coprime_dvd_right ⟨E2,by rw [hc2,Nat.mul_comm]⟩ co)
  exact this.symm
 have x3:e∣E1*E2:=by
  have:=Nat.dvd_gcd x1 x2
  rw [show M2*E1=E1*E2*c2 by rw [hc2];rw [Nat.mul_comm (E2*c2) E1,Nat.mul_assoc],show M1*E2=E1*E2*c1 by rw [hc1];rw [Nat.mul_assoc,Nat.mul_comm c1 E2,Nat.mul_assoc],Nat.gcd_mul_left,cc.gcd_eq_one,Nat.mul_one] at this
  exact this
 have ce:Nat.Coprime E1 E2:=Nat.Coprime.coprime_dvd_left ⟨c1,hc1⟩ (Nat.Coprime.coprime_dvd_right ⟨c2,hc2⟩ co)
 refine⟨Nat.mul_pos o1.pos o2.pos,?_,λj hj=>?_⟩
 ·obtain⟨c,hc⟩:=x3
  rw [hc]
  exact aJ o.one
 ·refine ce.mul_dvd_of_dvd_of_dvd (o1.dv j ?_) (o2.dv j ?_)
  ·rw [b6,Nat.mul_comm,<- b6]
   have:=hj.pow M2
   rwa [Int.one_pow] at this
  ·rw [b6,Nat.mul_comm,<- b6]
   have:=hj.pow M1
   rwa [Int.one_pow] at this
structure TO (n a:Int) (ps:List (Int × Int)) (ts:List Int):Prop where
 len:ts.length=ps.length
 nn:∀ t∈ts,0<=t
 ord:Ord n a (eN ((ps.map (·.1)).zip ts))
theorem TO.al {n a b:Int} {ps:List (Int × Int)} {ts:List Int} (h:TO n a ps ts) (e:Al n a b):TO n b ps ts:=⟨h.len,h.nn,qb e h.ord⟩
theorem TO.none {n a:Int} (h:Al n a 1):TO n a [] []:=⟨rfl,λ_ z=>by simp at z,⟨Nat.one_pos,by show Al n (a^1) 1;rw [Int.pow_one];exact h,λj _=>Nat.one_dvd j⟩⟩
theorem TO.one {n a q k:Int} {t:Nat} (hq:Pm q) (h:Al n (a^q.toNat^t) 1) (no:∀ j,j<t->¬Al n (a^q.toNat^j) 1):TO n a [(q,k)] [(t:Int)]:=by
 refine⟨rfl,λx z=>?_,?_⟩
 ·rw [List.mem_singleton.mp z];omega
 ·show Ord n a (q.toNat^(t:Int).toNat*1)
  rw [Nat.mul_one,Int.toNat_natCast]
  exact nJ (lT hq) h no
theorem TO.two {n a:Int} {as bs:List (Int × Int)} {ts us:List Int} (ha:∀ p∈as,Pm p.1) (hb:∀ p∈bs,Pm p.1) (ne:∀ x∈as,∀ y∈bs,y.1≠x.1) (h:Al n (a^eN (as++bs)) 1) (h1:TO n (a^eN bs) as ts) (h2:TO n (a^eN as) bs us):TO n a (as++bs) (ts++us):=by
 refine⟨by rw [List.length_append,List.length_append,h1.len,h2.len],λt z=>(List.mem_append.mp z).elim (h1.nn t) (h2.nn t),?_⟩
 rw [List.map_append,List.zip_append (by rw [List.length_map,h1.len]),dX]
 rw [dX] at h
 exact jz (oz hb as ha ne) (jg as ha) (jg bs hb) h h1.ord h2.ord
end Num
namespace L2
open PySem PySem.Spec PyProof.Rows
def qS (K:PySem.W.Frag) (ta:TA):TI:=λσ H R=>ta σ H λvs H1=>∃ a b k1 k2,vs=[.ref a,.ref b]/\(∃ xs,mQ k1 K H1 a xs)/\(∃ ys,mQ k2 K H1 b ys)/\R (sU k1 k2 K a b) H1
end L2
namespace L2
open PySem PySem.Spec PyProof.Rows PySem.W
end L2
set_option maxHeartbeats 8000000
namespace K
open PySem PySem.Spec PyProof.Rows L2
def top (i:Nat):Stmt:=PySem.Challenge.pw_rootprime_k20_prime_papers_told.main.body.getD i (.Pass ⟨0,0,0,0⟩)
theorem fZ {α:Type} {us:List α} {n:Nat} (h:us.length=n+1):∃ a r,us=a::r/\r.length=n:=by
 cases us with
 | nil=>cases h
 | cons a r=>exact⟨a,r,rfl,Nat.succ.inj h⟩
theorem lL {α:Type} {us:List α} (h:us.length=1):∃ a,us=[a]:=(fZ h).elim λa h=>h.elim λr h=>⟨a,h.1.trans (congrArg (a::·) (List.eq_nil_of_length_eq_zero h.2))⟩
theorem lM {α:Type} {us:List α} (h:us.length=2):∃ a b,us=[a,b]:=(fZ h).elim λa h=>h.elim λr h=>(lL h.2).elim λb h2=>⟨a,b,h.1.trans (congrArg (a::·) h2)⟩
theorem lN {α:Type} {us:List α} (h:us.length=3):∃ a b c,us=[a,b,c]:=(fZ h).elim λa h=>h.elim λr h=>(lM h.2).elim λb h2=>h2.elim λc h2=>⟨a,b,c,h.1.trans (congrArg (a::·) h2)⟩
theorem lO {α:Type} {us:List α} (h:us.length=4):∃ a b c d,us=[a,b,c,d]:=(fZ h).elim λa h=>h.elim λr h=>(lN h.2).elim λb h2=>h2.elim λc h2=>h2.elim λd h2=>⟨a,b,c,d,h.1.trans (congrArg (a::·) h2)⟩
theorem lP {α:Type} {us:List α} (h:us.length=5):∃ a b c d e,us=[a,b,c,d,e]:=(fZ h).elim λa h=>h.elim λr h=>(lO h.2).elim λb h2=>h2.elim λc h2=>h2.elim λd h2=>h2.elim λe h2=>⟨a,b,c,d,e,h.1.trans (congrArg (a::·) h2)⟩
theorem oM {α:Type} {us:List α} (h:us.length=6):∃ a b c d e f,us=[a,b,c,d,e,f]:=(fZ h).elim λa h=>h.elim λr h=>(lP h.2).elim λb h2=>h2.elim λc h2=>h2.elim λd h2=>h2.elim λe h2=>h2.elim λf h2=>⟨a,b,c,d,e,f,h.1.trans (congrArg (a::·) h2)⟩
theorem fE {N P:List Str} {sc:Scope} (a:sc.kind=.function:=by exact rfl) (b:sc.isCoroutine=false:=by exact rfl) (c:sc.isGenerator=false:=by exact rfl) (d:N.Nodup:=by decide +kernel) (e:N.take P.length=P:=by exact rfl) (f:∀ x∈P,sc.names.lookup x=some .local∨sc.names.lookup x=some .cell:=by decide +kernel) (g:∀ y∈sc.names,y.2≠.free:=by decide +kernel):ay N P sc:=⟨a,b,c,d,e,f,g⟩
theorem fD {F:PySem.W.Frag} {mg:Str->Option Value} {x:Str} {h:Heap} {f:Addr} {st:Stmt} {oc:Value} {od an:Option Addr} {osl:Array (Option Value)} {kV doc pm cdv ct:Value} (X:F.In h) (G:h.Ns mainGlobals mg) (a:PySem.W.nsIn F mainGlobals x=some (some (.ref f)):=by k_is) (l:F.lookup f=some ⟨oc,od,.func (PySem.W.fnOf x x (ba st) (aG st) (ah st) .none kV doc pm an cdv ct),osl⟩:=by k_is) (c:PySem.W.codeIn F cdv x=true:=by k_is) (kk:PySem.W.keepIn F (.ref f)=true:=by k_is):aw (eJ X) mg x st:=lq X G a l c kk
theorem qL {X:Cx} {N':List Str} {js:List (Option Nat)} {scope:Scope} {cl:List (Str × Addr)} (clos:closureFor scope X.env=pure cl) (kind:scope.kind=.function) (nocell:∀ y∈scope.names,y.2=.cell->scope.names.lookup y.1=some .cell/\∀ p∈js.zip N',p.1.isSome=true->p.2≠y.1:=by decide +kernel) (names:∀ y∈scope.names,y.2=.local->scope.names.lookup y.1=some .local:=by decide +kernel) (sub:AllIn X.env cl:=by repeat (first | exact True.intro | refine⟨rfl,?_⟩)) (has:dU cl scope.names:=by repeat (first | exact True.intro | refine⟨rfl,?_⟩ | refine⟨True.intro,?_⟩)) (j:dD X scope cl js N':=by repeat (first | exact True.intro | refine⟨⟨rfl,rfl,.inl rfl,.inl rfl⟩,?_⟩)):eX X N' js scope cl:=pJ clos kind nocell names sub has j
theorem bQ {X:Cx} {pos:Pos} {i:Nat} {x:Str} {e:Expr} {te:TE} {pos':Pos} (hN:X.N.Nodup) (he:PE X e te) (hi:X.N[i]?=some x:=by exact rfl) (hx:Loc X.env.scope x:=by exact Or.inl rfl) (hs:swapsWith e (some (.Name x pos')) pos.line X.env=pure false:=by rfl) (hf:X.fn x=true∨X.env.scope.names.lookup x=some .local:=by first | exact .inl rfl | exact .inr rfl | assumption):PS X (.Assign [.Name x pos'] e pos) (n8 te (eC i)):=qe hN hi hx he hs hf
theorem eS {X:Cx} {CX:fF} {k n:Nat} {x:Str} {ps:List Str} {sp:Sp} {E:XK} {e:Expr} {es:List Expr} {t:TA} {p pos:Pos} (C:Callee X.prog X.w X.K X.mg X.base CX k x ps sp) (hr:bj n X.A) (hx:Passes CX X E) (ha:PA X (e::es) t) (hm:k<=n:=by decide) (hg:Gl X x:=by exact rfl) (hdb:(x==("__debug__":Str))=false:=by decide) (he:starEach (e::es) X.env=(false,eval e X.env)::starEach es X.env:=by rfl) (hpl:(backTo pos (starEach es X.env)).any (·.1)=false:=by rfl):PE X (.Call (.Name x p) (e::es) [] pos) (ka sp [] E t):=aI C (hr.mono hm) hg hx ha hdb he hpl
theorem cO {P:Program} {w:World} {F:PySem.W.Frag} {mg:Str->Option Value} {base:Heap} {k:Nat} {x:Str} {ps:List Str} {sp:Sp} {st:Stmt} {N:List Str} (D:aw F mg x st) (S:ay N ps (ah st))
  (hbody:∀(f:Addr) (cdv:Value) (A:Around) (outer:List Env) (s:Shared) (H:Hp) (vs:List V) (Q:VK) (E:XK),bj k (A.deeper (envOfC x (ah st) s.heap.objs.size f cdv))->sp vs H Q E->∃ t,eA (cF bf P w F mg base N x (ah st) f cdv A outer s H E).gW (aG st) t/\t { nx:=λ_ H'=>Q .non H',rt:=Q } (start N vs) H)
  (hb:∀(kV doc pm:Value) (an:Option Addr) (cdv ct:Value) (us:List Value),us.length=ps.length->bindArgs (PySem.W.fnOf x x (ba st) (aG st) (ah st) .none kV doc pm an cdv ct) ⟨us,[]⟩=pure (ps.zip us):=by
    intro _ _ _ _ _ _ us hl
    first | (obtain⟨_,rfl⟩:=lL hl;exact rfl) | (obtain⟨_,_,rfl⟩:=lM hl;exact rfl) | (obtain⟨_,_,_,rfl⟩:=lN hl;exact rfl) | (obtain⟨_,_,_,_,rfl⟩:=lO hl;exact rfl) | (obtain⟨_,_,_,_,_,rfl⟩:=lP hl;exact rfl) | (obtain⟨_,_,_,_,_,_,rfl⟩:=oM hl;exact rfl))
  (len:∀ vs H Q E,sp vs H Q E->vs.length=ps.length:=by
    intro _ _ _ _ h
    first | (obtain⟨_,rfl,_⟩:=h;rfl) | (obtain⟨_,_,rfl,_⟩:=h;rfl) | (obtain⟨_,_,_,rfl,_⟩:=h;rfl) | (obtain⟨_,_,_,_,rfl,_⟩:=h;rfl) | (obtain⟨_,_,_,_,_,rfl,_⟩:=h;rfl) | (obtain⟨_,_,_,_,_,_,rfl,_⟩:=h;rfl) | (obtain⟨_,_,_,_,_,_,_,rfl,_⟩:=h;rfl) | (obtain⟨_,_,_,_,_,_,_,_,rfl,_⟩:=h;rfl) | (obtain⟨_,_,_,_,_,_,_,_,_,rfl,_⟩:=h;rfl) | (obtain⟨_,_,_,_,_,_,_,_,_,_,rfl,_⟩:=h;rfl) | (obtain⟨_,_,_,_,_,_,_,_,_,_,_,rfl,_⟩:=h;rfl) | (obtain⟨_,_,_,_,_,_,_,_,_,_,_,_,rfl,_⟩:=h;rfl) | (obtain⟨_,_,_,_,_,_,_,_,_,_,_,_,_,rfl,_⟩:=h;rfl) | (obtain⟨_,_,_,_,_,_,_,_,_,_,_,_,_,_,rfl,_⟩:=h;rfl) | (obtain⟨_,_,_,_,_,_,_,_,_,_,_,_,_,_,_,rfl,_⟩:=h;rfl)):Callee P w F mg base bf (k+1) x ps sp:=km D hb S len hbody
theorem cX {P:Program} {w:World} {F:PySem.W.Frag} {mg:Str->Option Value} {base:Heap} {k:Nat} {x:Str} {ps:List Str} {sp:Sp} {st:Stmt} {N:List Str} (D:aw F mg x st) (S:ay N ps (ah st))
  (hbody:∀(f:Addr) (cdv:Value) (A:Around) (outer:List Env) (s:Shared) (H:Hp) (vs:List V) (Q:VK) (E:XK),bj k (A.deeper (envOfC x (ah st) s.heap.objs.size f cdv))->sp vs H Q E->∃ t,eA (cF (cz P w) P w F mg base N x (ah st) f cdv A outer s H E) (aG st) t/\t { nx:=λ_ H'=>Q .non H',rt:=Q } (start N vs) H)
  (hb:∀(kV doc pm:Value) (an:Option Addr) (cdv ct:Value) (us:List Value),us.length=ps.length->bindArgs (PySem.W.fnOf x x (ba st) (aG st) (ah st) .none kV doc pm an cdv ct) ⟨us,[]⟩=pure (ps.zip us):=by
    intro _ _ _ _ _ _ us hl
    first | (obtain⟨_,rfl⟩:=lL hl;exact rfl) | (obtain⟨_,_,rfl⟩:=lM hl;exact rfl) | (obtain⟨_,_,_,rfl⟩:=lN hl;exact rfl) | (obtain⟨_,_,_,_,rfl⟩:=lO hl;exact rfl) | (obtain⟨_,_,_,_,_,rfl⟩:=lP hl;exact rfl) | (obtain⟨_,_,_,_,_,_,rfl⟩:=oM hl;exact rfl))
  (len:∀ vs H Q E,sp vs H Q E->vs.length=ps.length:=by
    intro _ _ _ _ h
    first | (obtain⟨_,rfl,_⟩:=h;rfl) | (obtain⟨_,_,rfl,_⟩:=h;rfl) | (obtain⟨_,_,_,rfl,_⟩:=h;rfl) | (obtain⟨_,_,_,_,rfl,_⟩:=h;rfl) | (obtain⟨_,_,_,_,_,rfl,_⟩:=h;rfl) | (obtain⟨_,_,_,_,_,_,rfl,_⟩:=h;rfl) | (obtain⟨_,_,_,_,_,_,_,rfl,_⟩:=h;rfl) | (obtain⟨_,_,_,_,_,_,_,_,rfl,_⟩:=h;rfl) | (obtain⟨_,_,_,_,_,_,_,_,_,rfl,_⟩:=h;rfl) | (obtain⟨_,_,_,_,_,_,_,_,_,_,rfl,_⟩:=h;rfl) | (obtain⟨_,_,_,_,_,_,_,_,_,_,_,rfl,_⟩:=h;rfl) | (obtain⟨_,_,_,_,_,_,_,_,_,_,_,_,rfl,_⟩:=h;rfl) | (obtain⟨_,_,_,_,_,_,_,_,_,_,_,_,_,rfl,_⟩:=h;rfl) | (obtain⟨_,_,_,_,_,_,_,_,_,_,_,_,_,_,rfl,_⟩:=h;rfl) | (obtain⟨_,_,_,_,_,_,_,_,_,_,_,_,_,_,_,rfl,_⟩:=h;rfl)):Callee P w F mg base (cz P w) (k+1) x ps sp:=jd D hb S len hbody
end K
local macro_rules | `(tactic| k_data) => `(tactic| (iterate 2 ((try dsimp only [L2.cm, L2.rM, L2.oZ, L2.oU, L2.rH, L2.sN, L2.mD, L2.tC, L2.rK, L2.rI, L2.kT, L2.rU, L2.tG, L2.mC, L2.n8, L2.eC, L2.kP, L2.rN, L2.rP, L2.rG, L2.tw, L2.rF, L2.oW, L2.sL, L2.tE, L2.rJ, L2.oS, L2.rL, L2.oY, L2.tB, L2.rB, L2.oV, L2.oF, L2.qO, L2.ka, L2.oa, L2.qj, L2.oI, L2.oJ, L2.qQ, L2.oH, L2.qR, L2.tF, L2.sP, L2.o6, L2.kc, L2.oX, L2.tf, L2.tj, L2.tu, L2.sM, L2.tQ, L2.sr, L2.rC, L2.rq, L2.rD, L2.jH, L2.qP, L2.su, L2.qS, L2.mB, L2.qr, L2.qp, L2.sQ, L2.rO, L2.lA, L2.iG, List.getElem?_cons_zero, List.getElem?_cons_succ, List.set_cons_zero, List.set_cons_succ, List.nil_append, List.cons_append, L2.qA, L2.tL, L2.qK]); (try simp only [Option.some.injEq, exists_eq_left', exists_and_left, List.cons.injEq, L2.V.int.injEq, L2.V.bl.injEq, and_true, true_and, and_assoc, decide_eq_true_eq, List.append_nil, Int.reduceToNat, Int.reducePow, Int.reduceLT, Int.reduceLE, Int.reduceNeg, Int.zero_add, Nat.reducePow, Nat.reduceLT, Int.reduceAdd, Int.reduceSub, Int.reduceMul, L2.V.ref.injEq, L2.bc, L2.mF, exists_eq_left, exists_eq', exists_eq, exists_const, L2.bF, L2.nU, L2.nW, L2.nX, L2.nY, L2.nV, L2.nZ, reduceIte, reduceCtorEq, Bool.not_eq_true', decide_eq_false_iff_not, Int.reduceAbs, Bool.not_true, Bool.not_false, if_true, Bool.false_eq_true, if_false]))))
namespace K
open PySem PySem.Spec PyProof.Rows L2
section
variable {P:Program} {w:World} {K:PySem.W.Frag} {mg:Str->Option Value} {base:Heap}
theorem ir {α:Type} {p:α->Prop} {xs:List α} {v:α} (h:∀ x∈xs,p x) (hv:p v):∀ x∈xs++[v],p x:=λx hx=>by
 rcases List.mem_append.mp hx with z | z
 ·exact h x z
 ·rw [List.mem_singleton.mp z];exact hv
theorem jc {i:Int} (h:(decide (i.natAbs<10^250))=true):Bd i:=Nat.lt_of_lt_of_le (of_decide_eq_true h) k8
def mL (x:Int):Prop:=0<=x/\x<10^60
def j6:Sp:=λvs H Q _=>∃(c:Int) (n:Nat),vs=[.int c,.int n]/\n<=16/\∀(xs:List Int) p H',xs.length=n->(∀ x∈xs,mL x)->au H H'->H' p=some (.lst (xs.map V.int))->Q (.ref p) H'
theorem di:ay ["_law_cell","_law_many","_law_found","_law_k","_law_number"] ["_law_cell","_law_many"] (ah (top 28)):=fE
theorem lV (D:aw K mg "_law_draws" (top 28)) (n_abs:mg "abs"=none) (n_range:mg "range"=none):Callee P w K mg base bf 1 "_law_draws" ["_law_cell","_law_many"] j6:=by
 refine cO D di (λf cdv A outer s H vs Q E hr h=>?_)
 obtain⟨c,n,rfl,hn,q⟩:=h
 have nd:=di.nd
 refine⟨_,(af (bQ (i:=2) nd (bU ag)) (af (fv PassesOwn.never rfl (gk rfl n_range (aa (pv 1) ag)) (aZ (i:=3) nd rfl (Or.inl rfl) (.inr rfl)) (aj (aR (ar qZ (aB dF rfl n_abs L2.boot_abs (aa (pv 0) ag)) (ao cj ae ae) (av _)) (af (ib (l8 PySem.F.plainAttrs_list PySem.F.slot_list_append PySem.F.type_list_append d5 (pv 2) (aa (ao aF (pv 0) (ao cj ae ae)) ag))) (aj (bQ (i:=0) nd (ao br (pv 0) (ao cj ae ae))))) (af (bQ (i:=4) nd (ao aF (ao aQ (ao aF (ao bS (ao bS (pv 0) (ao aQ (ao aQ ae (pv 3)) (pv 3))) (pv 3)) ae) ae) ae)) (af (bQ (i:=4) nd (ao br (ao aF (ao aQ (pv 4) (ao bS (ao bS (pv 4) (ao aQ ae (pv 3))) ae)) ae) ae)) (aj (ib (l8 PySem.F.plainAttrs_list PySem.F.slot_list_append PySem.F.type_list_append d5 (pv 2) (aa (aD aV (bU (aa (pv 4) (aa (ao aF (ao br (ao cj (pv 4) ae) ae) (ao cj ae ae)) ag))) (ao aF (ao br (pv 4) ae) ae) (λ_ _=>rfl)) ag))))))))) (aj (aA (pv 2))))),?_⟩
 show cm _ _ _ [some (.int c),some (.int n),none,none,none] H
 k_data
 refine⟨by decide,λp hp=>?_⟩
 refine⟨by omega,by omega,?_⟩
 refine fe (λi σ' H'=>∃(c':Int) (xs:List Int) (o1 o2:Option V),σ'=[some (.int c'),some (.int n),some (.ref p),o1,o2]/\xs.length=i/\(∀ x∈xs,mL x)/\au H H'/\H' p=some (.lst (xs.map V.int)))
  ⟨c,[],none,none,rfl,rfl,by simp,az hp,ai⟩ ?_ ?_
 ·rintro i σ' H' hi ⟨c',xs,o1,o2,rfl,hl,hx,hs,hh⟩
  have hi':i<n:=by simpa using hi
  have hsz:xs.length<sizeLine:=by rw [hl];exact kM (by omega)
  k_data
  refine bC (λcc=>?_) (λcc=>?_)
  ·have m0:=Int.emod_nonneg c' (show (10^60:Int)≠0 by decide)
   have m1:=Int.emod_lt_of_pos c' (show (0:Int)<10^60 by decide)
   refine⟨.inl ⟨rfl,_,bh.of hh⟩,jN hh hsz ?_⟩
   refine⟨jc (by decide),xs++[_],by rw [List.length_append,List.length_singleton,hl],ir hx ⟨m0,m1⟩,hs.upd hp,ai⟩
  ·generalize c'+7919*(i:Int)*i+i=z
   have z0:=Int.emod_nonneg z (show (2147483647:Int)≠0 by decide)
   have z1:=Int.emod_lt_of_pos z (show (0:Int)<2147483647 by decide)
   have m0:=Int.emod_nonneg (z%2147483647*48271) (show (2147483647:Int)≠0 by decide)
   have m1:=Int.emod_lt_of_pos (z%2147483647*48271) (show (0:Int)<2147483647 by decide)
   generalize z%2147483647=z' at *
   generalize z'*48271%2147483647=m at *
   have n0:=Int.emod_nonneg (m*(m+12345*i+7)) (show (2147483629:Int)≠0 by decide)
   have n1:=Int.emod_lt_of_pos (m*(m+12345*i+7)) (show (0:Int)<2147483629 by decide)
   generalize m*(m+12345*i+7)%2147483629=k at *
   have k0:0<=k/11:=by omega
   have k1:k/11<2147483648:=by omega
   generalize k/11=k' at *
   refine⟨jc (by decide),Bd.of (by omega) (by omega),Bd.of (by omega) (by omega),Bd.of (by omega) (by omega),Bd.of (by omega) (by omega),jc (by decide),jc (by decide),Bd.of (by omega) (by omega),Bd.of (by omega) (by omega),Bd.of (by omega) (by omega),jc (by decide),
    .inl ⟨rfl,_,bh.of hh⟩,by omega,jc (by decide),(by show 2<=sizeLine;decide),λp1 hp1=>⟨jc (by decide),?_⟩⟩
   refine eR (bh.of ai) (by omega) (by show _<(2:Int);omega) λv hv=>?_
   have hn1:p≠p1:=λe=>by rw [e,hp1] at hh;cases hh
   have hv':∃ v',v=.int v'/\mL v':=by
    simp only [List.mem_cons,List.not_mem_nil,or_false] at hv
    rcases hv with rfl | rfl
    ·exact⟨_,rfl,k0,by omega⟩
    ·exact⟨_,rfl,Int.emod_nonneg _ (by decide),Int.emod_lt_of_pos _ (by decide)⟩
   obtain⟨v',rfl,hv'⟩:=hv'
   refine jN (xs:=xs) (by rw [ak hn1];exact hh) hsz ?_
   exact⟨xs++[v'],by rw [List.length_append,List.length_singleton,hl],ir hx hv',(hs.sS hp1).upd hp,ai⟩
 ·rintro σ' H' ⟨c',xs,o1,o2,rfl,hl,hx,hs,hh⟩
  k_data
  exact q xs p H' (by simpa using hl) hx hs hh
def eo (a:Int):Prop := -(10^240)<=a/\a<=10^240
theorem eo.bd {a:Int} (h:eo a):Bd a:=Bd.of (by have:=h.1;omega) (by have:=h.2;omega)
def gq:Sp:=λvs H Q _=>∃ a b:Int,vs=[.int a,.int b]/\eo a/\eo b/\∀ g u v p H',Gcd.rQ a b g u v->au H H'->H' p=some (.tup [.int g,.int u,.int v])->Q (.ref p) H'
theorem fx:ay ["a","b","g","u","v","next_g","next_u","next_v","times"] ["a","b"] (ah (top 15)):=fE
structure DS where
 (g u v ng nu nv:Int)
 t:Option V
theorem jv (D:aw K mg "divisor" (top 15)) (n_abs:mg "abs"=none):Callee P w K mg base bf 1 "divisor" ["a","b"] gq:=by
 refine cO D fx (λf cdv A outer s H vs Q E hr h=>?_)
 obtain⟨a,b,rfl,ha,hb,q⟩:=h
 have nd:=fx.nd
 refine⟨_,(af (j3 (i:=2) (j:=3) (k:=4) rfl nd rfl rfl rfl (by decide) (by decide) (by decide) rfl rfl rfl (aa (aB dF rfl n_abs L2.boot_abs (aa (pv 0) ag)) (aa ae (aa ae ag))) rfl) (af (j3 (i:=5) (j:=6) (k:=7) rfl nd rfl rfl rfl (by decide) (by decide) (by decide) rfl rfl rfl (aa (aB dF rfl n_abs L2.boot_abs (aa (pv 1) ag)) (aa ae (aa ae ag))) rfl) (af (bD PassesOwn.never (ar eH (pv 5) ae (av _)) (af (bQ (i:=8) nd (ao br (pv 2) (pv 5))) (af (jC (i:=2) (j:=5) rfl nd rfl rfl (by decide) rfl rfl (aa (pv 5) (aa (ao bT (pv 2) (ao aQ (pv 8) (pv 5))) ag)) rfl) (af (jC (i:=3) (j:=6) rfl nd rfl rfl (by decide) rfl rfl (aa (pv 6) (aa (ao bT (pv 3) (ao aQ (pv 8) (pv 6))) ag)) rfl) (aj (jC (i:=4) (j:=7) rfl nd rfl rfl (by decide) rfl rfl (aa (pv 7) (aa (ao bT (pv 4) (ao aQ (pv 8) (pv 7))) ag)) rfl)))))) (aj (aA (d6 (aa (pv 2) (aa (fj (ar dI (pv 0) ae (av _)) (oQ mH (pv 3)) (pv 3)) (aa (fj (ar dI (pv 1) ae (av _)) (oQ mH (pv 4)) (pv 4)) ag))))))))),?_⟩
 show cm _ _ _ [some (.int a),some (.int b),none,none,none,none,none,none,none] H
 k_data
 have hA:0<=(if a<0 then -a else a)/\(if a<0 then -a else a)<=10^240:=by have:=ha.1;have:=ha.2;split<;>omega
 have hB:0<=(if b<0 then -b else b)/\(if b<0 then -b else b)<=10^240:=by have:=hb.1;have:=hb.2;split<;>omega
 refine bG (α:=DS) (λx=>[some (.int a),some (.int b),some (.int x.g),some (.int x.u),some (.int x.v),some (.int x.ng),some (.int x.nu),some (.int x.nv),x.t])
  (λx H'=>H'=H/\Gcd.J (if a<0 then -a else a) (if b<0 then -b else b) x.g x.u x.v x.ng x.nu x.nv/\x.g<=10^240/\x.ng<=10^240) (λx=>x.ng.toNat)
  ⟨_,1,0,_,0,1,none⟩ rfl ⟨rfl,Gcd.J.start hA.1 hB.1,hA.2,hB.2⟩ ?_
 rintro x H1 ⟨rfl,j,hg,hng⟩
 k_data
 refine bC (λc=>?_) (λc=>?_)
 ·refine⟨_,λ_ _ z=>z,?_⟩
  obtain⟨s1,s2,s3,s4⟩:=j.small hA.1 hB.1 hA.2 hB.2 (by omega)
  obtain⟨j',l,q0,ql⟩:=j.turn c
  have bg:eo x.ng:=⟨by omega,hng⟩
  have bq:eo (x.g/x.ng):=⟨by omega,by omega⟩
  refine⟨c,bg.bd,bq.bd,bg.bd,bq.bd,eo.bd s3,bq.bd,eo.bd s4,⟨x.ng,x.nu,x.nv,x.g-x.g/x.ng*x.ng,x.u-x.g/x.ng*x.nu,x.v-x.g/x.ng*x.nv,some (.int (x.g/x.ng))⟩,rfl,rfl,j',hng,by show (x.g-x.g/x.ng*x.ng)<=_;omega,by show (x.g-x.g/x.ng*x.ng).toNat<x.ng.toNat;omega⟩
 ·have e:x.ng=0:=by have:=j.n0;omega
  rw [e] at j
  have z:=j.done
  refine bC (λca=>?_) (λca=>?_)<;>simp only [ca,if_true,if_false] at z ⊢<;>refine bC (λcb=>?_) (λcb=>?_)<;>simp only [cb,if_true,if_false] at z ⊢ <;>
   exact⟨by show 3<=sizeLine;decide,λp hp=>q _ _ _ p _ z (az hp) ai⟩
end
end K
namespace K
open PySem PySem.Spec PyProof.Rows L2
structure Gd (n a g:Int):Prop where
 pos:0<g
 dn:g∣n
 da:g∣a
 gr:∀ d:Int,d∣n->d∣a->d∣g
theorem Gd.one {n a g g':Int} (h:Gd n a g) (h':Gd n a g'):g=g' :=
 Int.le_antisymm (Int.le_of_dvd h'.pos (h'.gr g h.dn h.da)) (Int.le_of_dvd h.pos (h.gr g' h'.dn h'.da))
theorem iC {n a g:Int} (dn:g∣n):g∣a%n↔g∣a:=by
 have e:=Int.mul_ediv_add_emod a n
 constructor
 ·intro h
  rw [<- e]
  exact Int.dvd_add (Int.dvd_mul_of_dvd_left dn) h
 ·intro h
  have:a%n=a-n*(a/n):=by omega
  rw [this]
  exact Int.dvd_sub h (Int.dvd_mul_of_dvd_left dn)
theorem Gd.of {n a g u v:Int} (hn:0<n) (z:Gcd.rQ (a%n) n g u v):Gd n a g:=by
 refine⟨?_,z.db,(iC z.db).mp z.da,λd h1 h2=>?_⟩
 ·have:=z.g0
  rcases (by omega:g=0∨0<g) with e | e
  ·have:=z.db
   rw [e] at this
   have:=Int.zero_dvd.mp this
   omega
  ·exact e
 ·rw [<- z.lin]
  exact Int.dvd_add (Int.dvd_mul_of_dvd_right ((iC h1).mpr h2)) (Int.dvd_mul_of_dvd_right h1)
theorem pP {n a u v:Int} (hn:0<n) (z:Gcd.rQ (a%n) n 1 u v):n∣u%n*a-1:=by
 have e:=z.lin
 have e1:=Int.mul_ediv_add_emod a n
 have e2:=Int.mul_ediv_add_emod u n
 refine⟨u*(a/n)-v-u/n*a,?_⟩
 generalize a%n=x at *
 generalize u%n=y at *
 generalize a/n=s at *
 generalize u/n=t at *
 grind
section
variable {P:Program} {w:World} {K:PySem.W.Frag} {mg:Str->Option Value} {base:Heap}
def gu (C:Addr):Sp:=λvs H Q E=>∃ n a:Int,vs=[.int n,.int a]/\0<n/\n<=10^240/\∀ g,Gd n a g ->
 (g=1->∀ r H',0<=r->r<n->n∣r*a-1->au H H'->Q (.int r) H') /\
 (1<g->∀ x dx H',au H H'->H x=none->H' x=some (XO x C (some dx))->H' dx=some (.xd [("divisor",.int g)])->E (.ref C) (some x) H')
theorem fy:ay ["n","a","g","u","v"] ["n","a"] (ah (top 16)):=fE
theorem jw {C:Addr} (D:aw K mg "inverse" (top 16)) (c_divisor:Callee P w K mg base bf 1 "divisor" ["a","b"] gq) (x_NoInverse:dE P w K mg base "NoInverse" C "divisor"):Callee P w K mg base (cz P w) 3 "inverse" ["n","a"] (gu C):=by
 refine cX D fy (λf cdv A outer s H vs Q E hr h=>?_)
 obtain⟨n,a,rfl,hn,hn1,q⟩:=h
 have nd:=fy.nd
 refine⟨_,(af (qc (eS c_divisor hr aN (aa (ao aF (pv 1) (pv 0)) (aa (pv 0) ag))) (mf (n:=3) rfl (cY (aZ (i:=2) nd rfl (Or.inl rfl) (.inr rfl)) (cY (aZ (i:=3) nd rfl (Or.inl rfl) (.inr rfl)) (cY (aZ (i:=4) nd rfl (Or.inl rfl) (.inr rfl)) j1))))) (af (aR (ar eH (pv 2) ae (av _)) (aj (bV (fk x_NoInverse (hr.mono (by decide)) rfl (aa (pv 2) ag)))) aC) (eA.gW (aj (aA (ao aF (pv 3) (pv 0))))))),?_⟩
 show cm _ _ _ [some (.int n),some (.int a),none,none,none] H
 k_data
 have r0:=Int.emod_nonneg a (show n≠0 by omega)
 have r1:=Int.emod_lt_of_pos a hn
 refine⟨hn,a%n,n,rfl,⟨by omega,by omega⟩,⟨by omega,by omega⟩,λg u v p H1 z hs hh=>?_⟩
 have G:=Gd.of hn z
 obtain⟨q1,q2⟩:=q g G
 refine⟨p,_,rfl,cn.of hh,rfl,?_⟩
 k_data
 refine bC (λc=>?_) (λc=>?_)
 ·intro x dx hx hdx ne
  have ne':dx≠x:=ne
  refine⟨C,some dx,ai,x_NoInverse.cls,?_,?_⟩
  ·cases e:H x with
   | none=>rfl
   | some o=>rw [hs _ _ e] at hx;cases hx
  ·refine q2 c x dx _ ?_ ?_ ai ?_
   ·intro b o e
    have e1:=hs _ _ e
    have bx:b≠x:=λy=>by rw [y,hx] at e1;cases e1
    have bd:b≠dx:=λy=>by rw [y,hdx] at e1;cases e1
    rw [ak bx,ak bx,ak bd,ak bx]
    exact e1
   ·cases e:H x with
    | none=>rfl
    | some o=>rw [hs _ _ e] at hx;cases hx
   ·rw [ak ne',ak ne',ai]
 ·have g1:g=1:=by have:=G.pos;omega
  subst g1
  exact⟨hn,q1 rfl _ _ (Int.emod_nonneg _ (by omega)) (Int.emod_lt_of_pos _ hn) (pP hn z) hs⟩
end
end K
namespace K
open PySem PySem.Spec PyProof.Rows L2
section
variable {P:Program} {w:World} {K:PySem.W.Frag} {mg:Str->Option Value} {base:Heap}
def j7 (C:Addr):Sp:=λvs H Q E=>∃ n a e:Int,vs=[.int n,.int a,.int e]/\0<n/\n<=10^120 /\
 (0<=e->∀ H',au H H'->Q (.int (a^e.toNat%n)) H') /\
 (e<0->∀ g,Gd n a g ->
  (g=1->∀ b H',0<=b->b<n->n∣b*a-1->au H H'->Q (.int (b^(-e).toNat%n)) H') /\
  (1<g->∀ x dx H',au H H'->H x=none->H' x=some (XO x C (some dx))->H' dx=some (.xd [("divisor",.int g)])->E (.ref C) (some x) H'))
theorem i0:ay ["n","a","e","base","left","rest"] ["n","a","e"] (ah (top 20)):=fE
theorem lY {C:Addr} (D:aw K mg "power" (top 20)) (c_inverse:Callee P w K mg base (cz P w) 3 "inverse" ["n","a"] (gu C)) (n_abs:mg "abs"=none):Callee P w K mg base (cz P w) 4 "power" ["n","a","e"] (j7 C):=by
 refine cX D i0 (λf cdv A outer s H vs Q E hr h=>?_)
 obtain⟨n,a,e,rfl,hn,hn1,q1,q2⟩:=h
 have nd:=i0.nd
 refine⟨_,(af (bQ (i:=3) nd (ao aF (pv 1) (pv 0))) (af (fu (aR (ar dI (pv 2) ae (av _)) (aj (bQ (i:=3) nd (eS c_inverse hr iR (aa (pv 0) (aa (pv 1) ag))))) aC)) (eA.gW (af (bQ (i:=4) nd (aB dF rfl n_abs L2.boot_abs (aa (pv 2) ag))) (af (bQ (i:=5) nd (ao aF ae (pv 0))) (af (bD PassesOwn.never (ar eH (pv 4) ae (av _)) (af (fu (aR (ar cq (ao aF (pv 4) ae) ae (av _)) (aj (bQ (i:=5) nd (ao aF (ao aQ (pv 5) (pv 3)) (pv 0)))) aC)) (af (bQ (i:=3) nd (ao aF (ao aQ (pv 3) (pv 3)) (pv 0))) (aj (ft (i:=4) nd rfl (Or.inl rfl) ae (iJ iI)))))) (aj (aA (pv 5))))))))),?_⟩
 show cm _ _ _ [some (.int n),some (.int a),some (.int e),none,none,none] H
 k_data
 refine⟨hn,λσ' H'=>au H H'/\∃ b:Int,σ'=[some (.int n),some (.int a),some (.int e),some (.int b),none,none]/\0<=b/\b<n/\Q (.int (b^e.natAbs%n)) H',?_,?_⟩
 ·k_data
  refine bC (λc=>?_) (λc=>?_)
  ·refine⟨n,a,rfl,hn,by omega,λg G=>⟨λe1 r H' r0 r1 r2 hs=>?_,λg1 x dx H' hs hx hX hd=>?_⟩⟩
   ·have:=(q2 c g G).1 e1 r H' r0 r1 r2 hs
    rw [show (-e).toNat=e.natAbs by omega] at this
    exact⟨hs,r,rfl,r0,r1,this⟩
   ·exact (q2 c g G).2 g1 x dx H' hs hx hX hd
  ·have:=q1 (by omega) H (au.refl _)
   rw [show e.toNat=e.natAbs by omega,<- Pw.fq] at this
   exact⟨au.refl _,Int.emod_nonneg _ (by omega),Int.emod_lt_of_pos _ hn,this⟩
 ·rintro σ' H' ⟨hs,b,rfl,hb0,hb1,q⟩
  k_data
  refine⟨hn,?_⟩
  have ee:(if e<0 then -e else e)=(e.natAbs:Int):=by split<;>omega
  rw [ee]
  refine bG (α:=Int × Nat × Int) (λx=>[some (.int n),some (.int a),some (.int e),some (.int x.1),some (.int x.2.1),some (.int x.2.2)]) (λx H1=>H1=H'/\0<=x.1/\x.1<n/\0<=x.2.2/\x.2.2<n/\x.2.2*x.1^x.2.1%n=b^e.natAbs%n) (λx=>x.2.1) (b,e.natAbs,1%n) rfl ⟨rfl,hb0,hb1,Int.emod_nonneg _ (by omega),Int.emod_lt_of_pos _ hn,?_⟩ ?_
  ·show 1%n*b^e.natAbs%n=_
   rw [Pw.oO,Int.one_mul]
  rintro⟨b',l,r⟩ H1 ⟨rfl,h1,h2,h3,h4,h5⟩
  replace h1:0<=b':=h1
  replace h2:b'<n:=h2
  replace h3:0<=r:=h3
  replace h4:r<n:=h4
  replace h5:r*b'^l%n=b^e.natAbs%n:=h5
  k_data
  refine bC (λc=>?_) (λc=>?_)
  ·refine⟨_,λ_ _ z=>z,λσ' H2=>H2=H1/\σ'=[some (.int n),some (.int a),some (.int e),some (.int b'),some (.int l),some (.int (if l%2=1 then r*b'%n else r))],?_,?_⟩
   ·k_data
    refine bC (λc=>?_) (λc=>?_)
    ·exact⟨Bd.of (by omega) (by omega),Bd.of (by omega) (by omega),hn,by rw [if_pos (by omega)]⟩
    ·rw [if_neg (by omega)]
   rintro σ' H2 ⟨rfl,rfl⟩
   k_data
   have r0:0<=(if l%2=1 then r*b'%n else r)/\(if l%2=1 then r*b'%n else r)<n:=by
    split
    ·exact⟨Int.emod_nonneg _ (by omega),Int.emod_lt_of_pos _ hn⟩
    ·exact⟨h3,h4⟩
   refine⟨Bd.of (by omega) (by omega),Bd.of (by omega) (by omega),hn,jc (by decide),(b'*b'%n,l/2,if l%2=1 then r*b'%n else r),rfl,(by show (l:Int)/2=((l/2:Nat):Int);omega),rfl,Int.emod_nonneg _ (by omega),Int.emod_lt_of_pos _ hn,r0.1,r0.2,?_,?_⟩
   ·show (if l%2=1 then r*b'%n else r)*(b'*b'%n)^(l/2)%n=_
    rw [Pw.step]
    exact h5
   ·show l/2<l
    omega
  ·have l0:l=0:=by omega
   subst l0
   rw [Int.pow_zero,Int.mul_one] at h5
   have h6:r%n=r:=Int.emod_eq_of_lt h3 h4
   rw [<- h5,h6] at q
   exact q
def jE:Sp:=λvs H Q _=>∃ n k:Int,vs=[.int n,.int k]/\2<=n/\n<=10^120/\k<=10^120/\Ld.Inv n k/\∀ r,Ld.bX n r->Q (.int r) H
theorem bK:ay ["n","start","number"] ["n","start"] (ah (top 12)):=fE
theorem nB (D:aw K mg "least_divisor_from" (top 12)):Callee P w K mg base bf 1 "least_divisor_from" ["n","start"] jE:=by
 refine cO D bK (λf cdv A outer s H vs Q E hr h=>?_)
 obtain⟨n,k,rfl,hn,hn1,hk1,hk,q⟩:=h
 have nd:=bK.nd
 refine⟨_,(af (bQ (i:=2) nd (pv 1)) (af (bD PassesOwn.never (ar gh (ao aQ (pv 2) (pv 2)) (pv 0) (av _)) (af (aR (ar cq (ao aF (pv 0) (pv 2)) ae (av _)) (aj (aA (pv 2))) aC) (aj (ft (i:=2) nd rfl (Or.inl rfl) (fj (ar cq (pv 2) ae (av _)) ae ae) (iJ gN))))) (aj (aA (pv 0))))),?_⟩
 show cm _ _ _ [some (.int n),some (.int k),none] H
 k_data
 refine bG (α:=Int) (λx=>[some (.int n),some (.int k),some (.int x)]) (λx H1=>H1=H/\Ld.Inv n x/\x<=10^120+2) (λx=>(n+2-x).toNat) k rfl ⟨rfl,hk,by omega⟩ ?_
 rintro x H1 ⟨rfl,hx,hx1⟩
 have x2:=hx.two
 k_data
 refine⟨Bd.of (by omega) (by omega),Bd.of (by omega) (by omega),?_⟩
 refine bC (λc=>?_) (λc=>?_)
 ·have xn:x<=n:=by
   have:=Int.mul_le_mul_of_nonneg_left (show 1<=x by omega) (show 0<=x by omega)
   omega
  have st:=λz=>hx.step (k:=x) z
  refine⟨λσ' H'=>H'=H1/\∃ y,y=(x+if x=2 then 1 else 2)/\¬x∣n/\σ'=[some (V.int n),some (V.int k),some (V.int y)],?_,by omega,?_⟩
  ·rintro σ' H' ⟨rfl,y,hy,nd',rfl⟩
   refine⟨y,rfl,rfl,by rw [hy];exact st nd',?_,?_⟩
   ·split at hy<;>omega
   ·split at hy<;>omega
  refine bC (λc2=>?_) (λc2=>?_)
  ·exact q x (hx.found (Int.dvd_of_emod_eq_zero c2))
  have nd':¬x∣n:=λz=>c2 (Int.emod_eq_zero_of_dvd z)
  refine bC (λc3=>?_) (λc3=>?_)
  ·exact⟨rfl,_,by rw [if_pos c3],nd',rfl⟩
  ·exact⟨rfl,_,by rw [if_neg c3],nd',rfl⟩
 ·exact q n (hx.done hn (by omega))
def eU (c1 c2:Addr):Sp:=λvs H Q E=>∃ n:Int,vs=[.int n]/\(n<2->rR c1 H E)/\(10^9<n->qB c2 "part" (.int n) H E)/\(2<=n->n<=10^9->∀ r,Ld.bX n r->Q (.int r) H)
theorem cu:ay ["n"] ["n"] (ah (top 11)):=fE
theorem lW {c1 c2:Addr} (D:aw K mg "least_divisor" (top 11)) (c_least_divisor_from:Callee P w K mg base bf 1 "least_divisor_from" ["n","start"] jE) (x_NoNumber:iq K mg "NoNumber" c1) (x_TooFar:dE P w K mg base "TooFar" c2 "part")
  (g_GREATEST:∃ t,mg "GREATEST"=some (.int 1000000000 t)):Callee P w K mg base (cz P w) 3 "least_divisor" ["n"] (eU c1 c2):=by
 refine cX D cu (λf cdv A outer s H vs Q E hr h=>?_)
 obtain⟨n,rfl,q1,q2,q3⟩:=h
 obtain⟨tk,g_GREATEST⟩:=g_GREATEST
 have nd:=cu.nd
 refine⟨_,(af (aR (ar dI (pv 0) ae (av _)) (aj (bV (me x_NoNumber rfl))) aC) (af (aR (ar eH (pv 0) (bO (v:=.int 1000000000) rfl g_GREATEST ⟨_,rfl⟩) (av _)) (aj (bV (fk x_TooFar (hr.mono (by decide)) rfl (aa (pv 0) ag)))) aC) (eA.gW (aj (aA (eS c_least_divisor_from hr aN (aa (pv 0) (aa ae ag)))))))),?_⟩
 show cm _ _ _ [some (.int n)] H
 k_data
 refine bC (λc=>?_) (λc=>?_)
 ·exact λx hx=>fW x_NoNumber.cls (au.refl _) hx (q1 c)
 refine bC (λc'=>?_) (λc'=>?_)
 ·exact λx dx hx hdx ne=>dZ x_TooFar.cls (au.refl _) hx hdx ne (q2 (by omega))
 exact⟨n,2,rfl,by omega,by omega,by omega,⟨by omega,.inl rfl,λd d0 d1=>by omega⟩,q3 (by omega) (by omega)⟩
def sH (p:Int × Int):PyData:=.tuple [.int p.1,.int p.2]
def fB (K:PySem.W.Frag) (c1 c2:Addr):Sp:=λvs H Q E=>∃ n:Int,vs=[.int n]/\(n<1->rR c1 H E)/\(10^9<n->qB c2 "part" (.int n) H E)/\(1<=n->n<=10^9->∀ ps us p H',Num.Part n ps->ps.length<=29->au H H'->H p=none->H' p=some (.lst us)->bH K H' (ps.map sH) us->Q (.ref p) H')
theorem gn:ay ["n","parting","left","prime","many"] ["n"] (ah (top 13)):=fE
theorem kF {c1 c2:Addr} (D:aw K mg "parted" (top 13)) (c_least_divisor_from:Callee P w K mg base bf 1 "least_divisor_from" ["n","start"] jE) (x_NoNumber:iq K mg "NoNumber" c1) (x_TooFar:dE P w K mg base "TooFar" c2 "part")
  (g_GREATEST:∃ t,mg "GREATEST"=some (.int 1000000000 t)):Callee P w K mg base (cz P w) 3 "parted" ["n"] (fB K c1 c2):=by
 refine cX D gn (λf cdv A outer s H vs Q E hr h=>?_)
 obtain⟨n,rfl,q1,q2,q3⟩:=h
 obtain⟨tk,g_GREATEST⟩:=g_GREATEST
 have nd:=gn.nd
 refine⟨_,(af (aR (ar dI (pv 0) ae (av _)) (aj (bV (me x_NoNumber rfl))) aC) (af (aR (ar eH (pv 0) (bO (v:=.int 1000000000) rfl g_GREATEST ⟨_,rfl⟩) (av _)) (aj (bV (fk x_TooFar (hr.mono (by decide)) rfl (aa (pv 0) ag)))) aC) (eA.gW (af (bQ (i:=1) nd (bU ag)) (af (bQ (i:=2) nd (pv 0)) (af (bQ (i:=3) nd ae) (af (bD PassesOwn.never (ar eH (pv 2) ae (av _)) (af (bQ (i:=3) nd (eS c_least_divisor_from hr aN (aa (pv 2) (aa (pv 3) ag)))) (af (bQ (i:=4) nd ae) (af (bD PassesOwn.never (ar cq (ao aF (pv 2) (pv 3)) ae (av _)) (af (ft (i:=2) nd rfl (Or.inl rfl) (pv 3) (iJ iI)) (aj (ft (i:=4) nd rfl (Or.inl rfl) ae (iJ gN))))) (aj (ib (l8 PySem.F.plainAttrs_list PySem.F.slot_list_append PySem.F.type_list_append d5 (pv 1) (aa (d6 (aa (pv 3) (aa (pv 4) ag))) ag)))))))) (aj (aA (pv 1)))))))))),?_⟩
 show cm _ _ _ [some (.int n),none,none,none,none] H
 k_data
 refine bC (λc=>?_) (λc=>?_)
 ·exact λx hx=>fW x_NoNumber.cls (au.refl _) hx (q1 c)
 refine bC (λc'=>?_) (λc'=>?_)
 ·exact λx dx hx hdx ne=>dZ x_TooFar.cls (au.refl _) hx hdx ne (q2 (by omega))
 refine⟨by decide,λpp hpp=>?_⟩
 have n1:n<=10^9:=by omega
 refine bG (α:=Int × Int × Option V) (λx=>[some (.int n),some (.ref pp),some (.int x.1),some (.int x.2.1),x.2.2]) (λx H1=>au H H1/\∃(ps:List (Int × Int)) (us:List V),H1 pp=some (.lst us)/\bH K H1 (ps.map sH) us/\Num.Way n ps x.1 x.2.1) (λx=>x.1.toNat) (n,2,none) rfl ⟨az hpp,[],[],ai,rfl,.start (by omega)⟩ ?_
 rintro⟨left,prime,o⟩ H1 ⟨hs,ps,us,epp,hd,W⟩
 replace W:Num.Way n ps left prime:=W
 have l1:=W.pos
 have ln:left<=n:=by
  have z:=W.two
  have p0:=Num.aO (show (0:Int)<2 by decide) ps.length
  have:=Int.mul_le_mul_of_nonneg_right (show (1:Int)<=2^ps.length by omega) (show 0<=left by omega)
  omega
 k_data
 refine bC (λc3=>?_) (λc3=>?_)
 ·have pl:prime<=10^120:=by
   rcases (by omega:prime<=left∨left<prime) with z | z
   ·omega
   ·exact absurd (Int.dvd_refl left) (W.inv.no left (by omega) z)
  refine⟨_,λ_ _ z=>z,left,prime,rfl,by omega,by omega,pl,W.inv,λr hL=>?_⟩
  have r2:=hL.two
  have rl:=hL.le (by omega)
  refine bG (α:=Int × Nat) (λx=>[some (.int n),some (.ref pp),some (.int x.1),some (.int r),some (.int (x.2:Int))]) (λx H2=>H2=H1/\left=r^x.2*x.1/\1<=x.1/\x.1<=left) (λx=>x.1.toNat) (left,0) rfl ⟨rfl,by rw [Int.pow_zero,Int.one_mul],by omega,Int.le_refl _⟩ ?_
  rintro⟨lf,k⟩ H2 ⟨rfl,e1,e2,e3⟩
  replace e1:left=r^k*lf:=e1
  replace e2:1<=lf:=e2
  replace e3:lf<=left:=e3
  k_data
  refine⟨by omega,?_⟩
  refine bC (λc4=>?_) (λc4=>?_)
  ·obtain⟨q,hq⟩:=Int.dvd_of_emod_eq_zero c4
   have ed:lf/r=q:=by rw [hq];exact Int.mul_ediv_cancel_left _ (by omega)
   have q1':1<=q:=by
    rcases (by omega:q<=0∨1<=q) with z | z
    ·have:=Int.mul_nonpos_of_nonneg_of_nonpos (show 0<=r by omega) z
     omega
    ·exact z
   have ql:q<lf:=by
    rw [hq]
    have:=Int.mul_le_mul_of_nonneg_right r2 (show 0<=q by omega)
    omega
   refine⟨_,λ_ _ z=>z,by omega,Bd.of (by omega) (by omega),(q,k+1),?_,rfl,?_,q1',?_,?_⟩
   ·rw [ed];rfl
   ·rw [e1,hq,Int.pow_succ,Int.mul_assoc]
   ·show q<=left
    omega
   ·show q.toNat<lf.toNat
    omega
  ·have ng:¬r∣lf:=λz=>c4 (Int.emod_eq_zero_of_dvd z)
   have k1:1<=k:=by
    cases k with
    | zero=>rw [Int.pow_zero,Int.one_mul] at e1;exact absurd (e1▸hL.dv) ng
    | succ k=>omega
   have W2:=W.step n1 c3 hL e1 e2 k1 ng
   have len:=W.len n1
   have ul:us.length=ps.length:=by rw [hd.length,List.length_map]
   have lt:lf<left:=by
    obtain⟨k',rfl⟩:∃ k',k=k'+1:=⟨k-1,by omega⟩
    have p0:=Num.aO (show 0<r by omega) k'
    have h1:r<=r^(k'+1):=by
     rw [Int.pow_succ]
     have:=Int.mul_le_mul_of_nonneg_right (show 1<=r^k' by omega) (show 0<=r by omega)
     omega
    have:=Int.mul_le_mul_of_nonneg_right (show 2<=r^(k'+1) by omega) (show 0<=lf by omega)
    omega
   refine⟨.inl ⟨rfl,_,bh.of epp⟩,by show 2<=sizeLine;decide,λpt hpt=>?_⟩
   have s2:=az (o:=.tup [V.int r,V.int (k:Int)]) hpt
   have npt:pp≠pt:=λz=>by rw [<- z,epp] at hpt;cases hpt
   have el:=s2 _ _ epp
   have et:upd H2 pt (.tup [V.int r,V.int (k:Int)]) pt=some (.tup [V.int r,V.int (k:Int)]):=ai
   have hd2:=bH.same s2 _ hd
   have S2:=hs.trans s2
   generalize upd H2 pt _=H3 at *
   refine⟨pp,us,.ref pt,rfl,rfl,el,Nat.lt_of_le_of_lt (show us.length<=29 by omega) (by decide),(lf,r,some (.int (k:Int))),rfl,rfl,rfl,S2.upd hpp,⟨ps++[(r,(k:Int))],us++[.ref pt],ai,?_,W2⟩,?_⟩
   ·rw [List.map_append]
    refine bH.append (bH.but el (λb o ne h=>by rw [ak ne];exact h) _ (iN (λ_=>rfl) ps) hd2) (.one (dv.tup (xs:=[V.int r,V.int (k:Int)]) ?_ ⟨_,_,rfl,rfl,.one rfl⟩))
    rw [ak (Ne.symm npt)]
    exact et
   ·show lf.toNat<left.toNat
    omega
 ·have z:left=1:=by omega
  subst z
  exact q3 (by omega) n1 ps us pp H1 W.done (W.len n1) hs hpp epp hd
end
end K
namespace L2
open PySem PySem.Spec PyProof.Rows
theorem gO {X:Cx} (K:PySem.W.Frag) (h:X.K=K):rS X (qg K):=h▸aH
theorem nO {X:Cx} {pos:Pos} {es:List Expr} {k:Nat} {t:oq} {n:Nat} (K:PySem.W.Frag) (e:X.K=K) (hc:X.calm=true) (h:qF X es t)
  (hn:(assignEach es X.env).length=n:=by rfl) (hst:(assignEach es X.env).findIdx? (·.1)=none:=by rfl):PG X (.Tuple es k pos) (pN K n t):=e▸mf hc h hn hst
end L2
namespace K
open PySem PySem.Spec PyProof.Rows L2
section
variable {P:Program} {w:World} {K:PySem.W.Frag} {mg:Str->Option Value} {base:Heap}
theorem bL {X:Cx}:Passes (cz P w) X E0:=by
 intro pins σ H1 s1 e s' I hq
 obtain⟨x,C,T,dd,H',_,_,_,_,_,_,_,_,_,_,z⟩:=hq
 exact z.elim
theorem bI {H:Hp} {q:Addr} {xs:List V} {k:Int} {v:V} {Q:VK} (t:cn K H q xs) (e:jO xs k=some v) (h:Q v H):qg K (.ref q) (.int k) H Q:=⟨q,xs,k,v,rfl,rfl,t,e,h⟩
theorem iu {x:V} {r:List V}:jO (x::r) 0=some x:=by
 unfold jO nh
 simp
def tN (row:PyData) (q:Int):Prop:=∃ ds es,row=.tuple (.tuple (.int q::ds)::es)
def sT (rows:List PyData) (qs:List Int):Prop:=rows.length=qs.length/\∀(i:Nat) (row:PyData),rows[i]?=some row->∃ q,qs[i]?=some q/\tN row q
def cI (K:PySem.W.Frag):Sp:=λvs H Q _=>∃ v rows qs,vs=[v]/\dv K H (.tuple rows) v/\sT rows qs/\rows.length<=10^6/\∀ p H',au H H'->H p=none->H' p=some (.lst (qs.map V.int))->Q (.ref p) H'
theorem dP:ay ["parts"] ["parts"] (ah (top 18)):=fE
theorem iP (D:aw K mg "primes_in" (top 18)):Callee P w K mg base bf 1 "primes_in" ["parts"] (cI K):=by
 refine cO D dP (λf cdv A outer s H vs Q E hr h=>?_)
 obtain⟨v,rows,qs,rfl,hd,⟨hl,hq⟩,h6,q⟩:=h
 have nd:=dP.nd
 refine⟨_,(aj (aA (iS rfl (qL (N':=["row"]) (js:=[none]) rfl rfl) (hZ (pv 0)) (λ_ _ _ _=>(aZ (i:=0) (show List.Nodup [("row":Str)] from by decide +kernel) rfl (Or.inl rfl) (.inr rfl))) (λ_ _ _ _=>cZ) (λ_ _ _ _=>(aD (gO K rfl) (aD (gO K rfl) (pv 0) ae (λ_ _=>rfl)) ae (λ_ _=>rfl)))))),?_⟩
 show kP _ _ [some v] H
 obtain⟨p,xs,rfl,hS,ht⟩:=hd
 k_data
 have xl:=ht.length
 refine⟨⟨_,hS⟩,?_⟩
 refine fV (xs:=xs) (λi zs H3=>H3=H/\zs=(qs.take i).map V.int) ⟨rfl,rfl⟩ (Nat.le_trans (by omega) (show 10^6<=sizeLine by decide)) (λi zs H3 hi ⟨e1,e2⟩=>⟨by rw [e1];exact hS,by rw [e2];simp;omega⟩) ?_ ?_
 ·rintro i x zs H3 hx ⟨rfl,rfl⟩
  obtain⟨d,hd,hv⟩:=ht.get hx
  obtain⟨q',hq',ds,es,rfl⟩:=hq i d hd
  obtain⟨p1,x1,rfl,t1,u,r1,rfl,hv2,_⟩:=hv
  obtain⟨p2,x2,rfl,t2,u',r2,rfl,hv3,_⟩:=hv2
  cases hv3
  show eC 0 _ [none] _ _
  k_data
  refine⟨True.intro,bI t1 iu (bI t2 iu ⟨rfl,?_⟩)⟩
  rw [List.take_add_one,hq',List.map_append]
  rfl
 ·rintro zs H3 p3 ⟨rfl,rfl⟩ hp3
  rw [show xs.length=qs.length by omega,List.take_length]
  exact q p3 _ (az hp3) hp3 ai
def sf (n a e:Int) (qs:List Int):Prop:=a^e.toNat%n=1/\∀ q∈qs,a^(e/q).toNat%n≠1
def gv (K:PySem.W.Frag):Sp:=λvs H Q _=>∃(n a e:Int) (p:Addr) (qs:List Int),vs=[.int n,.int a,.int e,.ref p]/\0<n/\n<=10^120/\0<=e/\e<=10^120/\bh K H p (qs.map V.int)/\(∀ q∈qs,0<q/\q<=10^120)/\qs.length<=10^6/\∀ b H',(b=true↔sf n a e qs)->au H H'->Q (.bl b) H'
theorem eI:ay ["n","a","e","primes"] ["n","a","e","primes"] (ah (top 21)):=fE
theorem jx {C:Addr} (D:aw K mg "is_least" (top 21)) (c_power:Callee P w K mg base (cz P w) 4 "power" ["n","a","e"] (j7 C)) (n_all:mg "all"=none):Callee P w K mg base bf 5 "is_least" ["n","a","e","primes"] (gv K):=by
 refine cO D eI (λf cdv A outer s H vs Q E hr h=>?_)
 obtain⟨n,a,e,p,qs,rfl,hn,hn1,he,he1,hS,hq,hl,q⟩:=h
 have nd:=eI.nd
 refine⟨_,(aj (aA (hG (de cq (eS c_power hr bL (aa (pv 0) (aa (pv 1) (aa (pv 2) ag)))) ae (av _)) (hJ (aB (iw rfl) rfl n_all L2.boot_all (aa (iS rfl (qL (N':=["prime","n","a","e"]) (js:=[none,some 0,some 1,some 2]) rfl rfl) (hW (pv 3)) (λ_ _ _ _=>(aZ (i:=0) (show List.Nodup [("prime":Str),("n":Str),("a":Str),("e":Str)] from by decide +kernel) rfl (Or.inl rfl) (.inr rfl))) (λ_ _ _ _=>cZ) (λ_ _ _ _=>(de fh (eS c_power hr bL (aa (pv 1) (aa (pv 2) (aa (ao br (pv 3) (pv 0)) ag)))) ae (av _)))) ag)))))),?_⟩
 show kP _ _ [some (.int n),some (.int a),some (.int e),some (.ref p)] H
 k_data
 refine⟨n,a,e,rfl,hn,hn1,λ_ H1 s1=>?_,λz=>absurd z (by omega)⟩
 have hS1:=hS.same s1
 k_data
 refine bC (λc=>?_) (λc=>?_)
 ·refine⟨⟨_,hS1⟩,?_⟩
  refine e7 (xs:=qs.map V.int) (λi zs H3=>au H H3/\zs=((qs.take i).map λq=>decide (a^(e/q).toNat%n≠1)).map V.bl) ⟨s1,rfl⟩ (by rw [List.length_map];exact Nat.le_trans hl (show 10^6<=sizeLine by decide)) (λi zs H3 hi ⟨e1,e2⟩=>⟨hS.same e1,by rw [e2];simp;omega⟩) ?_ ?_
  ·rintro i x zs H3 hx ⟨s3,rfl⟩
   rw [List.getElem?_map] at hx
   obtain⟨y,hy,rfl⟩:=Option.map_eq_some_iff.mp hx
   have my:=hq y (List.mem_of_getElem? hy)
   show eC 0 _ [none,some (.int n),some (.int a),some (.int e)] _ _
   k_data
   refine⟨⟨rfl,rfl,rfl,True.intro⟩,my.1,Bd.of (by omega) (by omega),n,a,e/y,rfl,hn,hn1,λ_ H4 s4=>⟨bF,?_⟩,λz=>absurd (Int.ediv_nonneg he (show 0<=y by omega)) (by omega)⟩
   refine⟨s3.trans s4,?_⟩
   rw [List.take_add_one,hy,List.map_append,List.map_append]
   simp
  ·rintro zs H3 p3 ⟨s3,rfl⟩ hp3
   rw [List.length_map,List.take_length]
   refine kZ (bs:=qs.map λq=>decide (a^(e/q).toNat%n≠1)) (bh.of ai) ?_
   refine q _ _ ?_ (s3.trans (az hp3))
   rw [List.all_eq_true]
   constructor
   ·intro h
    refine⟨c,λy hy=>?_⟩
    have:=h _ (List.mem_map.mpr ⟨y,hy,rfl⟩)
    simpa using this
   ·intro h b hb
    obtain⟨y,hy,rfl⟩:=List.mem_map.mp hb
    simpa using h.2 y hy
 ·exact q false _ ⟨λz=>(by cases z),λz=>absurd z.1 c⟩ s1
theorem jb {n x:Int} (hn:2<=n):x%n=1↔Num.Al n x 1:=by
 constructor
 ·intro h
  refine⟨x/n,?_⟩
  have:=Int.emod_add_mul_ediv x n
  omega
 ·rintro⟨k,hk⟩
  rw [show x=1+n*k by omega,Int.add_mul_emod_self_left]
  exact Int.emod_eq_of_lt (by omega) (by omega)
theorem gT {n a e:Int} {ps:List (Int × Int)} (hn:2<=n) (h:Num.Part e ps) (he:1<=e):sf n a e (ps.map (·.1))↔Num.Ord n a e.toNat:=by
 rw [<- Num.l7 h he]
 unfold sf
 rw [jb hn]
 constructor
 ·exact fun⟨h1,h2⟩=>⟨h1,λq hq z=>h2 q hq ((jb hn).mpr z)⟩
 ·exact fun⟨h1,h2⟩=>⟨h1,λq hq z=>h2 q hq ((jb hn).mp z)⟩
theorem cV (P:Int->Prop) {g:Int} (h1:1<=g) (h:P g):∃ m,1<=m/\m<=g/\P m/\∀ a,1<=a->a<m->¬P a:=by
 have:∀(k:Nat) (g:Int),g.toNat=k->1<=g->P g->∃ m,1<=m/\m<=g/\P m/\∀ a,1<=a->a<m->¬P a:=by
  intro k
  induction k using Nat.strongRecOn with
  | ind k ih =>
   intro g hk h1 hg
   by_cases c:∃ a,1<=a/\a<g/\P a
   ·obtain⟨a,a1,a2,a3⟩:=c
    obtain⟨m,m1,m2,m3,m4⟩:=ih a.toNat (by omega) a rfl a1 a3
    exact⟨m,m1,by omega,m3,m4⟩
   ·exact⟨g,h1,Int.le_refl _,hg,λa a1 a2 a3=>c ⟨a,a1,a2,a3⟩⟩
 exact this _ g rfl h1 h
theorem qT {p:Int} (hp:Num.Pm p):∃ g,Num.LF p g:=by
 obtain⟨g,g1,g2,g3⟩:=Num.gJ hp
 obtain⟨m,m1,m2,m3,m4⟩:=cV (λa=>Num.Ord p a (p-1).toNat) g1 g3
 exact⟨m,m1,by omega,m3,m4⟩
def b7 (K:PySem.W.Frag):Sp:=λvs H Q _=>∃(n:Int) (p:Addr) (ps:List (Int × Int)),vs=[.int n,.ref p]/\Num.Pm n/\n<=10^9/\Num.Part (n-1) ps/\ps.length<=29/\bh K H p (ps.map λx=>V.int x.1)/\∀ g H',Num.LF n g->au H H'->Q (.int g) H'
theorem nL {n:Int} {ps:List (Int × Int)} (h:Num.Part n ps) (hn:1<=n):∀ q∈ps.map (·.1),2<=q/\q<=n:=λq hq=>by
 obtain⟨x,hx,rfl⟩:=List.mem_map.mp hq
 obtain⟨o1,o2,_⟩:=h.ok x hx
 have:=Num.cT hx o2
 rw [h.prod] at this
 exact⟨o1.two,Int.le_of_dvd (by omega) this⟩
theorem dz:ay ["p","primes","full"] ["p","primes"] (ah (top 25)):=fE
theorem gX (D:aw K mg "least_full" (top 25)) (c_is_least:Callee P w K mg base bf 5 "is_least" ["n","a","e","primes"] (gv K)):Callee P w K mg base bf 6 "least_full" ["p","primes"] (b7 K):=by
 refine cO D dz (λf cdv A outer s H vs Q E hr h=>?_)
 obtain⟨n,p,ps,rfl,hp,hn,hP,hl,hS,q⟩:=h
 have n2:=hp.two
 obtain⟨g,G⟩:=qT hp
 have g1:=G.one
 have g2:=G.lt
 have nd:=dz.nd
 refine⟨_,(af (bQ (i:=2) nd ae) (af (bD PassesOwn.never (bE (aW (eS c_is_least hr aN (aa (pv 0) (aa (pv 2) (aa (ao bT (pv 0) ae) (aa (pv 1) ag))))) (λ_=>rfl))) (aj (ft (i:=2) nd rfl (Or.inl rfl) ae (iJ gN)))) (aj (aA (pv 2))))),?_⟩
 show cm _ _ _ [some (.int n),some (.ref p),none] H
 k_data
 refine bG (α:=Int) (λx=>[some (.int n),some (.ref p),some (.int x)]) (λx H1=>au H H1/\1<=x/\x<=g) (λx=>(g-x).toNat) 1 rfl ⟨au.refl _,Int.le_refl _,g1⟩ ?_
 rintro x H1 ⟨s1,x1,x2⟩
 replace x1:1<=x:=x1
 replace x2:x<=g:=x2
 k_data
 refine⟨n,x,n-1,p,ps.map (·.1),rfl,by omega,by omega,by omega,by omega,?_,λy hy=>?_,?_,λb H2 hb s2=>?_⟩
 ·rw [List.map_map];exact hS.same s1
 ·have:=nL hP (by omega) y hy
  omega
 ·rw [List.length_map];exact Nat.le_trans hl (by decide)
 rw [gT n2 hP (by omega)] at hb
 refine⟨b,bc.mpr rfl,?_⟩
 cases b
 ·have nx:¬Num.Ord n x (n-1).toNat:=λz=>by have:=hb.mpr z;cases this
  have ne:x≠g:=λz=>nx (z▸G.ord)
  refine⟨_,λ_ _ z=>z,x+1,rfl,s1.trans s2,by omega,by omega,by omega⟩
 ·have hx:=hb.mp rfl
  have xg:x=g:=by
   rcases (by omega:x=g∨x<g) with z | z
   ·exact z
   ·exact absurd hx (G.no x x1 z)
  rw [xg]
  exact q g H2 G (s1.trans s2)
theorem iZ {ps:List (Int × Int)} {p:Int × Int} {ds ds':Nat->PyData} (h:∀ j,j<ps.length->ds' j=ds j):Num.rowsOf (ps++[p]) ds'=Num.rowsOf ps ds++[.tuple [ds' ps.length,.int p.2]]:=by
 unfold Num.rowsOf
 rw [List.length_append,List.length_singleton,List.range_succ,List.map_append]
 congr 1
 ·refine List.map_congr_left λj hj=>?_
  have:=List.mem_range.mp hj
  rw [h j this,List.getD_eq_getElem?_getD,List.getD_eq_getElem?_getD,List.getElem?_append_left this]
 ·simp
theorem iH {ps:List (Int × Int)} {ds:Nat->PyData} (h:∀ i q k,ps[i]?=some (q,k)->Num.i5 q (ds i)):sT (Num.rowsOf ps ds) (ps.map (·.1)):=by
 refine⟨by rw [Num.bw,List.length_map],λi row hi=>?_⟩
 have hl:=(List.getElem?_eq_some_iff.mp hi).1
 rw [Num.bw] at hl
 have hg:=List.getElem?_eq_getElem hl
 rw [Num.dB hg] at hi
 obtain⟨g,rows,e⟩:=(h i _ _ hg).head
 exact⟨ps[i].1,by rw [List.getElem?_map,hg];rfl,[.int g,.tuple rows],[.int ps[i].2],by rw [<- Option.some.inj hi,e];rfl⟩
theorem pK {H:Hp} {q k:Int} {v:V} (h:dv K H (sH (q,k)) v):∃ p,v=.ref p/\cn K H p [.int q,.int k]:=by
 obtain⟨p,xs,rfl,h1,x,r,rfl,d1,y,r',rfl,d2,h4⟩:=h
 cases h4
 cases d1
 cases d2
 exact⟨p,rfl,h1⟩
def dR (K:PySem.W.Frag) (L:Nat):Sp:=λvs H Q _=>∃ n:Int,vs=[.int n]/\Num.Pm n/\n<=10^9/\Num.Ht L n/\∀ d v H',Num.i5 n d->au H H'->dv K H' d v->Q v H'
def df (K:PySem.W.Frag) (L:Nat):Sp:=λvs H Q _=>∃ n:Int,vs=[.int n]/\1<=n/\n<=10^9/\(∀ q,Num.Pm q->q∣n->Num.Ht L q)/\∀ ps ds v H',Num.Part n ps->ps.length<=29->(∀ i q k,ps[i]?=some (q,k)->Num.i5 q (ds i))->au H H'->dv K H' (.tuple (Num.rowsOf ps ds)) v->Q v H'
theorem a7:ay ["n","least","parts"] ["n"] (ah (top 23)):=fE
theorem kE {L:Nat} {c1 c2 c3:Addr} (D:aw K mg "prime_paper" (top 23)) (c_least_divisor:Callee P w K mg base (cz P w) 3 "least_divisor" ["n"] (eU c1 c2)) (c_parting_paper:Callee P w K mg base bf (2*L+8) "parting_paper" ["n"] (df K L)) (c_least_full:Callee P w K mg base bf 6 "least_full" ["p","primes"] (b7 K)) (c_primes_in:Callee P w K mg base bf 1 "primes_in" ["parts"] (cI K)) (x_NoPrime:dE P w K mg base "NoPrime" c3 "divisor"):Callee P w K mg base (cz P w) (2*L+9) "prime_paper" ["n"] (dR K (L+1)):=by
 refine cX D a7 (λf cdv A outer s H vs Q E hr h=>?_)
 obtain⟨n,rfl,hp,hn,hH,q⟩:=h
 have n2:=hp.two
 have nd:=a7.nd
 refine⟨_,(af (bQ (i:=1) nd (aI c_least_divisor (hr.mono (by omega)) rfl bL (aa (pv 0) ag))) (af (aR (ar dI (pv 1) (pv 0) (av _)) (aj (bV (fk x_NoPrime (hr.mono (by omega)) rfl (aa (pv 1) ag)))) aC) (eA.gW (af (bQ (i:=2) nd (aI c_parting_paper (hr.mono (by omega)) rfl aN (aa (ao bT (pv 0) ae) ag))) (aj (aA (d6 (aa (pv 0) (aa (aI c_least_full (hr.mono (by omega)) rfl aN (aa (pv 0) (aa (aI c_primes_in (hr.mono (by omega)) rfl aN (aa (pv 2) ag)) ag))) (aa (pv 2) ag)))))))))),?_⟩
 show cm _ _ _ [some (.int n),none,none] H
 k_data
 refine⟨n,rfl,λz=>absurd z (by omega),λz=>absurd z (by omega),λ_ _ r hL=>⟨r,rfl,?_⟩⟩
 have rn:r=n:=by
  have:=hL.le (by omega)
  rcases (by omega:r<n∨r=n) with z | z
  ·exact absurd hL.dv (hp.no r hL.two z)
  ·exact z
 rw [if_neg (by omega)]
 refine⟨n-1,rfl,by omega,by omega,hH,λps ds v H1 hP hl hds s1 hv=>?_⟩
 refine⟨v,Num.rowsOf ps ds,ps.map (·.1),rfl,hv,iH hds,by rw [Num.bw];exact Nat.le_trans hl (by decide),λp H2 s2 f2 h2=>?_⟩
 rw [List.map_map] at h2
 refine⟨n,p,ps,rfl,hp,hn,hP,hl,bh.of h2,λg H3 hg s3=>⟨by show 3<=sizeLine;decide,λp3 hp3=>?_⟩⟩
 have s4:=az (o:=.tup [V.int n,V.int g,v]) hp3
 exact q _ _ _ (.mk n g ps ds hp hn hg hP hl hds) (((s1.trans s2).trans s3).trans s4) (dv.tup ai ⟨_,_,rfl,rfl,_,_,rfl,rfl,.one (dv.same ((s2.trans s3).trans s4) _ hv)⟩)
theorem cw:ay ["n"] ["n"] (ah (top 24)):=fE
theorem eG {L:Nat} {c1 c2:Addr} (D:aw K mg "parting_paper" (top 24)) (c_parted:Callee P w K mg base (cz P w) 3 "parted" ["n"] (fB K c1 c2)) (c_prime_paper:Callee P w K mg base (cz P w) (2*L+7) "prime_paper" ["n"] (dR K L)) (n_tuple:mg "tuple"=none):Callee P w K mg base bf (2*L+8) "parting_paper" ["n"] (df K L):=by
 refine cO D cw (λf cdv A outer s H vs Q E hr h=>?_)
 obtain⟨n,rfl,n1,n9,hH,q⟩:=h
 have nd:=cw.nd
 refine⟨_,(aj (aA (gj fH rfl n_tuple L2.boot_tuple (aa (iS rfl (qL (N':=["prime","many"]) (js:=[none,none]) rfl rfl) (hW (aI c_parted (hr.mono (by omega)) rfl bL (aa (pv 0) ag))) (λ_ _ _ _=>(nO K rfl (n:=2) rfl (cY (aZ (i:=0) (show List.Nodup [("prime":Str),("many":Str)] from by decide +kernel) rfl (Or.inl rfl) (.inr rfl)) (cY (aZ (i:=1) (show List.Nodup [("prime":Str),("many":Str)] from by decide +kernel) rfl (Or.inl rfl) (.inr rfl)) j1)))) (λ_ _ _ _=>cZ) (λ_ _ _ _=>(d6 (aa (aI c_prime_paper (hr.mono (by omega)) rfl bL (aa (pv 0) ag)) (aa (pv 1) ag))))) ag)))),?_⟩
 show kP _ _ [some (.int n)] H
 k_data
 refine⟨n,rfl,λz=>absurd z (by omega),λz=>absurd z (by omega),λ_ _ ps us p H1 hP hl s1 f1 h1 hd=>⟨p,rfl,⟨_,bh.of h1⟩,?_⟩⟩
 have ul:us.length=ps.length:=by rw [hd.length,List.length_map]
 refine e7 (xs:=us) (λi zs H3=>au H1 H3/\∃ ds,(∀ j q k,(ps.take i)[j]?=some (q,k)->Num.i5 q (ds j))/\bH K H3 (Num.rowsOf (ps.take i) ds) zs) ⟨au.refl _,λ_=>.none,λj q k z=>by simp at z,rfl⟩ (by rw [ul];exact Nat.le_trans hl (by decide)) (λi zs H3 hi ⟨e1,ds,e2,e3⟩=>⟨bh.of (e1 _ _ h1),by rw [e3.length,Num.bw,List.length_take];omega⟩) ?_ ?_
 ·rintro i x zs H3 hx ⟨s3,ds,hds,hz⟩
  obtain⟨d,hd',hv⟩:=hd.get hx
  rw [List.getElem?_map] at hd'
  obtain⟨⟨q',k'⟩,hy,rfl⟩:=Option.map_eq_some_iff.mp hd'
  obtain⟨pt,rfl,tt⟩:=pK hv
  have hok:=hP.ok _ (List.mem_of_getElem? hy)
  have hdv:q'∣n:=by
   have:=Num.cT (List.mem_of_getElem? hy) hok.2.1
   rwa [hP.prod] at this
  have ql:q'<=n:=Int.le_of_dvd (by omega) hdv
  show pN K 2 _ _ [none,none] _ _
  refine⟨pt,_,rfl,tt.same s3,rfl,?_⟩
  k_data
  refine⟨True.intro,q',rfl,hok.1,by omega,hH q' hok.1 hdv,λd v H4 hp4 s4 hv4=>⟨by show 2<=sizeLine;decide,λp5 hp5=>?_⟩⟩
  have s5:=az (o:=.tup [v,V.int k']) hp5
  have tk:ps.take (i+1)=ps.take i++[(q',k')]:=by rw [List.take_add_one,hy];rfl
  have il:i<ps.length:=(List.getElem?_eq_some_iff.mp hy).1
  have tl:(ps.take i).length=i:=by rw [List.length_take];omega
  refine⟨(s3.trans s4).trans s5,λj=>if j=i then d else ds j,λj q k hj=>?_,?_⟩
  ·rw [tk] at hj
   rcases (by omega:j<i∨j=i∨i<j) with z | z | z
   ·rw [List.getElem?_append_left (by omega)] at hj
    show Num.i5 q (if j=i then d else ds j)
    rw [if_neg (by omega)]
    exact hds j q k hj
   ·subst z
    rw [List.getElem?_append_right (by omega),tl,Nat.sub_self] at hj
    show Num.i5 q (if j=j then d else ds j)
    rw [if_pos rfl]
    cases hj
    exact hp4
   ·rw [List.getElem?_eq_none (by simp;omega)] at hj
    cases hj
  ·rw [tk,iZ (ds:=ds) (λj hj=>if_neg (by omega)),tl,if_pos rfl]
   exact bH.append (bH.same (s4.trans s5) _ hz) (.one (dv.tup ai ⟨_,_,rfl,dv.same s5 _ hv4,.one rfl⟩))
 ·rintro zs H3 p3 ⟨s3,ds,hds,hz⟩ hp3
  rw [ul,List.take_length] at hds hz
  have s4:=az (o:=.lst zs) hp3
  refine⟨p3,rfl,zs,.inl ⟨bh.of ai,λl hl'=>?_⟩⟩
  generalize upd H3 p3 _=H4 at *
  have s5:=az (o:=.tup zs) hl'
  exact q ps ds _ _ hP hl hds (((s1.trans s3).trans s4).trans s5) (dv.tup ai (bH.same (s4.trans s5) _ hz))
theorem gf {L:Nat} (D:aw K mg "prime_paper" (top 23)):Callee P w K mg base (cz P w) 7 "prime_paper" ["n"] (dR K 0):=by
 refine cX D a7 (λf cdv A outer s H vs Q E hr h=>?_)
 obtain⟨n,rfl,hp,hn,hH,q⟩:=h
 exact hH.elim
theorem gg {c1 c2 c3:Addr} (D1:aw K mg "prime_paper" (top 23)) (D2:aw K mg "parting_paper" (top 24)) (c_least_divisor:Callee P w K mg base (cz P w) 3 "least_divisor" ["n"] (eU c1 c2)) (c_parted:Callee P w K mg base (cz P w) 3 "parted" ["n"] (fB K c1 c2)) (c_least_full:Callee P w K mg base bf 6 "least_full" ["p","primes"] (b7 K)) (c_primes_in:Callee P w K mg base bf 1 "primes_in" ["parts"] (cI K)) (x_NoPrime:dE P w K mg base "NoPrime" c3 "divisor") (n_tuple:mg "tuple"=none):∀ L:Nat,Callee P w K mg base (cz P w) (2*L+7) "prime_paper" ["n"] (dR K L)/\Callee P w K mg base bf (2*L+8) "parting_paper" ["n"] (df K L)
 | 0=>⟨gf (L:=0) D1,eG (L:=0) D2 c_parted (gf (L:=0) D1) n_tuple⟩
 | L+1=>by
  have h:=gg D1 D2 c_least_divisor c_parted c_least_full c_primes_in x_NoPrime n_tuple L
  have a:=kE D1 c_least_divisor h.2 c_least_full c_primes_in x_NoPrime
  have a':Callee P w K mg base (cz P w) (2*(L+1)+7) "prime_paper" ["n"] (dR K (L+1)):=a.mono (by omega)
  exact⟨a',eG D2 c_parted a' n_tuple⟩
def mv:Sp:=λvs H Q _=>∃(n a:Int) (e:Int),vs=[.int n,.int a,.int e]/\0<n/\n<=10^100 /\ -(10^100)<=a/\a<=10^100/\0<=e/\Q (.int (a^e.toNat%n)) H
theorem dk:ay ["_law_n","_law_a","_law_e","_law_found"] ["_law_n","_law_a","_law_e"] (ah (top 30)):=fE
theorem nF (D:aw K mg "_law_power" (top 30)):Callee P w K mg base bf 1 "_law_power" ["_law_n","_law_a","_law_e"] mv:=by
 refine cO D dk (λf cdv A outer s H vs Q E hr h=>?_)
 obtain⟨n,a,e,rfl,hn,hn1,a0,a1,he,q⟩:=h
 have nd:=dk.nd
 refine⟨_,(af (bQ (i:=3) nd (ao aF ae (pv 0))) (af (bD PassesOwn.never (ar eH (pv 2) ae (av _)) (af (fu (aR (ar cq (ao aF (pv 2) ae) ae (av _)) (aj (bQ (i:=3) nd (ao aF (ao aQ (pv 3) (pv 1)) (pv 0)))) aC)) (af (bQ (i:=1) nd (ao aF (ao aQ (pv 1) (pv 1)) (pv 0))) (aj (bQ (i:=2) nd (ao br (pv 2) ae)))))) (aj (aA (pv 3))))),?_⟩
 show cm _ _ _ [some (.int n),some (.int a),some (.int e),none] H
 k_data
 refine⟨hn,?_⟩
 have r0:=λx:Int=>Int.emod_nonneg x (show n≠0 by omega)
 have r1:=λx:Int=>Int.emod_lt_of_pos x hn
 refine bG (α:=Nat × Int × Int) (λx=>[some (.int n),some (.int x.2.2),some (.int (x.1:Int)),some (.int x.2.1)]) (λx H1=>H1=H /\ -(10^100)<=x.2.2/\x.2.2<=10^100/\0<=x.2.1/\x.2.1<n/\x.2.1*x.2.2^x.1%n=a^e.toNat%n) (λx=>x.1) (e.toNat,1%n,a) (by rw [show ((e.toNat:Nat):Int)=e by omega]) ⟨rfl,a0,a1,r0 1,r1 1,?_⟩ ?_
 ·show 1%n*a^e.toNat%n=_
  rw [Pw.oO,Int.one_mul]
 rintro⟨l,r,b⟩ H1 ⟨rfl,h1,h2,h3,h4,h5⟩
 replace h1:-(10^100)<=b:=h1
 replace h2:b<=10^100:=h2
 replace h3:0<=r:=h3
 replace h4:r<n:=h4
 replace h5:r*b^l%n=a^e.toNat%n:=h5
 k_data
 refine bC (λc=>?_) (λc=>?_)
 ·refine⟨_,λ_ _ z=>z,λσ' H2=>H2=H1/\σ'=[some (.int n),some (.int b),some (.int (l:Int)),some (.int (if l%2=1 then r*b%n else r))],?_,?_⟩
  ·k_data
   refine bC (λc=>?_) (λc=>?_)
   ·exact⟨Bd.of (by omega) (by omega),Bd.of (by omega) (by omega),hn,by rw [if_pos (by omega)]⟩
   ·rw [if_neg (by omega)]
  rintro σ' H2 ⟨rfl,rfl⟩
  k_data
  have z0:0<=(if l%2=1 then r*b%n else r)/\(if l%2=1 then r*b%n else r)<n:=by
   split
   ·exact⟨r0 _,r1 _⟩
   ·exact⟨h3,h4⟩
  have b0:=r0 (b*b)
  have b1:=r1 (b*b)
  refine⟨Bd.of (by omega) (by omega),Bd.of (by omega) (by omega),hn,jc (by decide),(l/2,(if l%2=1 then r*b%n else r),b*b%n),rfl,(by show (l:Int)/2=((l/2:Nat):Int);omega),rfl,by show -(10^100)<=b*b%n;omega,by show b*b%n<=10^100;omega,z0.1,z0.2,?_,?_⟩
  ·show (if l%2=1 then r*b%n else r)*(b*b%n)^(l/2)%n=_
   rw [Pw.step]
   exact h5
  ·show l/2<l
   omega
 ·have l0:l=0:=by omega
  subst l0
  rw [Int.pow_zero,Int.mul_one,Int.emod_eq_of_lt h3 h4] at h5
  rw [h5]
  exact q
end
end K
namespace L2
open PySem PySem.Spec PyProof.Rows
theorem iy {lo:Int} {n:Nat} {js:List (Option Nat)} {g:TG} {tt:TT} {te:TE} {σ:St} {Q:VK} {H1:Hp} (Pv:Nat->List V->Hp->Prop) (h0:Pv 0 [] H1) (hx:n<=sizeLine) (hl:∀ i ys H,i<=n->Pv i ys H->ys.length<=i)
  (hs:∀ i ys H,i<n->Pv i ys H->g (.int (lo+(i:Int))) (cf js σ) H λσ2 H2=>a6 (cf js σ) σ2/\tt σ2 H2 λb H3=>if b=true then te σ2 H3 λv H4=>Pv (i+1) (ys++[v]) H4 else Pv (i+1) ys H3)
  (hd:∀ ys H p,Pv n ys H->H p=none->Q (.ref p) (upd H p (.lst ys))):jM (mM lo n) js g tt te σ Q H1:=by
 refine⟨λi m ys H=>m=n-i/\i<=n/\Pv i ys H,⟨n,by simp,Nat.zero_le _,h0⟩,?_⟩
 rintro i m ys H ⟨rfl,hi,p⟩
 have hy:=hl i ys H hi p
 by_cases hlt:i<n
 ·refine .inr ⟨hlt,by omega,Pv (i+1),λys' H' p'=>⟨n-(i+1),by omega,rfl,by omega,p'⟩,?_⟩
  rintro x H' ⟨rfl,rfl⟩
  exact hs i ys H' hlt p
 ·have e:i=n:=by omega
  subst e
  exact .inl ⟨Nat.le_refl _,by omega,λq hq=>hd ys H q p hq⟩
end L2
namespace K
open PySem PySem.Spec PyProof.Rows L2
section
variable {P:Program} {w:World} {K:PySem.W.Frag} {mg:Str->Option Value} {base:Heap}
theorem lj {ns:List Int} {lo hi:Option Int} {x:V} (h:x∈iz (ns.map V.int) lo hi):∃ c,x=.int c:=by
 unfold iz at h
 have:=List.mem_of_mem_drop (List.mem_of_mem_take h)
 obtain⟨c,_,e⟩:=List.mem_map.mp this
 exact⟨c,e.symm⟩
theorem lI {x y k lo hi:Int} {p:Addr} {H':Hp} {Q:VK} (e:H' p=some (.lst [.int x,.int y])) (h0:0<=k) (h1:k<2) (hx:lo<=x/\x<hi) (hy:lo<=y/\y<hi) (q:∀ m,lo<=m->m<hi->Q (.int m) H'):mn K (.ref p) (.int k) H' Q :=
 eR (bh.of e) h0 (by show _<(2:Int);omega) λv hv=>by
  simp only [List.mem_cons,List.not_mem_nil,or_false] at hv
  rcases hv with rfl | rfl
  ·exact q _ hx.1 hx.2
  ·exact q _ hy.1 hy.2
theorem nS {a d L:Int} (hd:0<d) (h0:-L<=a) (h1:a<=L):-L<=a/d/\a/d<=L:=by
 have L0:0<=L:=by omega
 have h2:L*1<=L*d:=Int.mul_le_mul_of_nonneg_left (show 1<=d by omega) L0
 refine⟨Int.le_ediv_of_mul_le hd (by rw [Int.neg_mul];omega),Int.ediv_le_of_le_mul hd (by omega)⟩
def oR (K:PySem.W.Frag):Sp:=λvs H Q _=>∃(a:Addr) (ns:List Int),vs=[.ref a]/\bh K H a (ns.map V.int)/\ns.length<=63/\∀ H',Q (.bl true) H'
def rA (K:PySem.W.Frag):Sp:=λvs H Q _=>∃ d v,vs=[v]/\dv K H d v/\Q (.bl (sy d)) H
theorem dw:ay ["_law_found"] ["_law_found"] (ah (top 27)):=fE
theorem qX (D:aw K mg "_law_whole" (top 27)) (n_isinstance:mg "isinstance"=none) (n_int:mg "int"=none) (n_bool:mg "bool"=none):Callee P w K mg base bf 1 "_law_whole" ["_law_found"] (rA K):=by
 refine cO D dw (λf cdv A outer s H vs Q E hr h=>?_)
 obtain⟨d,v,rfl,hd,q⟩:=h
 have nd:=dw.nd
 refine⟨_,(aj (aA (hG (aB bP rfl n_isinstance PyProof.Rows.boot_isinstance (aa (pv 0) (aa (cH (v:=.ty "int") rfl n_int L2.boot_int rfl) ag))) (hJ (l9 (aB bP rfl n_isinstance PyProof.Rows.boot_isinstance (aa (pv 0) (aa (cH (v:=.ty "bool") rfl n_bool L2.boot_bool rfl) ag)))))))),?_⟩
 show kP _ _ [some v] H
 k_data
 refine nc hd ?_
 k_data
 refine bC (λc=>?_) (λc=>?_)
 ·refine lH hd ?_
  k_data
  cases d<;>first | exact q | simp [sy,sx] at c
 ·cases d<;>first | exact q | exact absurd rfl c
def jF:Sp:=λvs H Q _=>∃ n:Int,vs=[.int n]/\2<=n/\n<=10^60/\∀ r,Ld.bX n r->Q (.int r) H
theorem dj:ay ["_law_n","_law_d"] ["_law_n"] (ah (top 29)):=fE
theorem nE (D:aw K mg "_law_least" (top 29)) (n_int:mg "int"=none):Callee P w K mg base bf 1 "_law_least" ["_law_n"] jF:=by
 refine cO D dj (λf cdv A outer s H vs Q E hr h=>?_)
 obtain⟨n,rfl,hn,hn1,q⟩:=h
 have nd:=dj.nd
 refine⟨_,(af (bQ (i:=1) nd ae) (af (bD PassesOwn.never (ar gh (ao aQ (pv 1) (pv 1)) (pv 0) (av _)) (af (aR (ar cq (ao aF (pv 0) (pv 1)) ae (av _)) (aj (aA (pv 1))) aC) (aj (bQ (i:=1) nd (ao bS (ao bS (pv 1) ae) (gj ki rfl n_int L2.boot_int (aa (de eH (pv 1) ae (av _)) ag))))))) (aj (aA (pv 0))))),?_⟩
 show cm _ _ _ [some (.int n),none] H
 k_data
 refine bG (α:=Int) (λx=>[some (.int n),some (.int x)]) (λx H1=>H1=H/\Ld.Inv n x/\x<=10^60+4) (λx=>(n+2-x).toNat) 2 rfl ⟨rfl,⟨by omega,.inl rfl,λd d0 d1=>by omega⟩,by omega⟩ ?_
 rintro x H1 ⟨rfl,hx,hx1⟩
 have x2:=hx.two
 k_data
 refine⟨Bd.of (by omega) (by omega),Bd.of (by omega) (by omega),?_⟩
 refine bC (λc=>?_) (λc=>?_)
 ·have xn:x<=n:=by
   have:=Int.mul_le_mul_of_nonneg_left (show 1<=x by omega) (show 0<=x by omega)
   omega
  refine⟨_,λ_ _ z=>z,by omega,?_⟩
  refine bC (λc2=>?_) (λc2=>?_)
  ·exact q x (hx.found (Int.dvd_of_emod_eq_zero c2))
  have nd':¬x∣n:=λz=>c2 (Int.emod_eq_zero_of_dvd z)
  have st:=hx.step (k:=x) nd'
  refine⟨x+1+(if 2<x then 1 else 0),rfl,rfl,?_,?_,?_⟩
  ·split
   ·rw [if_neg (by omega)] at st
    rwa [show x+1+1=x+2 by omega]
   ·rw [if_pos (by omega)] at st
    rwa [show x+1+0=x+1 by omega]
  ·split<;>omega
  ·split<;>omega
 ·exact q n (hx.done hn (by omega))
def fz (K:PySem.W.Frag):Sp:=λvs H Q _=>∃(p a:Int) (v:V) (ps:List (Int × Int)) (ds:Nat->PyData),vs=[.int p,.int a,v]/\Num.Pm p/\p<=10^9/\0<=a/\a<=10^9/\Num.Part (p-1) ps/\(∀ i q k,ps[i]?=some (q,k)->Num.i5 q (ds i))/\dv K H (.tuple (Num.rowsOf ps ds)) v/\∀ b,(b=true↔Num.Ord p a (p-1).toNat)->Q (.bl b) H
theorem cM:ay ["_law_p","_law_a","_law_parts","_law_part_here"] ["_law_p","_law_a","_law_parts"] (ah (top 31)):=fE
theorem lX (D:aw K mg "_law_is_full" (top 31)) (c__law_power:Callee P w K mg base bf 1 "_law_power" ["_law_n","_law_a","_law_e"] mv):Callee P w K mg base bf 2 "_law_is_full" ["_law_p","_law_a","_law_parts"] (fz K):=by
 refine cO D cM (λf cdv A outer s H vs Q E hr h=>?_)
 obtain⟨p,a,v,ps,ds,rfl,hp,p9,a0,a9,hP,hds,hv,q⟩:=h
 have nd:=cM.nd
 have p2:=hp.two
 refine⟨_,(af (fv PassesOwn.never rfl (hZ (pv 2)) (aZ (i:=3) nd rfl (Or.inl rfl) (.inr rfl)) (aj (aR (ar cq (eS c__law_power hr aN (aa (pv 0) (aa (pv 1) (aa (ao br (ao bT (pv 0) ae) (aD aH (aD aH (pv 3) ae (λ_ _=>rfl)) ae (λ_ _=>rfl))) ag)))) ae (av _)) (aj (aA aT)) aC))) (aj (aA (de cq (eS c__law_power hr aN (aa (pv 0) (aa (pv 1) (aa (ao bT (pv 0) ae) ag)))) ae (av _))))),?_⟩
 show cm _ _ _ [some (.int p),some (.int a),some v,none] H
 k_data
 obtain⟨b,ys,rfl,hT,dy⟩:=hv
 have yl:ys.length=ps.length:=by rw [dy.length,Num.bw]
 refine⟨b,rfl,⟨_,hT⟩,?_⟩
 refine iL (xs:=ys) (λi σ' H'=>H'=H/\(∃ o,σ'=[some (.int p),some (.int a),some (.ref b),o])/\∀ q∈(ps.take i).map (·.1),a^((p-1)/q).toNat%p≠1) ⟨rfl,⟨_,rfl⟩,λq hq=>by simp at hq⟩ (λi σ' H' _ h=>by rw [h.1];exact hT) ?_ ?_
 ·rintro i x σ' H' hx ⟨rfl,⟨o,rfl⟩,no⟩
  have il:i<ps.length:=by rw [<- yl];exact (List.getElem?_eq_some_iff.mp hx).1
  obtain⟨d,e,hd⟩:=dy.get hx
  have gi:=List.getElem?_eq_getElem il
  rw [Num.dB gi] at e
  cases e
  obtain⟨⟨q',k'⟩,hqk⟩:∃ y,ps[i]=y:=⟨_,rfl⟩
  rw [hqk] at gi hd
  have pap:=hds i q' k' gi
  have ok:=hP.ok _ (List.mem_of_getElem? gi)
  have q2:=ok.1.two
  obtain⟨pt,ws,rfl,hT1,x1,r1,rfl,d1,x2,r2,rfl,d2,r3⟩:=hd
  obtain⟨g',rows',eh⟩:=pap.head
  rw [eh] at d1
  obtain⟨p1,zs,rfl,hT2,z1,z2,rfl,z3,z4⟩:=d1
  cases z3
  simp only at q2
  have ql:=Int.le_of_dvd (by omega) (hP.dv (List.mem_of_getElem? gi))
  simp only at ql
  k_data
  refine bI hT1 iu (bI hT2 iu ⟨q',rfl,by omega,Bd.of (by omega) (by omega),p,a,(p-1)/q',rfl,by omega,by omega,by omega,by omega,Int.ediv_nonneg (by omega) (by omega),bF,?_⟩)
  refine bC (λc=>?_) (λc=>?_)
  ·refine q false ⟨λz=>(by cases z),λz=>?_⟩
   exact absurd (V.int.inj c) (((gT p2 hP (by omega)).mpr z).2 q' (List.mem_map.mpr ⟨_,List.mem_of_getElem? gi,rfl⟩))
  ·refine⟨rfl,λy hy=>?_⟩
   rw [List.take_add_one,gi,List.map_append] at hy
   rcases List.mem_append.mp hy with z | z
   ·exact no y z
   ·simp only [Option.toList_some,List.map_cons,List.map_nil,List.mem_singleton] at z
    rw [z];exact λy=>c (congrArg V.int y)
 ·rintro σ' H' ⟨rfl,⟨o,rfl⟩,no⟩
  rw [yl,List.take_length] at no
  k_data
  refine⟨p,a,p-1,rfl,by omega,by omega,by omega,by omega,by omega,bF,?_⟩
  refine q _ ?_
  rw [decide_eq_true_iff,V.int.injEq,<- gT p2 hP (by omega)]
  exact⟨λz=>⟨z,no⟩,λz=>z.1⟩
def fA (K:PySem.W.Frag) (c1 c2 c3:Addr):Sp:=λvs H Q E=>∃ n:Int,vs=[.int n]/\(n<2->rR c1 H E)/\(10^9<n->qB c2 "part" (.int n) H E)/\(2<=n->n<=10^9->∀ r,Ld.bX n r->r<n->qB c3 "divisor" (.int r) H E)/\(Num.Pm n->n<=10^9->∀ d v H',Num.i5 n d->au H H'->dv K H' d v->Q v H')
theorem nG {c1 c2 c3:Addr} (D:aw K mg "prime_paper" (top 23)) (c_least_divisor:Callee P w K mg base (cz P w) 3 "least_divisor" ["n"] (eU c1 c2)) (c_parting_paper:Callee P w K mg base bf 68 "parting_paper" ["n"] (df K 30)) (c_least_full:Callee P w K mg base bf 6 "least_full" ["p","primes"] (b7 K)) (c_primes_in:Callee P w K mg base bf 1 "primes_in" ["parts"] (cI K)) (x_NoPrime:dE P w K mg base "NoPrime" c3 "divisor"):Callee P w K mg base (cz P w) 69 "prime_paper" ["n"] (fA K c1 c2 c3):=by
 refine cX D a7 (λf cdv A outer s H vs Q E hr h=>?_)
 obtain⟨n,rfl,q1,q2,q3,q4⟩:=h
 have nd:=a7.nd
 refine⟨_,(af (bQ (i:=1) nd (aI c_least_divisor (hr.mono (by omega)) rfl iR (aa (pv 0) ag))) (af (aR (ar dI (pv 1) (pv 0) (av _)) (aj (bV (fk x_NoPrime (hr.mono (by omega)) rfl (aa (pv 1) ag)))) aC) (eA.gW (af (bQ (i:=2) nd (aI c_parting_paper (hr.mono (by omega)) rfl aN (aa (ao bT (pv 0) ae) ag))) (aj (aA (d6 (aa (pv 0) (aa (aI c_least_full (hr.mono (by omega)) rfl aN (aa (pv 0) (aa (aI c_primes_in (hr.mono (by omega)) rfl aN (aa (pv 2) ag)) ag))) (aa (pv 2) ag)))))))))),?_⟩
 show cm _ _ _ [some (.int n),none,none] H
 k_data
 refine⟨n,rfl,q1,q2,λn2 n9 r hL=>⟨r,rfl,?_⟩⟩
 refine bC (λc=>?_) (λc=>?_)
 ·exact λx dx hx hdx ne=>dZ x_NoPrime.cls (au.refl _) hx hdx ne (q3 n2 n9 r hL c)
 have rn:r=n:=by have:=hL.le (by omega);omega
 have hp:Num.Pm n:=⟨n2,λd d2 dn=>hL.no d d2 (by omega)⟩
 refine⟨n-1,rfl,by omega,by omega,λq hq hd=>Num.lC hq (by have:=Int.le_of_dvd (by omega) hd;omega),λps ds v H1 hP hl hds s1 hv=>?_⟩
 refine⟨v,Num.rowsOf ps ds,ps.map (·.1),rfl,hv,iH hds,by rw [Num.bw];exact Nat.le_trans hl (by decide),λp H2 s2 f2 h2=>?_⟩
 rw [List.map_map] at h2
 refine⟨n,p,ps,rfl,hp,n9,hP,hl,bh.of h2,λg H3 hg s3=>⟨by show 3<=sizeLine;decide,λp3 hp3=>?_⟩⟩
 have s4:=az (o:=.tup [V.int n,V.int g,v]) hp3
 exact q4 hp n9 _ _ _ (.mk n g ps ds hp n9 hg hP hl hds) (((s1.trans s2).trans s3).trans s4) (dv.tup ai ⟨_,_,rfl,rfl,_,_,rfl,rfl,.one (dv.same ((s2.trans s3).trans s4) _ hv)⟩)
theorem pC {x y:V} {r:List V}:jO (x::y::r) 1=some y:=by
 unfold jO nh
 simp
 rw [if_pos (by omega)]
 rfl
theorem at2 {x y z:V} {r:List V}:jO (x::y::z::r) 2=some z:=by
 unfold jO nh
 simp
 rw [if_pos (by omega)]
 rfl
theorem iU {q:Int} (h:1<=q) (j:Nat):∀ i:Nat,q^j<=q^(j+i)
 | 0=>Int.le_refl _
 | i+1=>by
  have h1:=iU h j i
  have h2:=Num.aO (show 0<q by omega) (j+i)
  have h3:=Int.mul_le_mul_of_nonneg_left h (show 0<=q^(j+i) by omega)
  rw [show j+(i+1)=(j+i)+1 by omega,Int.pow_succ]
  omega
theorem d9:∀(ps:List (Int × Int)) (i:Nat),(∀ x∈ps,Num.Pm x.1)->1<=Num.aK (ps.take i)/\Num.aK (ps.take i)<=Num.aK ps
 | [],i,_=>by rw [List.take_nil];exact⟨by decide,Int.le_refl _⟩
 | x::ps,0,h=>⟨Int.le_refl _,by
  have:=Num.d8 h
  show 1<=_
  omega⟩
 | x::ps,i+1,h=>by
  have ih:=d9 ps i λy hy=>h y (List.mem_cons_of_mem _ hy)
  have x2:=(h x (List.mem_cons_self ..)).two
  have pp:=Num.aO (show 0<x.1 by omega) x.2.toNat
  show 1<=x.1^x.2.toNat*Num.aK (ps.take i)/\x.1^x.2.toNat*Num.aK (ps.take i)<=x.1^x.2.toNat*Num.aK ps
  refine⟨?_,Int.mul_le_mul_of_nonneg_left ih.2 (by omega)⟩
  have:=Int.mul_le_mul_of_nonneg_left ih.1 (show 0<=x.1^x.2.toNat by omega)
  omega
def dQ (K:PySem.W.Frag) (L:Nat):Sp:=λvs H Q _=>∃(p:Int) (d:PyData) (v:V),vs=[.int p,v]/\Num.i5 p d/\Num.Ht L p/\dv K H d v/\∀ H',au H H'->Q (.bl true) H'
theorem bM:ay ["_law_p","_law_thing","_law_last","_law_whole_here","_law_part_here","_law_turn"] ["_law_p","_law_thing"] (ah (top 32)):=fE
theorem kC (D:aw K mg "_law_is_paper" (top 32)):Callee P w K mg base bf 3 "_law_is_paper" ["_law_p","_law_thing"] (dQ K 0):=by
 refine cO D bM (λf cdv A outer s H vs Q E hr h=>?_)
 obtain⟨p,d,v,rfl,hp,ht,_⟩:=h
 exact (show False from ht).elim
theorem kD {L:Nat} (D:aw K mg "_law_is_paper" (top 32)) (c__law_whole:Callee P w K mg base bf 1 "_law_whole" ["_law_found"] (rA K)) (c__law_is_full:Callee P w K mg base bf 2 "_law_is_full" ["_law_p","_law_a","_law_parts"] (fz K)) (c__law_is_paper:Callee P w K mg base bf (L+3) "_law_is_paper" ["_law_p","_law_thing"] (dQ K L)) (n_isinstance:mg "isinstance"=none) (n_tuple:mg "tuple"=none) (n_len:mg "len"=none) (n_range:mg "range"=none) (n_any:mg "any"=none):Callee P w K mg base bf (L+4) "_law_is_paper" ["_law_p","_law_thing"] (dQ K (L+1)):=by
 refine cO D bM (λf cdv A outer s H vs Q E hr h=>?_)
 obtain⟨p,d,v,rfl,hp,ht,hv,q⟩:=h
 have nd:=bM.nd
 refine⟨_,(af (aR (PW.pt (cK (bE (aW (aB bP rfl n_isinstance PyProof.Rows.boot_isinstance (aa (pv 1) (aa (cH (v:=.ty "tuple") rfl n_tuple L2.boot_tuple rfl) ag))) (λ_=>rfl))) (cK (ar fh (aB dW rfl n_len PySem.boot_len (aa (pv 1) ag)) ae (av _)) (cK (bE (aW (aI c__law_whole (hr.mono (by omega)) rfl aN (aa (aD aH (pv 1) ae (λ_ _=>rfl)) ag)) (λ_=>rfl))) (ef (bE (aW (aI c__law_whole (hr.mono (by omega)) rfl aN (aa (aD aH (pv 1) ae (λ_ _=>rfl)) ag)) (λ_=>rfl)))))))) (aj (aA aT)) aC) (af (aR (PW.pt (cK (ar fh (aD aH (pv 1) ae (λ_ _=>rfl)) (pv 0) (av _)) (cK (bE (iW gh dI ae (aD aH (pv 1) ae (λ_ _=>rfl)) (pv 0))) (ef (bE (aW (aB bP rfl n_isinstance PyProof.Rows.boot_isinstance (aa (aD aH (pv 1) ae (λ_ _=>rfl)) (aa (cH (v:=.ty "tuple") rfl n_tuple L2.boot_tuple rfl) ag))) (λ_=>rfl))))))) (aj (aA aT)) aC) (af (bQ (i:=2) nd ae) (af (bQ (i:=3) nd ae) (af (fv PassesOwn.never rfl (hZ (aD aH (pv 1) ae (λ_ _=>rfl))) (aZ (i:=4) nd rfl (Or.inl rfl) (.inr rfl)) (af (aR (PW.pt (cK (bE (aW (aB bP rfl n_isinstance PyProof.Rows.boot_isinstance (aa (pv 4) (aa (cH (v:=.ty "tuple") rfl n_tuple L2.boot_tuple rfl) ag))) (λ_=>rfl))) (cK (ar fh (aB dW rfl n_len PySem.boot_len (aa (pv 4) ag)) ae (av _)) (cK (bE (aW (aI c__law_whole (hr.mono (by omega)) rfl aN (aa (aD aH (pv 4) ae (λ_ _=>rfl)) ag)) (λ_=>rfl))) (ef (bE (iW gh gh ae (aD aH (pv 4) ae (λ_ _=>rfl)) ae))))))) (aj (aA aT)) aC) (af (aR (PW.pt (cK (bE (aW (aB bP rfl n_isinstance PyProof.Rows.boot_isinstance (aa (aD aH (pv 4) ae (λ_ _=>rfl)) (aa (cH (v:=.ty "tuple") rfl n_tuple L2.boot_tuple rfl) ag))) (λ_=>rfl))) (cK (ar fh (aB dW rfl n_len PySem.boot_len (aa (aD aH (pv 4) ae (λ_ _=>rfl)) ag)) ae (av _)) (ef (bE (aW (aI c__law_is_paper (hr.mono (by omega)) rfl aN (aa (aD aH (aD aH (pv 4) ae (λ_ _=>rfl)) ae (λ_ _=>rfl)) (aa (aD aH (pv 4) ae (λ_ _=>rfl)) ag))) (λ_=>rfl))))))) (aj (aA aT)) aC) (af (aR (ar gh (aD aH (aD aH (pv 4) ae (λ_ _=>rfl)) ae (λ_ _=>rfl)) (pv 2) (av _)) (aj (aA aT)) aC) (af (bQ (i:=2) nd (aD aH (aD aH (pv 4) ae (λ_ _=>rfl)) ae (λ_ _=>rfl))) (aj (fv PassesOwn.never rfl (gk rfl n_range (aa (aD aH (pv 4) ae (λ_ _=>rfl)) ag)) (aZ (i:=5) nd rfl (Or.inl rfl) (.inr rfl)) (aj (bQ (i:=3) nd (ao aQ (pv 3) (aD aH (aD aH (pv 4) ae (λ_ _=>rfl)) ae (λ_ _=>rfl)))))))))))) (af (aR (PW.pt (cK (ar fh (pv 3) (ao bT (pv 0) ae) (av _)) (ef (bE (aW (aI c__law_is_full (hr.mono (by omega)) rfl aN (aa (pv 0) (aa (aD aH (pv 1) ae (λ_ _=>rfl)) (aa (aD aH (pv 1) ae (λ_ _=>rfl)) ag)))) (λ_=>rfl)))))) (aj (aA aT)) aC) (aj (aA (l9 (aB (la rfl) rfl n_any L2.boot_any (aa (iS rfl (qL (N':=["_law_a","_law_p","_law_thing"]) (js:=[none,some 0,some 1]) rfl rfl) (kI rfl n_range (aa ae (aa (aD aH (pv 1) ae (λ_ _=>rfl)) ag))) (λ_ _ _ _=>(aZ (i:=0) (show List.Nodup [("_law_a":Str),("_law_p":Str),("_law_thing":Str)] from by decide +kernel) rfl (Or.inl rfl) (.inr rfl))) (λ_ _ _ _=>cZ) (λ_ _ _ _=>(aI c__law_is_full (hr.mono (by omega)) rfl aN (aa (pv 1) (aa (pv 0) (aa (aD (gO K rfl) (pv 2) ae (λ_ _=>rfl)) ag)))))) ag))))))))))),?_⟩
 show cm _ _ _ [some (.int p),some v,none,none,none,none] H
 cases hp with
 | mk p g ps ds hp p9 hg hP hl hds =>
 obtain⟨b,ws,rfl,hT,x1,r1,rfl,d1,x2,r2,rfl,d2,x3,r3,rfl,d3,r4⟩:=hv
 cases d1;cases d2;cases r4
 have hT:cn K H b [V.int p,V.int g,x3]:=hT
 have hv3:=d3
 obtain⟨b3,ys,rfl,hT3,dy⟩:=d3
 have yl:ys.length=ps.length:=by rw [dy.length,Num.bw]
 have g1:=hg.one
 have gp:=hg.lt
 have p2:=hp.two
 k_data
 have hv:dv K H (.tuple [.int p,.int g,.tuple (Num.rowsOf ps ds)]) (.ref b):=⟨b,_,rfl,hT,_,_,rfl,rfl,_,_,rfl,rfl,.one hv3⟩
 refine eQ hv ⟨true,bc.mpr rfl,?_⟩
 rw [if_neg (by decide)]
 refine gR hT ⟨bF,?_⟩
 rw [if_neg (by simp)]
 refine bI hT iu ⟨.int p,_,rfl,rfl,true,bc.mpr rfl,?_⟩
 rw [if_neg (by decide)]
 refine bI hT pC ⟨.int g,_,rfl,rfl,true,bc.mpr rfl,?_⟩
 rw [if_neg (by decide)]
 refine bI hT iu ⟨bF,?_⟩
 rw [if_neg (by simp)]
 simp only [jG,mD,tC,kT,List.getElem?_cons_zero,List.getElem?_cons_succ,Option.some.injEq,exists_eq_left',V.int.injEq,exists_and_left,V.bl.injEq]
 k_data
 refine bI hT pC ⟨g,rfl,?_⟩
 rw [if_pos g1]
 refine⟨g,rfl,?_⟩
 rw [if_neg (by omega)]
 refine bI hT at2 (eQ hv3 ⟨true,bc.mpr rfl,?_⟩)
 rw [if_neg (by decide)]
 refine bI hT at2 ⟨b3,rfl,⟨_,hT3⟩,?_⟩
 refine iL (xs:=ys) (λi σ' H'=>au H H'/\∃ t o1 o2,σ'=[some (.int p),some (.ref b),some (.int t),some (.int (Num.aK (ps.take i))),o1,o2]/\∀ q∈(ps.drop i).map (·.1),t<q) ⟨au.refl _,1,none,none,rfl,λq hq=>?_⟩ (λi σ' H' _ h=>hT3.same h.1) ?_ ?_
 ·obtain⟨x,hx,rfl⟩:=List.mem_map.mp hq
  have:=(hP.ok x hx).1.two
  omega
 ·rintro i x σ' H' hx ⟨s1,t,o1,o2,rfl,lo⟩
  have il:i<ps.length:=by rw [<- yl];exact (List.getElem?_eq_some_iff.mp hx).1
  obtain⟨d,e,hd⟩:=dy.get hx
  have gi:=List.getElem?_eq_getElem il
  rw [Num.dB gi] at e
  cases e
  obtain⟨⟨q',k'⟩,hqk⟩:∃ y,ps[i]=y:=⟨_,rfl⟩
  rw [hqk] at gi hd
  have pap:=hds i q' k' gi
  have ok:=hP.ok _ (List.mem_of_getElem? gi)
  have q2:=ok.1.two
  have k1:=ok.2.1
  have k30:=ok.2.2
  simp only at q2 k1 k30
  have dvd:=hP.dv (List.mem_of_getElem? gi)
  have ql:=Int.le_of_dvd (by omega) dvd
  simp only at ql dvd
  have tq:t<q':=lo q' (by rw [List.drop_eq_getElem_cons il,hqk];exact List.mem_map.mpr ⟨_,List.mem_cons_self ..,rfl⟩)
  have hd1:=dv.same s1 _ hd
  obtain⟨pt,zs,rfl,hT1,x1,r1,rfl,e1,x2,r2,rfl,e2,r3⟩:=hd1
  cases e2;cases r3
  have hT1:cn K H' pt [x1,V.int k']:=hT1
  have hv1:=e1
  obtain⟨g',rows',eh⟩:=pap.head
  rw [eh] at e1
  obtain⟨p1,ws,rfl,hT2,y1,z2,rfl,z3,y2,z4,rfl,z5,y3,z6,rfl,z7,z8⟩:=e1
  cases z3;cases z5;cases z8
  have hT2:cn K H' p1 [V.int q',V.int g',y3]:=hT2
  have hd2:dv K H' (.tuple [ds i,.int k']) (.ref pt):=⟨pt,_,rfl,hT1,_,_,rfl,hv1,.one rfl⟩
  k_data
  refine eQ hd2 ⟨true,bc.mpr rfl,?_⟩
  rw [if_neg (by decide)]
  refine gR hT1 ⟨bF,?_⟩
  rw [if_neg (by simp)]
  refine bI hT1 pC ⟨.int k',_,rfl,rfl,true,bc.mpr rfl,?_⟩
  rw [if_neg (by decide)]
  simp only [jG,mD,tC,kT,List.getElem?_cons_zero,List.getElem?_cons_succ,Option.some.injEq,exists_eq_left',V.int.injEq,exists_and_left,V.bl.injEq]
  k_data
  refine bI hT1 pC ⟨k',rfl,?_⟩
  rw [if_pos k1]
  refine⟨k',rfl,?_⟩
  rw [if_neg (by omega)]
  refine bI hT1 iu (eQ hv1 ?_)
  rw [eh]
  refine⟨true,bc.mpr rfl,?_⟩
  rw [if_neg (by decide)]
  refine bI hT1 iu (gR hT2 ⟨bF,?_⟩)
  rw [if_neg (by simp)]
  refine bI hT1 iu (bI hT2 iu (bI hT1 iu ⟨q',_,_,rfl,pap,ht q' ok.1 dvd,hv1,λH2 s2=>⟨true,bc.mpr rfl,?_⟩⟩))
  rw [if_neg (by decide)]
  have hT1:=hT1.same s2
  have hT2:=hT2.same s2
  refine bI hT1 iu (bI hT2 iu ⟨q',rfl,?_⟩)
  rw [if_neg (by omega)]
  refine bI hT1 iu (bI hT2 iu (bI hT1 pC ⟨k',rfl,by omega,by omega,?_⟩))
  have tk:Num.aK (ps.take (i+1))=Num.aK (ps.take i)*q'^k'.toNat:=by rw [List.take_add_one,gi];exact Num.dA _ _
  have le1:=d9 ps (i+1) λx hx=>(hP.ok x hx).1
  have le0:=d9 ps i λx hx=>(hP.ok x hx).1
  rw [hP.prod] at le1 le0
  rw [tk] at le1
  refine fe (λj σ' H'=>H'=H2/\∃ o2,σ'=[some (.int p),some (.ref b),some (.int q'),some (.int (Num.aK (ps.take i)*q'^j)),some (.ref pt),o2]) ⟨rfl,_,by rw [Int.pow_zero,Int.mul_one]⟩ ?_ ?_
  ·rintro j σ' H' hj ⟨rfl,o2,rfl⟩
   have jk:j+(k'.toNat-j)=k'.toNat:=by omega
   have m1:=iU (show 1<=q' by omega) j (k'.toNat-j)
   rw [jk] at m1
   have m2:=Int.mul_le_mul_of_nonneg_left m1 (show 0<=Num.aK (ps.take i) by omega)
   have m3:=Num.aO (show 0<q' by omega) j
   have m4:0<Num.aK (ps.take i)*q'^j:=Int.mul_pos (by omega) m3
   k_data
   refine bI hT1 iu (bI hT2 iu ⟨q',rfl,Bd.of (by omega) (by omega),Bd.of (by omega) (by omega),?_⟩)
   exact⟨rfl,by rw [Int.pow_succ,Int.mul_assoc]⟩
  ·rintro σ' H' ⟨rfl,o2,rfl⟩
   refine⟨s1.trans s2,q',_,_,by rw [tk],λy hy=>?_⟩
   have rise:=hP.rise
   have dd:=List.drop_eq_getElem_cons il
   have rd:=List.Pairwise.drop (i:=i) rise
   rw [dd,hqk] at rd
   obtain⟨x,hx,rfl⟩:=List.mem_map.mp hy
   exact (List.pairwise_cons.mp rd).1 x hx
 ·rintro σ' H' ⟨s1,t,o1,o2,rfl,_⟩
  have ey:Num.aK (ps.take ys.length)=p-1:=by rw [yl,List.take_length,hP.prod]
  rw [ey]
  have hT:=hT.same s1
  have hv3:=dv.same s1 _ hv3
  k_data
  rw [if_neg (λz=>z True.intro)]
  refine bI hT pC (bI hT at2 ⟨p,g,_,ps,ds,rfl,hp,p9,by omega,by omega,hP,hds,hv3,λb1 hb1=>⟨b1,bc.mpr rfl,?_⟩⟩)
  rw [hb1.mpr hg.ord,if_neg (by decide)]
  refine bI hT pC ⟨g,rfl,by omega,by omega,?_⟩
  have small:=Num.LF.small hp p9 hg
  refine iy (λi zs H3=>H3=H'/\zs=(List.replicate i false).map V.bl) ⟨rfl,rfl⟩ (Nat.le_trans (show (g-1).toNat<=8000000 by omega) (by decide)) (λi zs H3 hi ⟨z1,z2⟩=>by rw [z2];simp) ?_ ?_
  ·rintro i zs H3 hi ⟨rfl,rfl⟩
   show eC 0 _ [none,some (.int p),some (.ref b)] _ _
   k_data
   refine⟨⟨rfl,rfl,True.intro⟩,bI hT at2 ⟨p,1+(i:Int),_,ps,ds,rfl,hp,p9,by omega,by omega,hP,hds,hv3,λb1 hb1=>?_⟩⟩
   have:b1=false:=by
    cases b1
    ·rfl
    ·exact absurd (hb1.mp rfl) (hg.no _ (by omega) (by omega))
   rw [this,List.replicate_succ',List.map_append]
   exact⟨rfl,rfl⟩
  ·rintro zs H3 p3 ⟨rfl,rfl⟩ hp3
   refine pB (bs:=List.replicate (g-1).toNat false) (bh.of ai) ⟨_,rfl,?_⟩
   have:(List.replicate (g-1).toNat false).any id=false:=by
    rw [Bool.eq_false_iff]
    intro z
    obtain⟨x,hx,hx2⟩:=List.any_eq_true.mp z
    rw [List.eq_of_mem_replicate hx] at hx2
    cases hx2
   rw [this]
   exact q _ (s1.trans (az hp3))
theorem iO (D:aw K mg "_law_is_paper" (top 32)) (c__law_whole:Callee P w K mg base bf 1 "_law_whole" ["_law_found"] (rA K)) (c__law_is_full:Callee P w K mg base bf 2 "_law_is_full" ["_law_p","_law_a","_law_parts"] (fz K)) (n_isinstance:mg "isinstance"=none) (n_tuple:mg "tuple"=none) (n_len:mg "len"=none) (n_range:mg "range"=none) (n_any:mg "any"=none):∀ L,Callee P w K mg base bf (L+3) "_law_is_paper" ["_law_p","_law_thing"] (dQ K L)
 | 0=>kC D
 | L+1=>kD D c__law_whole c__law_is_full (iO D c__law_whole c__law_is_full n_isinstance n_tuple n_len n_range n_any L) n_isinstance n_tuple n_len n_range n_any
structure pe (K:PySem.W.Frag) (C cA cB cD cE c1 c2 c3:Addr) (b1 b2 b3:Bool):Prop where
 cls:aS K C
 a:PySem.W.kitOne K (.ref C) (.ref cA)=some false
 b:PySem.W.kitOne K (.ref C) (.ref cB)=some false
 d:PySem.W.kitOne K (.ref C) (.ref cD)=some false
 e:PySem.W.kitOne K (.ref C) (.ref cE)=some false
 one:PySem.W.kitOne K (.ref C) (.ref c1)=some b1
 two:PySem.W.kitOne K (.ref C) (.ref c2)=some b2
 three:PySem.W.kitOne K (.ref C) (.ref c3)=some b3
 val:PySem.W.kitOne K (.ref C) (.type "ValueError")=some true
def eg:Sp:=λvs H Q _=>∃ n:Int,vs=[.int n]/\(n<2∨10^9<n∨(2<=n/\n<=10^9/\¬Num.Pm n))/\∀ p H',au H H'->H' p=some (.lst [.bl (decide (n<2)),.bl (decide (10^9<n)),.bl (decide (2<=n/\n<=10^9)),.bl true,.bl false])->Q (.ref p) H'
theorem cP:ay ["_law_n","_law_told","_law_e","_law_others"] ["_law_n"] (ah (top 33)):=fE
theorem jy {c0 cA cB cD cE c1 c2 c3:Addr} (D:aw K mg "_law_refused" (top 33)) (c_prime_paper:Callee P w K mg base (cz P w) 69 "prime_paper" ["n"] (fA K c1 c2 c3)) (x_PrimeError:iq K mg "PrimeError" c0) (x_NoInverse:dE P w K mg base "NoInverse" cA "divisor") (x_NoOrder:iq K mg "NoOrder" cB)
  (x_NoPrime:dE P w K mg base "NoPrime" c3 "divisor") (x_Nought:iq K mg "Nought" cD) (x_NoRoot:dE P w K mg base "NoRoot" cE "rest") (x_NoNumber:iq K mg "NoNumber" c1) (x_TooFar:dE P w K mg base "TooFar" c2 "part") (n_isinstance:mg "isinstance"=none) (n_ValueError:mg "ValueError"=none)
  (m1:PySem.W.mroIn K c1 (.ref c0)=some true) (m2:PySem.W.mroIn K c2 (.ref c0)=some true) (m3:PySem.W.mroIn K c3 (.ref c0)=some true) (k1:pe K c1 cA cB cD cE c1 c2 c3 true false false) (k2:pe K c2 cA cB cD cE c1 c2 c3 false true false) (k3:pe K c3 cA cB cD cE c1 c2 c3 false false true):Callee P w K mg base bf 70 "_law_refused" ["_law_n"] eg:=by
 refine cO D cP (λf cdv A outer s H vs Q E hr h=>?_)
 obtain⟨n,rfl,hn,q⟩:=h
 have nd:=cP.nd
 refine⟨_,(af (bQ (i:=1) nd jA) (af (ic c_prime_paper (hr.mono (by decide)) rfl rfl rfl (aa (pv 0) ag) (mh (i:=2) x_PrimeError.cls rfl x_PrimeError.at_ nd rfl rfl (λ_=>(af (bQ (i:=3) nd (ma (aB (bz K rfl) rfl n_isinstance PyProof.Rows.boot_isinstance (aa (pv 2) (aa (bO (v:=.ref _) rfl x_NoInverse.at_ rfl) ag))) (ma (aB (bz K rfl) rfl n_isinstance PyProof.Rows.boot_isinstance (aa (pv 2) (aa (bO (v:=.ref _) rfl x_NoOrder.at_ rfl) ag))) (ma (aB (bz K rfl) rfl n_isinstance PyProof.Rows.boot_isinstance (aa (pv 2) (aa (bO (v:=.ref _) rfl x_Nought.at_ rfl) ag))) (hJ (aB (bz K rfl) rfl n_isinstance PyProof.Rows.boot_isinstance (aa (pv 2) (aa (bO (v:=.ref _) rfl x_NoRoot.at_ rfl) ag)))))))) (af (bQ (i:=1) nd (bU (aa (aB (bz K rfl) rfl n_isinstance PyProof.Rows.boot_isinstance (aa (pv 2) (aa (bO (v:=.ref _) rfl x_NoNumber.at_ rfl) ag))) (aa (aB (bz K rfl) rfl n_isinstance PyProof.Rows.boot_isinstance (aa (pv 2) (aa (bO (v:=.ref _) rfl x_TooFar.at_ rfl) ag))) (aa (aB (bz K rfl) rfl n_isinstance PyProof.Rows.boot_isinstance (aa (pv 2) (aa (bO (v:=.ref _) rfl x_NoPrime.at_ rfl) ag))) ag))))) (aj (bQ (i:=1) nd (ao p8 (pv 1) (bU (aa (aB (bz K rfl) rfl n_isinstance PyProof.Rows.boot_isinstance (aa (pv 2) (aa (cH (v:=.ty "ValueError") rfl n_ValueError L2.eO rfl) ag))) (aa (pv 3) ag))))))))))) (aj (aA (pv 1))))),?_⟩
 show cm _ _ _ [some (.int n),none,none,none] H
 k_data
 refine⟨n,rfl,λh x H' hs hx hX=>?_,λh x dx H' hs hx hX hd=>?_,λh1 h2 r hL rn x dx H' hs hx hX hd=>?_,λhp h9=>?_⟩
 ·refine⟨c1,rfl,x,rfl,none,hX,k1.cls,m1,?_⟩
  have step:∀{H4:Hp} {c:V} {cv:Value} {b:Bool} {Q:VK},au H' H4->lg c=some cv->PySem.W.kitOne K (.ref c1) cv=some b->Q (.bl b) H4->gm K [.ref x,c] H4 Q:=λs h1 h2 h3=>⟨x,c1,none,_,_,_,rfl,h1,.inl (s _ _ hX),(λ_ e=>by cases e),k1.cls,h2,h3⟩
  refine step (au.refl _) rfl k1.a ⟨false,rfl,?_⟩
  rw [if_neg (by decide)]
  refine step (au.refl _) rfl k1.b ⟨false,rfl,?_⟩
  rw [if_neg (by decide)]
  refine step (au.refl _) rfl k1.d ⟨false,rfl,?_⟩
  rw [if_neg (by decide)]
  refine step (au.refl _) rfl k1.e ?_
  refine step (au.refl _) rfl k1.one ?_
  refine step (au.refl _) rfl k1.two ?_
  refine step (au.refl _) rfl k1.three ?_
  refine⟨by show 3<=sizeLine;decide,λp hp=>?_⟩
  have t1:=az (o:=.lst [V.bl true,V.bl false,V.bl false]) hp
  refine step t1 rfl k1.val ?_
  refine⟨by show 2<=sizeLine;decide,λp1 hp1=>?_⟩
  have t2:=az (o:=.lst [V.bl true,V.bl false]) hp1
  refine⟨p,p1,_,_,rfl,rfl,t2 _ _ ai,ai,by show 5<=sizeLine;decide,λp2 hp2=>q p2 _ (((hs.trans t1).trans t2).trans (az hp2)) ?_⟩
  rw [ai]
  rw [decide_eq_true h,decide_eq_false (show ¬10^9<n by omega),decide_eq_false (show ¬(2<=n/\n<=10^9) by omega)]
  rfl
 ·refine⟨c2,rfl,x,rfl,some dx,hX,k2.cls,m2,?_⟩
  have step:∀{H4:Hp} {c:V} {cv:Value} {b:Bool} {Q:VK},au H' H4->lg c=some cv->PySem.W.kitOne K (.ref c2) cv=some b->Q (.bl b) H4->gm K [.ref x,c] H4 Q:=λs h1 h2 h3=>jZ (s _ _ hX) (s _ _ hd) k2.cls h1 h2 h3
  refine step (au.refl _) rfl k2.a ⟨false,rfl,?_⟩
  rw [if_neg (by decide)]
  refine step (au.refl _) rfl k2.b ⟨false,rfl,?_⟩
  rw [if_neg (by decide)]
  refine step (au.refl _) rfl k2.d ⟨false,rfl,?_⟩
  rw [if_neg (by decide)]
  refine step (au.refl _) rfl k2.e ?_
  refine step (au.refl _) rfl k2.one ?_
  refine step (au.refl _) rfl k2.two ?_
  refine step (au.refl _) rfl k2.three ?_
  refine⟨by show 3<=sizeLine;decide,λp hp=>?_⟩
  have t1:=az (o:=.lst [V.bl false,V.bl true,V.bl false]) hp
  refine step t1 rfl k2.val ?_
  refine⟨by show 2<=sizeLine;decide,λp1 hp1=>?_⟩
  have t2:=az (o:=.lst [V.bl true,V.bl false]) hp1
  refine⟨p,p1,_,_,rfl,rfl,t2 _ _ ai,ai,by show 5<=sizeLine;decide,λp2 hp2=>q p2 _ (((hs.trans t1).trans t2).trans (az hp2)) ?_⟩
  rw [ai]
  rw [decide_eq_true h,decide_eq_false (show ¬n<2 by omega),decide_eq_false (show ¬(2<=n/\n<=10^9) by omega)]
  rfl
 ·refine⟨c3,rfl,x,rfl,some dx,hX,k3.cls,m3,?_⟩
  have step:∀{H4:Hp} {c:V} {cv:Value} {b:Bool} {Q:VK},au H' H4->lg c=some cv->PySem.W.kitOne K (.ref c3) cv=some b->Q (.bl b) H4->gm K [.ref x,c] H4 Q:=λs h1 h2 h3=>jZ (s _ _ hX) (s _ _ hd) k3.cls h1 h2 h3
  refine step (au.refl _) rfl k3.a ⟨false,rfl,?_⟩
  rw [if_neg (by decide)]
  refine step (au.refl _) rfl k3.b ⟨false,rfl,?_⟩
  rw [if_neg (by decide)]
  refine step (au.refl _) rfl k3.d ⟨false,rfl,?_⟩
  rw [if_neg (by decide)]
  refine step (au.refl _) rfl k3.e ?_
  refine step (au.refl _) rfl k3.one ?_
  refine step (au.refl _) rfl k3.two ?_
  refine step (au.refl _) rfl k3.three ?_
  refine⟨by show 3<=sizeLine;decide,λp hp=>?_⟩
  have t1:=az (o:=.lst [V.bl false,V.bl false,V.bl true]) hp
  refine step t1 rfl k3.val ?_
  refine⟨by show 2<=sizeLine;decide,λp1 hp1=>?_⟩
  have t2:=az (o:=.lst [V.bl true,V.bl false]) hp1
  refine⟨p,p1,_,_,rfl,rfl,t2 _ _ ai,ai,by show 5<=sizeLine;decide,λp2 hp2=>q p2 _ (((hs.trans t1).trans t2).trans (az hp2)) ?_⟩
  rw [ai]
  rw [decide_eq_false (show ¬n<2 by omega),decide_eq_false (show ¬10^9<n by omega),decide_eq_true (show 2<=n/\n<=10^9 from ⟨h1,h2⟩)]
  rfl
 ·have:=hp.two
  rcases hn with z | z | z
  ·omega
  ·omega
  ·exact absurd hp z.2.2
def mr:Sp:=λvs H Q _=>∃ n:Int,vs=[.int n]/\2<=n/\n<=10^9/\¬Num.Pm n/\∀ r H',Ld.bX n r->au H H'->Q (.int r) H'
theorem cL:ay ["_law_n","_law_told","_law_e"] ["_law_n"] (ah (top 34)):=fE
theorem nA {c1 c2 c3:Addr} (D:aw K mg "_law_divisor" (top 34)) (c_prime_paper:Callee P w K mg base (cz P w) 69 "prime_paper" ["n"] (fA K c1 c2 c3)) (x_NoPrime:dE P w K mg base "NoPrime" c3 "divisor") (m3:PySem.W.mroIn K c3 (.ref c3)=some true):Callee P w K mg base bf 70 "_law_divisor" ["_law_n"] mr:=by
 refine cO D cL (λf cdv A outer s H vs Q E hr h=>?_)
 obtain⟨n,rfl,n2,n9,hn,q⟩:=h
 have nd:=cL.nd
 refine⟨_,(af (bQ (i:=1) nd jA) (af (ic c_prime_paper (hr.mono (by decide)) rfl rfl rfl (aa (pv 0) ag) (mh (i:=2) x_NoPrime.cls rfl x_NoPrime.at_ nd rfl rfl (λ_=>(aj (bQ (i:=1) nd (iT K rfl (pv 2))))))) (aj (aA (pv 1))))),?_⟩
 show cm _ _ _ [some (.int n),none,none] H
 k_data
 refine⟨n,rfl,λh=>absurd h (by omega),λh=>absurd h (by omega),λh1 h2 r hL rn x dx H' hs hx hX hd=>?_,λhp=>absurd hp hn⟩
 exact⟨c3,rfl,x,rfl,some dx,hX,x_NoPrime.cls,m3,c3,dx,.inl hX,x_NoPrime.cls,x_NoPrime.nof,_,hd,.int r,rfl,q r _ hL hs⟩
def mw:Sp:=λvs H Q _=>∃ n:Int,vs=[.int n]/\10^9<n/\∀ H',au H H'->Q (.int n) H'
theorem dO:ay ["_law_n","_law_told","_law_e"] ["_law_n"] (ah (top 35)):=fE
theorem nH {c1 c2 c3:Addr} (D:aw K mg "_law_part" (top 35)) (c_prime_paper:Callee P w K mg base (cz P w) 69 "prime_paper" ["n"] (fA K c1 c2 c3)) (x_TooFar:dE P w K mg base "TooFar" c2 "part") (m3:PySem.W.mroIn K c2 (.ref c2)=some true):Callee P w K mg base bf 70 "_law_part" ["_law_n"] mw:=by
 refine cO D dO (λf cdv A outer s H vs Q E hr h=>?_)
 obtain⟨n,rfl,hn,q⟩:=h
 have nd:=dO.nd
 refine⟨_,(af (bQ (i:=1) nd jA) (af (ic c_prime_paper (hr.mono (by decide)) rfl rfl rfl (aa (pv 0) ag) (mh (i:=2) x_TooFar.cls rfl x_TooFar.at_ nd rfl rfl (λ_=>(aj (bQ (i:=1) nd (iT K rfl (pv 2))))))) (aj (aA (pv 1))))),?_⟩
 show cm _ _ _ [some (.int n),none,none] H
 k_data
 refine⟨n,rfl,λh=>absurd h (by omega),λh x dx H' hs hx hX hd=>?_,λh1 h2=>absurd h1 (by omega),λhp h9=>absurd h9 (by omega)⟩
 exact⟨c2,rfl,x,rfl,some dx,hX,x_TooFar.cls,m3,c2,dx,.inl hX,x_TooFar.cls,x_TooFar.nof,_,hd,.int n,rfl,q _ hs⟩
def j8:Sp:=λvs H Q _=>∃ n:Int,vs=[.int n]/\2<=n/\n<=10^9/\∀ H',au H H'->Q (.bl true) H'
theorem du:ay ["_law_n","_law_least_here","_law_told"] ["_law_n"] (ah (top 36)):=fE
theorem lZ {c1 c2 c3:Addr} (D:aw K mg "_law_right" (top 36)) (c_prime_paper:Callee P w K mg base (cz P w) 69 "prime_paper" ["n"] (fA K c1 c2 c3)) (c__law_least:Callee P w K mg base bf 1 "_law_least" ["_law_n"] jF) (c__law_is_paper:Callee P w K mg base bf 33 "_law_is_paper" ["_law_p","_law_thing"] (dQ K 30)) (c__law_divisor:Callee P w K mg base bf 70 "_law_divisor" ["_law_n"] mr) (c__law_refused:Callee P w K mg base bf 70 "_law_refused" ["_law_n"] eg) (c__law_whole:Callee P w K mg base bf 1 "_law_whole" ["_law_found"] (rA K)):Callee P w K mg base bf 71 "_law_right" ["_law_n"] j8:=by
 refine cO D du (λf cdv A outer s H vs Q E hr h=>?_)
 obtain⟨n,rfl,n2,n9,q⟩:=h
 have nd:=du.nd
 refine⟨_,(af (bQ (i:=1) nd (eS c__law_least hr aN (aa (pv 0) ag))) (af (aR (ar cq (pv 1) (pv 0) (av _)) (aj (aA (eS c__law_is_paper hr aN (aa (pv 0) (aa (eS c_prime_paper hr bL (aa (pv 0) ag)) ag))))) aC) (af (bQ (i:=2) nd (eS c__law_divisor hr aN (aa (pv 0) ag))) (aj (aA (hG (de (qa hr.units) (eS c__law_refused hr aN (aa (pv 0) ag)) (bU (aa aT (aa aT (aa aT (aa aT (aa aT ag)))))) (av _)) (hG (eS c__law_whole hr aN (aa (pv 2) ag)) (hJ (de cq (pv 2) (pv 1) (av _)))))))))),?_⟩
 show cm _ _ _ [some (.int n),none,none] H
 k_data
 refine⟨n,rfl,n2,by omega,λr hL=>⟨bF,?_⟩⟩
 have rle:=hL.le (by omega)
 refine bC (λc=>?_) (λc=>?_)
 ·have rn:r=n:=V.int.inj c
  subst rn
  have hp:Num.Pm r:=⟨n2,λd d2 dn=>hL.no d d2 dn⟩
  refine⟨r,rfl,λz=>absurd z (by omega),λz=>absurd z (by omega),λ_ _ r' hL' rn'=>?_,λ_ _ d v H' hd s' hv=>?_⟩
  ·exact absurd hL'.dv (hp.no r' hL'.two rn')
  ·exact⟨r,d,v,rfl,hd,Num.lC hp n9,hv,λH2 s2=>q _ (s'.trans s2)⟩
 ·have np:¬Num.Pm n:=λz=>z.no r hL.two (by have:r≠n:=λy=>c (congrArg V.int y);omega) hL.dv
  refine⟨n,rfl,n2,n9,np,λr' H2 hL' s2=>?_⟩
  have er:r'=r:=by
   have h1:=hL.no r' hL'.two
   have h2:=hL'.no r hL.two
   rcases (by omega:r'<r∨r'=r∨r<r') with z | z | z
   ·exact absurd hL'.dv (h1 z)
   ·exact z
   ·exact absurd hL.dv (h2 z)
  subst er
  refine⟨n,rfl,.inr (.inr ⟨n2,n9,np⟩),λp3 H3 s3 h3=>⟨by show 5<=sizeLine;decide,λp4 hp4=>?_⟩⟩
  rw [decide_eq_false (show ¬n<2 by omega),decide_eq_false (show ¬10^9<n by omega),decide_eq_true (show 2<=n/\n<=10^9 from ⟨n2,n9⟩)] at h3
  have s4:=az (o:=.lst [V.bl false,V.bl false,V.bl true,V.bl true,V.bl false]) hp4
  refine gE (bs:=[false,false,true,true,false]) (cs:=[false,false,true,true,false]) (s4 _ _ h3) ai ⟨true,rfl,?_⟩
  rw [if_pos rfl]
  refine⟨.int r',_,rfl,rfl,true,rfl,?_⟩
  rw [if_pos rfl]
  refine⟨bF,?_⟩
  rw [decide_eq_true rfl]
  exact q _ ((s2.trans s3).trans s4)
end
end K
namespace K
open PySem PySem.Spec PyProof.Rows L2
theorem ri {n d:Int} (hn:1<n) (d2:2<=d) (no:∀ k,2<=k->k<d->¬k∣n) (h:n<d*d):Num.Pm n:=⟨by omega,λe e2 en hd=>by
 rcases (by omega:e<d∨d<=e) with z | z
 ·exact no e e2 z hd
 ·obtain⟨c,hc⟩:=hd
  have c2:2<=c:=by
   rcases (by omega:c<=0∨c=1∨2<=c) with y | y | y
   ·have:=Int.mul_nonpos_of_nonneg_of_nonpos (show 0<=e by omega) y
    omega
   ·rw [y] at hc
    omega
   ·exact y
  have cd:c<d:=by
   rcases (by omega:c<d∨d<=c) with y | y
   ·exact y
   ·have:=Int.mul_le_mul z y (by omega) (by omega)
    omega
  exact no c c2 cd ⟨e,by rw [hc,Int.mul_comm]⟩⟩
def sE (n:Nat):Bool:=(List.range 126).all λi=>(List.range 126).all λj=>!decide (n%(2*(126*i+j)+3)=0)
theorem mi:Num.Pm 999999937:=by
 have h:sE 999999937=true:=by decide +kernel
 refine ri (d:=31625) (by decide) (by decide) (λk k2 kd hd=>?_) (by decide)
 obtain⟨c,hc⟩:=hd
 rcases (by omega:k%2=0∨k%2=1) with z | z
 ·have e:k=2*(k/2):=by omega
  rw [e,Int.mul_assoc] at hc
  omega
 ·have hk:((k.toNat-3)/2/126)<126:=by omega
  have h1:=List.all_eq_true.mp h ((k.toNat-3)/2/126) (List.mem_range.mpr hk)
  have h2:=List.all_eq_true.mp h1 ((k.toNat-3)/2%126) (List.mem_range.mpr (Nat.mod_lt _ (by decide)))
  have e:2*(126*((k.toNat-3)/2/126)+(k.toNat-3)/2%126)+3=k.toNat:=by omega
  rw [e] at h2
  have hd:k.toNat∣999999937:=by
   have:((k.toNat:Nat):Int)∣((999999937:Nat):Int):=⟨c,by rw [show ((k.toNat:Nat):Int)=k by omega];exact hc⟩
   exact Int.natCast_dvd_natCast.mp this
  rw [Nat.mod_eq_zero_of_dvd hd] at h2
  simp at h2
end K
namespace K
open PySem PySem.Spec PyProof.Rows L2
section
variable {P:Program} {w:World} {K:PySem.W.Frag} {mg:Str->Option Value} {base:Heap}
theorem mq:ay ["_law_script","_law_cell","_law_row","_law_n","_law_below","_law_above"] ["_law_script"] (ah (top 37)):=fE
theorem pY {fl:Addr} {fdl:FuncData} (F:mK K "law" "law" (top 37) fl fdl) (c__law_draws:Callee P w K mg base bf 1 "_law_draws" ["_law_cell","_law_many"] j6) (c__law_least:Callee P w K mg base bf 1 "_law_least" ["_law_n"] jF) (c__law_right:Callee P w K mg base bf 71 "_law_right" ["_law_n"] j8) (c__law_refused:Callee P w K mg base bf 70 "_law_refused" ["_law_n"] eg) (c__law_part:Callee P w K mg base bf 70 "_law_part" ["_law_n"] mw) (c__law_whole:Callee P w K mg base bf 1 "_law_whole" ["_law_found"] (rA K)) (n_all:mg "all"=none):bN P w K mg base bf 72 fl fdl ["_law_script"] (oR K):=by
 refine m6 F mq (λvs H Q E h=>by obtain⟨a,b,rfl,_⟩:=h;rfl) (λcdv A outer s H vs Q E hr h=>?_)
 obtain⟨a,ns,rfl,hS,h63,q⟩:=h
 have nd:=mq.nd
 refine⟨_,(af (fv PassesOwn.never rfl (hW (md n6 (pv 0) nP (nQ ae))) (aZ (i:=1) nd rfl (Or.inl rfl) (.inr rfl)) (af (bQ (i:=2) nd (eS c__law_draws hr aN (aa (pv 1) (aa ae ag)))) (af (bQ (i:=3) nd (ao bS ae (ao aF (aD aV (pv 2) ae (λ_ _=>rfl)) (aD aV (bU (aa ae (aa ae (aa ae (aa (ao cj ae ae) ag))))) (ao aF (aD aV (pv 2) ae (λ_ _=>rfl)) ae) (λ_ _=>rfl))))) (af (fu (aR (ar cq (ao aF (ao br (aD aV (pv 2) ae (λ_ _=>rfl)) ae) ae) ae (av _)) (aj (bQ (i:=3) nd (ao bS ae (ao aF (aD aV (pv 2) ae (λ_ _=>rfl)) ae)))) aC)) (af (fu (aR (ar cq (ao aF (ao br (aD aV (pv 2) ae (λ_ _=>rfl)) ae) ae) ae (av _)) (aj (bD PassesOwn.never (ar dI (eS c__law_least hr aN (aa (pv 3) ag)) (pv 3) (av _)) (aj (bQ (i:=3) nd (ao bS (pv 3) ae))))) aC)) (af (aR (bE (aW (eS c__law_right hr aN (aa (pv 3) ag)) (λ_=>rfl))) (aj (aA aT)) aC) (af (bQ (i:=4) nd (ao bT ae (aD aV (bU (aa (ao aF (aD aV (pv 2) ae (λ_ _=>rfl)) ae) (aa (aD aV (pv 2) ae (λ_ _=>rfl)) ag))) (ao aF (ao br (aD aV (pv 2) ae (λ_ _=>rfl)) ae) ae) (λ_ _=>rfl)))) (af (bQ (i:=5) nd (ao bS (ao bS (ao cj ae ae) ae) (aD aV (bU (aa (ao aF (aD aV (pv 2) ae (λ_ _=>rfl)) ae) (aa (ao aF (aD aV (pv 2) ae (λ_ _=>rfl)) (ao bT (ao cj ae ae) (ao aQ ae (ao cj ae ae)))) ag))) (ao aF (ao br (aD aV (pv 2) ae (λ_ _=>rfl)) ae) ae) (λ_ _=>rfl)))) (af (aR (ar (l5 hr.units) (eS c__law_refused hr aN (aa (pv 4) ag)) (bU (aa aT (aa aT (aa aT (aa aT (aa aT ag)))))) (av _)) (aj (aA aT)) aC) (af (aR (ar (l5 hr.units) (eS c__law_refused hr aN (aa (pv 5) ag)) (bU (aa aT (aa aT (aa aT (aa aT (aa aT ag)))))) (av _)) (aj (aA aT)) aC) (aj (aR (PW.pt (cK (ar fh (eS c__law_part hr aN (aa (pv 5) ag)) (pv 5) (av _)) (ef (bE (aW (eS c__law_whole hr aN (aa (eS c__law_part hr aN (aa (pv 5) ag)) ag)) (λ_=>rfl)))))) (aj (aA aT)) aC)))))))))))) (aj (aA (aB (iw rfl) rfl n_all L2.boot_all (aa (iS rfl (qL (N':=["_law_n"]) (js:=[none]) rfl rfl) (hZ (d6 (aa ae (aa ae (aa ae (aa ae (aa ae (aa ae (aa (ao cj ae ae) ag))))))))) (λ_ _ _ _=>(aZ (i:=0) (show List.Nodup [("_law_n":Str)] from by decide +kernel) rfl (Or.inl rfl) (.inr rfl))) (λ_ _ _ _=>cZ) (λ_ _ _ _=>(eS c__law_right hr aN (aa (pv 0) ag)))) ag))))),?_⟩
 show cm _ _ _ [some (.ref a),none,none,none,none,none] H
 k_data
 refine⟨a,_,rfl,hS,λp0 hp0=>?_⟩
 k_data
 refine⟨⟨_,bh.of ai⟩,?_⟩
 refine kB (xs:=iz (ns.map V.int) none (some 4)) (λi σ' H'=>(∃ o1 o2 o3 o4 o5,σ'=[some (.ref a),o1,o2,o3,o4,o5])/\H' p0=some (.lst (iz (ns.map V.int) none (some 4)))) ⟨⟨_,_,_,_,_,rfl⟩,ai⟩ (λi σ' H' _ h=>bh.of h.2) ?_ ?_
 ·rintro i x σ' H1 hx ⟨⟨o1,o2,o3,o4,o5,rfl⟩,h0⟩
  obtain⟨c,rfl⟩:=lj (List.mem_of_getElem? hx)
  k_data
  refine⟨c,4,rfl,by decide,λxs pr H2 hl hxs s2 h2=>?_⟩
  k_data
  have row:∀(k:Int) {H'} {Q:VK},0<=k->k<4->au H2 H'->(∀ v,mL v->Q (.int v) H')->mn K (.ref pr) (.int k) H' Q:=λk {H' Q} h0 h1 s q=>nj (s _ _ h2) h0 (by rw [hl];omega) λv hv=>q v (hxs v hv)
  refine row 0 (by decide) (by decide) (au.refl _) λv0 b0=>?_
  refine⟨by show 4<=sizeLine;decide,λp1 hp1=>?_⟩
  have s3:=az (o:=.lst [V.int 999,V.int 999,V.int 999,V.int 100000]) hp1
  refine row 1 (by decide) (by decide) s3 λv1 b1=>⟨v1,rfl,?_⟩
  refine eR (bh.of ai) (by omega) (by show _<(4:Int);omega) λv hv=>?_
  obtain⟨m,rfl,m0,m1⟩:∃ m,v=.int m/\999<=m/\m<=10^5:=by
   simp only [List.mem_cons,List.not_mem_nil,or_false] at hv
   rcases hv with rfl | rfl | rfl | rfl<;>exact⟨_,rfl,by omega,by omega⟩
  generalize upd H2 p1 _=H3 at *
  have x0:=Int.emod_nonneg v0 (show m≠0 by omega)
  have x1:=Int.emod_lt_of_pos v0 (show 0<m by omega)
  refine⟨v0,rfl,m,rfl,by omega,?_⟩
  generalize v0%m=t at *
  refine⟨λσ' H'=>H'=H3/\∃ n:Int,σ'=[some (.ref a),some (.int c),some (.ref pr),some (.int n),o4,o5]/\2<=n/\n<=999999937,?_,?_⟩
  ·k_data
   refine row 1 (by decide) (by decide) s3 λv b=>⟨v,rfl,jc (by decide),?_⟩
   refine bC (λcc=>?_) (λcc=>?_)
   ·refine row 0 (by decide) (by decide) s3 λv b=>⟨v,rfl,?_⟩
    have y0:=Int.emod_nonneg v (show (999999936:Int)≠0 by decide)
    have y1:=Int.emod_lt_of_pos v (show (0:Int)<999999936 by decide)
    exact⟨rfl,by omega,by omega⟩
   ·exact⟨rfl,by omega,by omega⟩
  rintro σ' H' ⟨e4,n,rfl,n0,n1⟩
  rw [e4]
  clear e4
  refine⟨λσ' H'=>H'=H3/\∃ n:Int,σ'=[some (.ref a),some (.int c),some (.ref pr),some (.int n),o4,o5]/\2<=n/\n<=999999937,?_,?_⟩
  ·k_data
   refine row 1 (by decide) (by decide) s3 λv b=>⟨v,rfl,jc (by decide),?_⟩
   refine bC (λcc=>?_) (λcc=>?_)
   ·refine bG (α:=Int) (λx=>[some (.ref a),some (.int c),some (.ref pr),some (.int x),o4,o5]) (λx H4=>H4=H3/\2<=x/\x<=999999937) (λx=>(999999937-x).toNat) n rfl ⟨rfl,n0,n1⟩ ?_
    rintro x H4 ⟨rfl,x2,x9⟩
    replace x2:2<=x:=x2
    replace x9:x<=999999937:=x9
    k_data
    refine⟨x,rfl,x2,by omega,λr hL=>⟨r,rfl,?_⟩⟩
    refine bC (λc2=>?_) (λc2=>?_)
    ·have:x≠999999937:=λz=>by
      have:=hL.dv
      rw [z] at this
      exact mi.no r hL.two (by omega) this
     exact⟨_,λ_ _ z=>z,x+1,rfl,rfl,by omega,by omega,by omega⟩
    ·exact⟨rfl,x2,x9⟩
   ·exact⟨rfl,n0,n1⟩
  rintro σ' H' ⟨e4,n,rfl,n0,n1⟩
  rw [e4]
  clear e4
  k_data
  refine⟨n,rfl,n0,by omega,λH4 s4=>⟨true,bc.mpr rfl,?_⟩⟩
  rw [if_neg (by decide)]
  have s4:=s3.trans s4
  refine row 2 (by decide) (by decide) s4 λv2 b2=>⟨v2,rfl,?_⟩
  refine row 2 (by decide) (by decide) s4 λv2' b2'=>⟨by show 2<=sizeLine;decide,λp2 hp2=>?_⟩
  have s5:=s4.trans (az (o:=.lst [V.int (v2%5),V.int v2']) hp2)
  refine row 1 (by decide) (by decide) s5 λu1 d1=>⟨u1,rfl,jc (by decide),?_⟩
  refine lI (lo:=0) (hi:=10^60) ai (by omega) (by omega) ⟨by omega,by omega⟩ b2' λy y0 y1=>⟨y,rfl,?_⟩
  generalize upd H4 p2 _=H5 at *
  refine row 3 (by decide) (by decide) s5 λv3 b3=>⟨v3,rfl,?_⟩
  refine row 3 (by decide) (by decide) s5 λv3' b3'=>⟨jc (by decide),jc (by decide),v3',rfl,by show 2<=sizeLine;decide,λp3 hp3=>?_⟩
  have s6:=s5.trans (az (o:=.lst [V.int (v3%9),V.int (v3'%999999999999999999999999999999999999999999999999998000000000)]) hp3)
  refine row 1 (by decide) (by decide) s6 λu2 d2=>⟨u2,rfl,jc (by decide),?_⟩
  refine lI (lo:=0) (hi:=10^60) ai (by omega) (by omega) ⟨by omega,by omega⟩ ⟨by omega,by omega⟩ λz z0 z1=>⟨z,rfl,?_⟩
  generalize upd H5 p3 _=H6 at *
  refine⟨_,rfl,.inl (by omega),λp4 H7 s7 h7=>⟨by show 5<=sizeLine;decide,λp5 hp5=>?_⟩⟩
  rw [decide_eq_true (show 1-y<2 by omega),decide_eq_false (show ¬10^9<1-y by omega),decide_eq_false (show ¬(2<=1-y/\1-y<=10^9) by omega)] at h7
  have t8:=az (o:=.lst [V.bl true,V.bl false,V.bl false,V.bl true,V.bl false]) hp5
  refine gE (bs:=[true,false,false,true,false]) (cs:=[true,false,false,true,false]) (t8 _ _ h7) ai ⟨false,rfl,?_⟩
  rw [if_neg (by decide)]
  have s8:=(s6.trans s7).trans t8
  generalize upd H7 p5 _=H8 at *
  refine⟨_,rfl,.inr (.inl (by omega)),λp6 H9 s9 h9=>⟨by show 5<=sizeLine;decide,λp7 hp7=>?_⟩⟩
  rw [decide_eq_false (show ¬1000000001+z<2 by omega),decide_eq_true (show 10^9<1000000001+z by omega),decide_eq_false (show ¬(2<=1000000001+z/\1000000001+z<=10^9) by omega)] at h9
  have t10:=az (o:=.lst [V.bl false,V.bl true,V.bl false,V.bl true,V.bl false]) hp7
  refine gE (bs:=[false,true,false,true,false]) (cs:=[false,true,false,true,false]) (t10 _ _ h9) ai ⟨false,rfl,?_⟩
  rw [if_neg (by decide)]
  have s10:=(s8.trans s9).trans t10
  generalize upd H9 p7 _=H10 at *
  refine⟨_,rfl,by omega,λH11 s11=>⟨bF,?_⟩⟩
  rw [if_neg (by simp)]
  refine⟨_,rfl,by omega,λH12 s12=>⟨.int (1000000001+z),_,rfl,rfl,true,bc.mpr rfl,?_⟩⟩
  rw [if_neg (by decide)]
  exact ((s10.trans s11).trans s12) _ _ (s2 _ _ h0)
 ·rintro σ' H1 ⟨⟨o1,o2,o3,o4,o5,rfl⟩,h0⟩
  k_data
  refine⟨by show 7<=sizeLine;decide,λp1 hp1=>⟨⟨_,cn.of ai⟩,?_⟩⟩
  refine fV (xs:=[.int 2,.int 3,.int 4,.int 7,.int 561,.int 999999999,.int (10^9)]) (λi zs H3=>H3 p1=some (.tup [.int 2,.int 3,.int 4,.int 7,.int 561,.int 999999999,.int (10^9)])/\zs=(List.replicate i true).map V.bl) ⟨ai,rfl⟩ (by show 7<=sizeLine;decide) (λi zs H3 hi ⟨z1,z2⟩=>⟨cn.of z1,by rw [z2,List.length_map,List.length_replicate];exact Nat.le_refl _⟩) ?_ ?_
  ·rintro i x zs H3 hx ⟨h3,rfl⟩
   obtain⟨n,rfl,n0,n1⟩:∃ n:Int,x=.int n/\2<=n/\n<=10^9:=by
    have:=List.mem_of_getElem? hx
    simp only [List.mem_cons,List.not_mem_nil,or_false] at this
    rcases this with rfl | rfl | rfl | rfl | rfl | rfl | rfl<;>exact⟨_,rfl,by omega,by omega⟩
   show eC 0 _ [none] _ _
   k_data
   exact⟨True.intro,n,rfl,n0,n1,λH4 s4=>⟨s4 _ _ h3,by rw [List.replicate_succ',List.map_append];rfl⟩⟩
  ·rintro zs H3 p2 ⟨h3,rfl⟩ hp2
   refine kZ (bs:=List.replicate 7 true) (bh.of ai) ?_
   exact q _
end
end K
namespace K
open PySem PySem.Spec PyProof.Rows L2
theorem kz:eY "TooFar.__init__" "part" "part" (inClass (top 5) 0):=⟨⟨rfl,rfl,rfl,by decide +kernel,rfl,by decide +kernel,by decide +kernel⟩,⟨_,_,_,_,rfl,λ_=>rfl,λ_=>rfl⟩,rfl,rfl,by decide,by decide,λ_ _ _ _ _ _ us hl=>match us,hl with | [_,_],_=>rfl⟩
theorem ji:eY "NoPrime.__init__" "divisor" "divisor" (inClass (top 6) 0):=⟨⟨rfl,rfl,rfl,by decide +kernel,rfl,by decide +kernel,by decide +kernel⟩,⟨_,_,_,_,rfl,λ_=>rfl,λ_=>rfl⟩,rfl,rfl,by decide,by decide,λ_ _ _ _ _ _ us hl=>match us,hl with | [_,_],_=>rfl⟩
theorem gM:eY "NoInverse.__init__" "divisor" "divisor" (inClass (top 7) 0):=⟨⟨rfl,rfl,rfl,by decide +kernel,rfl,by decide +kernel,by decide +kernel⟩,⟨_,_,_,_,rfl,λ_=>rfl,λ_=>rfl⟩,rfl,rfl,by decide,by decide,λ_ _ _ _ _ _ us hl=>match us,hl with | [_,_],_=>rfl⟩
theorem ky:eY "NoRoot.__init__" "rest" "rest" (inClass (top 8) 0):=⟨⟨rfl,rfl,rfl,by decide +kernel,rfl,by decide +kernel,by decide +kernel⟩,⟨_,_,_,_,rfl,λ_=>rfl,λ_=>rfl⟩,rfl,rfl,by decide,by decide,λ_ _ _ _ _ _ us hl=>match us,hl with | [_,_],_=>rfl⟩
end K
open PySem PySem.W PyProof.Rows L2
set_option maxHeartbeats 0 in
theorem PySem.Challenge.cw_rootprime_k20_prime_papers_told_holds : PySem.Challenge.rw_rootprime_k20_prime_papers_told.Holds := by
 w_on;o_law;k_head;(case hw=>w_witness2)
 k_fill
 refine L2.mJ (l:=PySem.Challenge.rw_rootprime_k20_prime_papers_told) (n:=63) (k:=72) (x := "_law_script") (CX:=L2.bf) (sp:=K.oR) rfl (by decide) rfl ⟨rfl,by decide,by decide,rfl⟩ (λw h Y=>PySem.W.kIn_of Y) ?F ?S ?C
 case F =>
  intro w mg fa h KX G hmg
  have d_least_divisor:L2.aw (L2.eJ KX) mg "least_divisor" (K.top 11):=K.fD KX G
  have d_least_divisor_from:L2.aw (L2.eJ KX) mg "least_divisor_from" (K.top 12):=K.fD KX G
  have d_parted:L2.aw (L2.eJ KX) mg "parted" (K.top 13):=K.fD KX G
  have d_divisor:L2.aw (L2.eJ KX) mg "divisor" (K.top 15):=K.fD KX G
  have d_inverse:L2.aw (L2.eJ KX) mg "inverse" (K.top 16):=K.fD KX G
  have d_primes_in:L2.aw (L2.eJ KX) mg "primes_in" (K.top 18):=K.fD KX G
  have d_power:L2.aw (L2.eJ KX) mg "power" (K.top 20):=K.fD KX G
  have d_is_least:L2.aw (L2.eJ KX) mg "is_least" (K.top 21):=K.fD KX G
  have d_prime_paper:L2.aw (L2.eJ KX) mg "prime_paper" (K.top 23):=K.fD KX G
  have d_parting_paper:L2.aw (L2.eJ KX) mg "parting_paper" (K.top 24):=K.fD KX G
  have d_least_full:L2.aw (L2.eJ KX) mg "least_full" (K.top 25):=K.fD KX G
  have d__law_whole:L2.aw (L2.eJ KX) mg "_law_whole" (K.top 27):=K.fD KX G
  have d__law_draws:L2.aw (L2.eJ KX) mg "_law_draws" (K.top 28):=K.fD KX G
  have d__law_least:L2.aw (L2.eJ KX) mg "_law_least" (K.top 29):=K.fD KX G
  have d__law_power:L2.aw (L2.eJ KX) mg "_law_power" (K.top 30):=K.fD KX G
  have d__law_is_full:L2.aw (L2.eJ KX) mg "_law_is_full" (K.top 31):=K.fD KX G
  have d__law_is_paper:L2.aw (L2.eJ KX) mg "_law_is_paper" (K.top 32):=K.fD KX G
  have d__law_refused:L2.aw (L2.eJ KX) mg "_law_refused" (K.top 33):=K.fD KX G
  have d__law_divisor:L2.aw (L2.eJ KX) mg "_law_divisor" (K.top 34):=K.fD KX G
  have d__law_part:L2.aw (L2.eJ KX) mg "_law_part" (K.top 35):=K.fD KX G
  have d__law_right:L2.aw (L2.eJ KX) mg "_law_right" (K.top 36):=K.fD KX G
  have d_law:L2.aw (L2.eJ KX) mg "law" (K.top 37):=K.fD KX G
  have n_abs:mg "abs"=none:=PySem.W.mg_none_of KX G (by k_is)
  have n_isinstance:mg "isinstance"=none:=PySem.W.mg_none_of KX G (by k_is)
  have n_int:mg "int"=none:=PySem.W.mg_none_of KX G (by k_is)
  have n_bool:mg "bool"=none:=PySem.W.mg_none_of KX G (by k_is)
  have n_range:mg "range"=none:=PySem.W.mg_none_of KX G (by k_is)
  have n_ValueError:mg "ValueError"=none:=PySem.W.mg_none_of KX G (by k_is)
  have n_tuple:mg "tuple"=none:=PySem.W.mg_none_of KX G (by k_is)
  have n_len:mg "len"=none:=PySem.W.mg_none_of KX G (by k_is)
  have n_all:mg "all"=none:=PySem.W.mg_none_of KX G (by k_is)
  have n_any:mg "any"=none:=PySem.W.mg_none_of KX G (by k_is)
  refine' L2.aL (PySem.W.mg_of (n := "PrimeError") KX G ?xa) (λa_PrimeError=>?g1)
  (case xa=>k_is)
  refine' L2.aL (L2.b9 KX a_PrimeError ?l ?c2 ?c3 ?e1 ?e2 ?e3 ?e4 ?e5 ?e6 ?ob ?kp) (λc_PrimeError=>?g2)
  (case l=>k_is);(case c2=>rfl);(case c3=>rfl);(case e1=>k_is);(case e2=>k_is);(case e3=>k_is);(case e4=>k_is);(case e5=>k_is);(case e6=>k_is);(case ob=>exact⟨_,_,_,_,_,_,_,_,_,_,_,_,_,_,_,_,rfl,rfl,rfl,rfl⟩);(case kp=>k_is)
  refine' L2.aL (L2.eV a_PrimeError c_PrimeError.2 c_PrimeError.1 ?i) (λx_PrimeError=>?g3)
  (case i=>k_is)
  refine' L2.aL (PySem.W.mg_of (n := "NoNumber") KX G ?xa) (λa_NoNumber=>?g4)
  (case xa=>k_is)
  refine' L2.aL (L2.b9 KX a_NoNumber ?l ?c2 ?c3 ?e1 ?e2 ?e3 ?e4 ?e5 ?e6 ?ob ?kp) (λc_NoNumber=>?g5)
  (case l=>k_is);(case c2=>rfl);(case c3=>rfl);(case e1=>k_is);(case e2=>k_is);(case e3=>k_is);(case e4=>k_is);(case e5=>k_is);(case e6=>k_is);(case ob=>exact⟨_,_,_,_,_,_,_,_,_,_,_,_,_,_,_,_,rfl,rfl,rfl,rfl⟩);(case kp=>k_is)
  refine' L2.aL (L2.eV a_NoNumber c_NoNumber.2 c_NoNumber.1 ?i) (λx_NoNumber=>?g6)
  (case i=>k_is)
  refine' L2.aL (PySem.W.mg_of (n := "Nought") KX G ?xa) (λa_Nought=>?g7)
  (case xa=>k_is)
  refine' L2.aL (L2.b9 KX a_Nought ?l ?c2 ?c3 ?e1 ?e2 ?e3 ?e4 ?e5 ?e6 ?ob ?kp) (λc_Nought=>?g8)
  (case l=>k_is);(case c2=>rfl);(case c3=>rfl);(case e1=>k_is);(case e2=>k_is);(case e3=>k_is);(case e4=>k_is);(case e5=>k_is);(case e6=>k_is);(case ob=>exact⟨_,_,_,_,_,_,_,_,_,_,_,_,_,_,_,_,rfl,rfl,rfl,rfl⟩);(case kp=>k_is)
  refine' L2.aL (L2.eV a_Nought c_Nought.2 c_Nought.1 ?i) (λx_Nought=>?g9)
  (case i=>k_is)
  refine' L2.aL (PySem.W.mg_of (n := "NoOrder") KX G ?xa) (λa_NoOrder=>?g10)
  (case xa=>k_is)
  refine' L2.aL (L2.b9 KX a_NoOrder ?l ?c2 ?c3 ?e1 ?e2 ?e3 ?e4 ?e5 ?e6 ?ob ?kp) (λc_NoOrder=>?g11)
  (case l=>k_is);(case c2=>rfl);(case c3=>rfl);(case e1=>k_is);(case e2=>k_is);(case e3=>k_is);(case e4=>k_is);(case e5=>k_is);(case e6=>k_is);(case ob=>exact⟨_,_,_,_,_,_,_,_,_,_,_,_,_,_,_,_,rfl,rfl,rfl,rfl⟩);(case kp=>k_is)
  refine' L2.aL (L2.eV a_NoOrder c_NoOrder.2 c_NoOrder.1 ?i) (λx_NoOrder=>?g12)
  (case i=>k_is)
  refine' L2.aL (PySem.W.mg_of (n := "TooFar") KX G ?xa) (λa_TooFar=>?g13)
  (case xa=>k_is)
  refine' L2.aL (L2.b9 KX a_TooFar ?l ?c2 ?c3 ?e1 ?e2 ?e3 ?e4 ?e5 ?e6 ?ob ?kp) (λc_TooFar=>?g14)
  (case l=>k_is);(case c2=>rfl);(case c3=>rfl);(case e1=>k_is);(case e2=>k_is);(case e3=>k_is);(case e4=>k_is);(case e5=>k_is);(case e6=>k_is);(case ob=>exact⟨_,_,_,_,_,_,_,_,_,_,_,_,_,_,_,_,rfl,rfl,rfl,rfl⟩);(case kp=>k_is)
  refine' L2.aL (L2.eW K.kz a_TooFar c_TooFar.2 c_TooFar.1 ?nf ?i ?fn ?l ?cc ?kk) (λx_TooFar=>?g15)
  (case nf=>k_is);(case i=>k_is);(case fn=>k_is);(case l=>k_is);(case cc=>k_is);(case kk=>k_is)
  refine' L2.aL (PySem.W.mg_of (n := "NoPrime") KX G ?xa) (λa_NoPrime=>?g16)
  (case xa=>k_is)
  refine' L2.aL (L2.b9 KX a_NoPrime ?l ?c2 ?c3 ?e1 ?e2 ?e3 ?e4 ?e5 ?e6 ?ob ?kp) (λc_NoPrime=>?g17)
  (case l=>k_is);(case c2=>rfl);(case c3=>rfl);(case e1=>k_is);(case e2=>k_is);(case e3=>k_is);(case e4=>k_is);(case e5=>k_is);(case e6=>k_is);(case ob=>exact⟨_,_,_,_,_,_,_,_,_,_,_,_,_,_,_,_,rfl,rfl,rfl,rfl⟩);(case kp=>k_is)
  refine' L2.aL (L2.eW K.ji a_NoPrime c_NoPrime.2 c_NoPrime.1 ?nf ?i ?fn ?l ?cc ?kk) (λx_NoPrime=>?g18)
  (case nf=>k_is);(case i=>k_is);(case fn=>k_is);(case l=>k_is);(case cc=>k_is);(case kk=>k_is)
  refine' L2.aL (PySem.W.mg_of (n := "NoInverse") KX G ?xa) (λa_NoInverse=>?g19)
  (case xa=>k_is)
  refine' L2.aL (L2.b9 KX a_NoInverse ?l ?c2 ?c3 ?e1 ?e2 ?e3 ?e4 ?e5 ?e6 ?ob ?kp) (λc_NoInverse=>?g20)
  (case l=>k_is);(case c2=>rfl);(case c3=>rfl);(case e1=>k_is);(case e2=>k_is);(case e3=>k_is);(case e4=>k_is);(case e5=>k_is);(case e6=>k_is);(case ob=>exact⟨_,_,_,_,_,_,_,_,_,_,_,_,_,_,_,_,rfl,rfl,rfl,rfl⟩);(case kp=>k_is)
  refine' L2.aL (L2.eW K.gM a_NoInverse c_NoInverse.2 c_NoInverse.1 ?nf ?i ?fn ?l ?cc ?kk) (λx_NoInverse=>?g21)
  (case nf=>k_is);(case i=>k_is);(case fn=>k_is);(case l=>k_is);(case cc=>k_is);(case kk=>k_is)
  refine' L2.aL (PySem.W.mg_of (n := "NoRoot") KX G ?xa) (λa_NoRoot=>?g22)
  (case xa=>k_is)
  refine' L2.aL (L2.b9 KX a_NoRoot ?l ?c2 ?c3 ?e1 ?e2 ?e3 ?e4 ?e5 ?e6 ?ob ?kp) (λc_NoRoot=>?g23)
  (case l=>k_is);(case c2=>rfl);(case c3=>rfl);(case e1=>k_is);(case e2=>k_is);(case e3=>k_is);(case e4=>k_is);(case e5=>k_is);(case e6=>k_is);(case ob=>exact⟨_,_,_,_,_,_,_,_,_,_,_,_,_,_,_,_,rfl,rfl,rfl,rfl⟩);(case kp=>k_is)
  refine' L2.aL (L2.eW K.ky a_NoRoot c_NoRoot.2 c_NoRoot.1 ?nf ?i ?fn ?l ?cc ?kk) (λx_NoRoot=>?g24)
  (case nf=>k_is);(case i=>k_is);(case fn=>k_is);(case l=>k_is);(case cc=>k_is);(case kk=>k_is)
  refine' L2.aL (PySem.W.mg_of (n := "GREATEST") KX G ?xa) (λg_GREATEST=>?g25)
  (case xa=>k_is)
  refine' L2.aL (L2.ff c_NoNumber c_PrimeError ?xa) (λm_NoNumber=>?g26)
  (case xa=>k_is)
  refine' L2.aL (L2.ff c_TooFar c_PrimeError ?xa) (λm_TooFar=>?g27)
  (case xa=>k_is)
  refine' L2.aL (L2.ff c_NoPrime c_PrimeError ?xa) (λm_NoPrime=>?g28)
  (case xa=>k_is)
  refine' L2.aL (L2.ff c_TooFar c_TooFar ?xa) (λmm_TooFar=>?g29)
  (case xa=>k_is)
  refine' L2.aL (L2.ff c_NoPrime c_NoPrime ?xa) (λmm_NoPrime=>?g30)
  (case xa=>k_is)
  refine' L2.aL (L2.aX c_NoNumber c_NoInverse ?xn ?xa) (λka1=>?g31)
  (case xn=>rfl);(case xa=>k_is)
  refine' L2.aL (L2.aX c_NoNumber c_NoOrder ?xn ?xa) (λkb1=>?g32)
  (case xn=>rfl);(case xa=>k_is)
  refine' L2.aL (L2.aX c_NoNumber c_Nought ?xn ?xa) (λkd1=>?g33)
  (case xn=>rfl);(case xa=>k_is)
  refine' L2.aL (L2.aX c_NoNumber c_NoRoot ?xn ?xa) (λke1=>?g34)
  (case xn=>rfl);(case xa=>k_is)
  refine' L2.aL (L2.aX c_NoNumber c_TooFar ?xn ?xa) (λkg1=>?g35)
  (case xn=>rfl);(case xa=>k_is)
  refine' L2.aL (L2.aX c_NoNumber c_NoPrime ?xn ?xa) (λkh1=>?g36)
  (case xn=>rfl);(case xa=>k_is)
  refine' L2.aL (L2.gP c_NoNumber ?xa) (λkv1=>?g37)
  (case xa=>k_is)
  refine' L2.aL (L2.aX c_TooFar c_NoInverse ?xn ?xa) (λka2=>?g38)
  (case xn=>rfl);(case xa=>k_is)
  refine' L2.aL (L2.aX c_TooFar c_NoOrder ?xn ?xa) (λkb2=>?g39)
  (case xn=>rfl);(case xa=>k_is)
  refine' L2.aL (L2.aX c_TooFar c_Nought ?xn ?xa) (λkd2=>?g40)
  (case xn=>rfl);(case xa=>k_is)
  refine' L2.aL (L2.aX c_TooFar c_NoRoot ?xn ?xa) (λke2=>?g41)
  (case xn=>rfl);(case xa=>k_is)
  refine' L2.aL (L2.aX c_TooFar c_NoNumber ?xn ?xa) (λkf2=>?g42)
  (case xn=>rfl);(case xa=>k_is)
  refine' L2.aL (L2.aX c_TooFar c_NoPrime ?xn ?xa) (λkh2=>?g43)
  (case xn=>rfl);(case xa=>k_is)
  refine' L2.aL (L2.gP c_TooFar ?xa) (λkv2=>?g44)
  (case xa=>k_is)
  refine' L2.aL (L2.aX c_NoPrime c_NoInverse ?xn ?xa) (λka3=>?g45)
  (case xn=>rfl);(case xa=>k_is)
  refine' L2.aL (L2.aX c_NoPrime c_NoOrder ?xn ?xa) (λkb3=>?g46)
  (case xn=>rfl);(case xa=>k_is)
  refine' L2.aL (L2.aX c_NoPrime c_Nought ?xn ?xa) (λkd3=>?g47)
  (case xn=>rfl);(case xa=>k_is)
  refine' L2.aL (L2.aX c_NoPrime c_NoRoot ?xn ?xa) (λke3=>?g48)
  (case xn=>rfl);(case xa=>k_is)
  refine' L2.aL (L2.aX c_NoPrime c_NoNumber ?xn ?xa) (λkf3=>?g49)
  (case xn=>rfl);(case xa=>k_is)
  refine' L2.aL (L2.aX c_NoPrime c_TooFar ?xn ?xa) (λkg3=>?g50)
  (case xn=>rfl);(case xa=>k_is)
  refine' L2.aL (L2.gP c_NoPrime ?xa) (λkv3=>?g51)
  (case xa=>k_is)
  refine L2.nt hmg d_law (λ_ _ _ _ _ _ _=>rfl) λbase f fd kb F=>?_
  have inv:=λP w=>K.jw (P:=P) (w:=w) (base:=base) d_inverse (K.jv d_divisor n_abs) (x_NoInverse _ _ _)
  have pw:=λP w=>K.lY (P:=P) (w:=w) (base:=base) d_power (inv P w) n_abs
  have lt:=λP w=>K.jx (P:=P) (w:=w) (base:=base) d_is_least (pw P w) n_all
  have fr:=λP w=>K.nB (P:=P) (w:=w) (base:=base) d_least_divisor_from
  have ls:=λP w=>K.lW (P:=P) (w:=w) (base:=base) d_least_divisor (fr P w) x_NoNumber (x_TooFar _ _ _) ⟨_,g_GREATEST⟩
  have pd:=λP w=>K.kF (P:=P) (w:=w) (base:=base) d_parted (fr P w) x_NoNumber (x_TooFar _ _ _) ⟨_,g_GREATEST⟩
  have pi:=λP w=>K.iP (P:=P) (w:=w) (base:=base) d_primes_in
  have lf:=λP w=>K.gX (P:=P) (w:=w) (base:=base) d_least_full (lt P w)
  have pp:=λP w=>(K.gg (P:=P) (w:=w) (base:=base) d_prime_paper d_parting_paper (ls P w) (pd P w) (lf P w) (pi P w) (x_NoPrime _ _ _) n_tuple 30).2
  have px:=λP w=>K.nG (P:=P) (w:=w) (base:=base) d_prime_paper (ls P w) (pp P w) (lf P w) (pi P w) (x_NoPrime _ _ _)
  have wh:=λP w=>K.qX (P:=P) (w:=w) (base:=base) d__law_whole n_isinstance n_int n_bool
  have ll:=λP w=>K.nE (P:=P) (w:=w) (base:=base) d__law_least n_int
  have rf:=λP w=>K.jy (P:=P) (w:=w) (base:=base) d__law_refused (px P w) x_PrimeError (x_NoInverse _ _ _) x_NoOrder (x_NoPrime _ _ _) x_Nought (x_NoRoot _ _ _) x_NoNumber (x_TooFar _ _ _) n_isinstance n_ValueError m_NoNumber m_TooFar m_NoPrime ⟨c_NoNumber.1,ka1,kb1,kd1,ke1,L2.fb,kg1,kh1,kv1⟩ ⟨c_TooFar.1,ka2,kb2,kd2,ke2,kf2,L2.fb,kh2,kv2⟩ ⟨c_NoPrime.1,ka3,kb3,kd3,ke3,kf3,kg3,L2.fb,kv3⟩
  exact K.pY F (K.lV d__law_draws n_abs n_range) (ll _ _) (K.lZ d__law_right (px _ _) (ll _ _) (K.iO d__law_is_paper (wh _ _) (K.lX d__law_is_full (K.nF d__law_power)) n_isinstance n_tuple n_len n_range n_any 30) (K.nA d__law_divisor (px _ _) (x_NoPrime _ _ _) mm_NoPrime) (rf _ _) (wh _ _)) (rf _ _) (K.nH d__law_part (px _ _) (x_TooFar _ _ _) mm_TooFar) (wh _ _) n_all
 case S=>exact λK H a ns hl hO hS=>⟨a,ns,rfl,hS,hl,λ_=>rfl⟩
 case C=>exact λ_ _ _ _ z=>z
