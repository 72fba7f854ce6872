import PyProof.Rows.All
import Wide.All
import OpenK.AllK
import Wide.FinOn
import Lean
import PyProof.EqAt
import PyProof.EqKinds
import PyProof.TupleCall
import KE.KRevSl
import PyProof.NeData
import PyProof.P3Eq
import PyProof.Rows.Range3
import PyProof.EnumMake
import PyProof.Draws
import PyProof.ZipIter
import PySem.Challenge.RW_rootprime_k23_prime_papers_read
set_option Elab.async false
local macro_rules | `(tactic| omega) => `(tactic| lia)
set_option linter.all false
set_option maxRecDepth 100000
namespace L2
open PySem PySem.Spec PyProof.Rows
abbrev Key:=Sum Int Str
def qy:Key->Value->Bool
 | .inl k,v=>Value.isInt k v
 | .inr x,v=>Value.isStrOf x v
def u4 (w:World):Key->Int
 | .inl k=>hashInt k
 | .inr x=>hashStr w x
theorem bh:∀{k:Key} {v:Value},qy k v=true->(∃ i t,k=Sum.inl i/\v=Value.int i t)∨(∃ x t,k=Sum.inr x/\v=Value.str x t)
 | .inl i,v,h=>by
  obtain⟨t,e⟩:=Value.isInt_shape (k:=i) (v:=v) h
  exact .inl ⟨i,t,rfl,e⟩
 | .inr x,v,h=>by
  obtain⟨t,e⟩:=Value.isStrOf_shape (x:=x) (v:=v) h
  exact .inr ⟨x,t,rfl,e⟩
theorem rJ (a b:Int):decide ((Sum.inl a:Key)=Sum.inl b)=(a==b):=by
 by_cases e:a=b
 ·subst e;simp
 ·have h:¬(Sum.inl a:Key)=Sum.inl b:=λq=>e (Sum.inl.inj q)
  rw [decide_eq_false h]
  exact (beq_eq_false_iff_ne.mpr e).symm
theorem rM (a b:Str):decide ((Sum.inr a:Key)=Sum.inr b)=decide (a=b):=by
 by_cases e:a=b
 ·subst e;simp
 ·have h:¬(Sum.inr a:Key)=Sum.inr b:=λq=>e (Sum.inr.inj q)
  rw [decide_eq_false h,decide_eq_false e]
theorem rK (a:Int) (b:Str):decide ((Sum.inl a:Key)=Sum.inr b)=false:=decide_eq_false (λq=>nomatch q)
theorem rL (a:Str) (b:Int):decide ((Sum.inr a:Key)=Sum.inl b)=false:=decide_eq_false (λq=>nomatch q)
def i6 (prog:Program) (w:World):PySem.KeyKind prog w Key where
 is:=qy
 hash:=u4 w
 inj:=λv a b ha hb=>by
  rcases bh ha with⟨i,t,rfl,rfl⟩|⟨x,t,rfl,rfl⟩
  ·rcases bh hb with⟨j,u,rfl,e⟩|⟨y,u,rfl,e⟩
   ·injection e with e1 _;rw [e1]
   ·exact nomatch e
  ·rcases bh hb with⟨j,u,rfl,e⟩|⟨y,u,rfl,e⟩
   ·exact nomatch e
   ·injection e with e1 _;rw [e1]
 byValue:=λk v h=>by
  rcases bh h with⟨i,t,rfl,rfl⟩|⟨x,t,rfl,rfl⟩<;>rfl
 pyHash:=λhv h=>by
  rcases bh hv with⟨i,t,rfl,rfl⟩|⟨x,t,rfl,rfl⟩
  ·exact wpAny_pyHash_int h
  ·exact wpAny_pyHash_str h
 eqBool:=λhu hv h=>by
  rcases bh hu with⟨i,t,rfl,rfl⟩|⟨x,t,rfl,rfl⟩
  ·rcases bh hv with⟨j,u,rfl,rfl⟩|⟨y,u,rfl,rfl⟩
   ·rw [rJ] at h;exact wpAny_eqBool_int h
   ·rw [rK] at h;exact SeqAt.EqAt.int_str i t y u _ _ _ _ h
  ·rcases bh hv with⟨j,u,rfl,rfl⟩|⟨y,u,rfl,rfl⟩
   ·rw [rL] at h;exact SeqAt.EqAt.str_int x t j u _ _ _ _ h
   ·rw [rM] at h;exact wpAny_eqBool_str h
 «strs»:=λk x t v h=>by
  rcases bh h with⟨i,u,rfl,e⟩|⟨y,u,rfl,e⟩
  ·exact nomatch e
  ·injection e with e1 _
   subst e1
   cases v<;>rfl
inductive V where
 | non | bl (b:Bool) | int (i:Int) | str (x:Str) | byt (b:Array UInt8) | flt (b:UInt64) | ref (a:Addr) | ty (n:String)
 deriving DecidableEq
def RelV:V->Value->Prop
 | .non,u=>u=Value.none
 | .bl b,u=>u=Value.bool b
 | .int i,u=>∃ t,u=Value.int i t
 | .str x,u=>∃ t,u=Value.str x t
 | .byt b,u=>∃ t,u=Value.bytes b t
 | .flt b,u=>∃ t,u=Value.float b t
 | .ref a,u=>u=Value.ref a
 | .ty n,u=>u=Value.type n
abbrev Vals:List V->List Value->Prop:=Paired RelV
theorem Vals.length {xs:List V} {us:List Value} (r:Vals xs us):xs.length=us.length:=Paired.length r
theorem Vals.get:∀{xs:List V} {us:List Value} {i:Nat} {x:V},Vals xs us->xs[i]?=some x->∃ u,us[i]?=some u/\RelV x u
 | _,_,_,_,.nil,e=>by simp at e
 | _,_,0,_,.cons r _,e=>by simp at e;subst e;exact⟨_,rfl,r⟩
 | _,_,i+1,x,.cons _ t,e=>by
  obtain⟨u,h1,h2⟩:=Vals.get (i:=i) (x:=x) t (by simpa using e)
  exact⟨u,by simpa using h1,h2⟩
theorem Vals.set {x:V} {u:Value} (r:RelV x u):∀{xs:List V} {us:List Value} (i:Nat),Vals xs us->Vals (xs.set i x) (us.set i u)
 | _,_,_,.nil=>.nil
 | _,_,0,.cons _ t=>.cons r t
 | _,_,i+1,.cons q t=>.cons q (Vals.set r i t)
theorem Vals.append:∀{xs ys:List V} {us ws:List Value},Vals xs us->Vals ys ws->Vals (xs++ys) (us++ws)
 | _,_,_,_,.nil,s=>s
 | _,_,_,_,.cons r t,s=>.cons r (Vals.append t s)
theorem Vals.take:∀{xs:List V} {us:List Value} (n:Nat),Vals xs us->Vals (xs.take n) (us.take n)
 | _,_,0,_=>.nil
 | _,_,_+1,.nil=>.nil
 | _,_,n+1,.cons r t=>.cons r (Vals.take n t)
theorem Vals.drop:∀{xs:List V} {us:List Value} (n:Nat),Vals xs us->Vals (xs.drop n) (us.drop n)
 | _,_,0,r=>r
 | _,_,_+1,.nil=>.nil
 | _,_,n+1,.cons _ t=>Vals.drop n t
def h8:Option V->Option Value->Prop
 | some v,some u=>RelV v u
 | none,none=>True
 | _,_=>False
def KV {κ:Type}:List (κ × V)->List (κ × Value)->Prop:=Paired fun(p:κ × V) (q:κ × Value)=>p.1=q.1/\RelV p.2 q.2
def kV:Key->V
 | .inl i=>.int i
 | .inr x=>.str x
inductive HO where
  | lst (xs:List V)
  | tup (xs:List V)
  | dK (kvs:List (Key × V)) | dT (kvs:List (List Key × V))
  | set (S:Int->Bool) (n:Nat)
  | ins (C dx:Addr) (fs:List (Str × V))
  | own (x:Addr)
  | xd (fs:List (Str × V))
  | met (f x:Addr)
  | rng (lo hi:Int)
  | frz (o:Obj) (u:HO)
  | tbl (ps:Array Value)
  | ext (φ:Heap->Prop)
abbrev Hp:=Addr->Option HO
def upd (H:Hp) (a:Addr) (o:HO):Hp:=λb=>if b=a then some o else H b
theorem af {H:Hp} {a:Addr} {o:HO}:upd H a o a=some o:=by unfold upd;rw [if_pos rfl]
theorem ar {H:Hp} {a b:Addr} {o:HO} (h:b≠a):upd H a o b=H b:=by unfold upd;rw [if_neg h]
theorem aY {H:Hp} {a b:Addr} {o:HO} (h:H a=some o) (h':H b=none):a≠b:=by
 intro e;subst e;rw [h] at h';cases h'
section
variable (P:Program) (w:World)
def bC (H:Hp) (h:Heap) (a:Addr):HO->Prop
 | .lst xs=>xs.length<=sizeLine/\∃(its:List Value) (n:Nat),Vals xs its/\h.get? a=some { cls:=.type "list",data:=.seq its.toArray n }
 | .tup xs=>xs.length<=sizeLine/\∃ its:List Value,Vals xs its/\IsTup h a its.toArray
 | .dK kvs=>kvs.length<=sizeLine/\(a==sysModules)=false/\∃ vs,KV kvs vs/\h.DictOf (i6 P w) a vs
 | .dT kvs=>kvs.length<=sizeLine/\(a==sysModules)=false/\∃ xs:List (List Key × Addr × Value),
   Paired (fun(p:List Key × V) (q:List Key × Addr × Value)=>p.1=q.1/\H q.2.1=some (.tup (p.1.map kV))/\RelV p.2 q.2.2) kvs xs /\
   ∃ o es ep,h.get? a=some o/\o.ExactDict/\o.data=.dict es ep/\es.toList=xs.map (entryOfKey (tupleKind (i6 P w)))/\(xs.map (·.1)).Nodup
 | .set S n=>h.SetOf (intKind P w) a S n
 | .ins C dx fs=>H dx=some (.own a)/\fs.length<=1000/\dx≠a/\h.get? a=some (PySem.W.instObj C dx) /\
   ∃ mA,h.Ns1 dx mA/\(∀ f,h8 (fs.lookup f) (mA f))/\PySem.Within mA (fs.map (·.1))
 | .own _=>∃ o,h.get? a=some o
 | .xd fs=>∃ mA,h.Ns1 a mA/\∀ f,h8 (fs.lookup f) (mA f)
 | .rng lo hi=>∃ t u v,h.get? a=some { cls:=.type "range",data:=.fields #[.int lo t,.int hi u,.int 1 v] }
 | .frz o u=>h.get? a=some o/\bC H h a u
 | .tbl ps=>h.get? a=some { cls:=.none,data:=.fields ps }
 | .met f x=>h.get? a=some (PySem.W.methodObj (.ref f) (.ref x))
 | .ext φ=>φ h/\(∃ o,h.get? a=some o)/\∀ h1 h2:Heap,φ h1->(∀ o,h1.get? a=some o->h2.get? a=some o)->φ h2
def ff (H:Hp) (h:Heap):Prop:=∀ a o,H a=some o->bC P w H h a o
end
section
variable {P:Program} {w:World} {H H':Hp} {h h':Heap} {a:Addr} {o:HO}
theorem bC.lt (x:bC P w H h a o):a<h.objs.size:=by
 cases o with
 | lst xs=>obtain⟨_,_,_,_,e⟩:=x;exact Heap.lt_size e
 | tup xs=>obtain⟨_,_,_,p⟩:=x;exact p.lt
 | dK kvs=>obtain⟨_,_,_,_,o,_,_,e,_⟩:=x;exact Heap.lt_size e
 | dT kvs=>obtain⟨_,_,_,_,o,_,_,e,_⟩:=x;exact Heap.lt_size e
 | set S n=>obtain⟨o,_,_,_,e,_⟩:=x;exact Heap.lt_size e
 | ins C dx fs=>obtain⟨_,_,_,e,_⟩:=x;exact Heap.lt_size e
 | own y=>obtain⟨_,e⟩:=x;exact Heap.lt_size e
 | xd fs=>obtain⟨_,⟨_,_,_,e,_⟩,_⟩:=x;exact Heap.lt_size e
 | rng lo hi=>obtain⟨_,_,_,e⟩:=x;exact Heap.lt_size e
 | frz ob u=>obtain⟨e,_⟩:=x;exact Heap.lt_size e
 | tbl ps=>exact Heap.lt_size (show h.get? a=some _ from x)
 | met f y=>exact Heap.lt_size (show h.get? a=some _ from x)
 | ext φ=>obtain⟨_,⟨_,e⟩,_⟩:=x;exact Heap.lt_size e
theorem Paired.tJ {α β:Type} {F G:α->β->Prop}:∀{l₁:List α} {l₂:List β},Paired F l₁ l₂->(∀ a b,F a b->G a b)->Paired G l₁ l₂
 | _,_,.nil,_=>.nil
 | _,_,.cons r t,f=>.cons (f _ _ r) (Paired.tJ t f)
theorem bC.jr (x:bC P w H h a o) (k:∀ b u,(b=a∨H b=some (.own a))->h.get? b=some u->h'.get? b=some u)
  (ho:∀ b,H b=some (.own a)->H' b=some (.own a)) (ht:∀ b xs,H b=some (.tup xs)->H' b=some (.tup xs)):bC P w H' h' a o:=by
 induction o with
 | lst xs=>obtain⟨z,its,n,r,e⟩:=x;exact⟨z,its,n,r,k _ _ (.inl rfl) e⟩
 | tup xs=>obtain⟨z,its,r,ob,e,c⟩:=x;exact⟨z,its,r,ob,k _ _ (.inl rfl) e,c⟩
 | dK kvs=>obtain⟨z,y,vs,r,ob,es,ep,e,c⟩:=x;exact⟨z,y,vs,r,ob,es,ep,k _ _ (.inl rfl) e,c⟩
 | dT kvs =>
  obtain⟨z,y,xs,r,ob,es,ep,e,c⟩:=x
  exact⟨z,y,xs,Paired.tJ r λp q z=>⟨z.1,ht _ _ z.2.1,z.2.2⟩,ob,es,ep,k _ _ (.inl rfl) e,c⟩
 | set S n=>obtain⟨ob,es,ep,t,e,c⟩:=x;exact⟨ob,es,ep,t,k _ _ (.inl rfl) e,c⟩
 | ins C dx fs =>
  obtain⟨d,z,ne,e,mA,⟨od,es,ep,e2,c⟩,r⟩:=x
  exact⟨ho _ d,z,ne,k _ _ (.inl rfl) e,mA,⟨od,es,ep,k _ _ (.inr d) e2,c⟩,r⟩
 | own y=>obtain⟨ob,e⟩:=x;exact⟨ob,k _ _ (.inl rfl) e⟩
 | xd fs=>obtain⟨mA,⟨od,es,ep,e,c⟩,r⟩:=x;exact⟨mA,⟨od,es,ep,k _ _ (.inl rfl) e,c⟩,r⟩
 | rng lo hi=>obtain⟨t,u,v,e⟩:=x;exact⟨t,u,v,k _ _ (.inl rfl) e⟩
 | frz ob u ih=>obtain⟨e,q⟩:=x;exact⟨k _ _ (.inl rfl) e,ih q⟩
 | tbl ps =>
  have e:h.get? a=some { cls:=.none,data:=.fields ps }:=x
  show h'.get? a=some { cls:=.none,data:=.fields ps }
  exact k a _ (.inl rfl) e
 | met f y =>
  have e:h.get? a=some (PySem.W.methodObj (.ref f) (.ref y)):=x
  show h'.get? a=some (PySem.W.methodObj (.ref f) (.ref y))
  exact k a _ (.inl rfl) e
 | ext φ=>obtain⟨p,⟨o,e⟩,st⟩:=x;exact⟨st _ _ p λo q=>k _ _ (.inl rfl) q,⟨o,k _ _ (.inl rfl) e⟩,st⟩
theorem ff.lt (x:ff P w H h) (e:H a=some o):a<h.objs.size:=(x a o e).lt
theorem ff.fresh (x:ff P w H h) (e:h.objs.size<=a):H a=none:=by
 cases q:H a with
 | none=>rfl
 | some u=>exact absurd (Nat.lt_of_lt_of_le (x.lt q) e) (Nat.lt_irrefl _)
theorem ff.kept (x:ff P w H h) (k:∀ b u,h.get? b=some u->h'.get? b=some u):ff P w H h':=λa o e =>
 (x a o e).jr (λb u _ q=>k b u q) (λ_ q=>q) λ_ _ q=>q
theorem ff.laid (x:ff P w H h) (k:∀ b u,h.get? b=some u->h'.get? b=some u) (hp:h.objs.size<=a) (new:bC P w (upd H a o) h' a o):ff P w (upd H a o) h':=λb u e=>by
 have hn:=x.fresh hp
 by_cases hb:b=a
 ·subst hb;rw [af] at e;cases e;exact new
 ·rw [ar hb] at e
  exact (x b u e).jr (λc v _ q=>k c v q) (λc q=>by rw [ar (aY q hn)];exact q) λc xs q=>by rw [ar (aY q hn)];exact q
end
def Rd (H:Hp) (a:Addr) (u:HO):Prop:=H a=some u∨∃ o,H a=some (.frz o u)
theorem Rd.of {H:Hp} {a:Addr} {u:HO} (h:H a=some u):Rd H a u:=.inl h
theorem Rd.ok {P:Program} {w:World} {H:Hp} {h:Heap} {a:Addr} {u:HO} (r:Rd H a u) (x:ff P w H h):bC P w H h a u:=by
 rcases r with r | ⟨o,r⟩
 ·exact x a u r
 ·obtain⟨_,q⟩:=x a _ r
  exact q
def uD:Option HO->Prop
 | some (.lst _)=>True
 | some (.dK _)=>True
 | some (.dT _)=>True
 | some (.set _ _)=>True
 | some (.ins _ _ _)=>True
 | some (.ext _)=>True
 | _=>False
section
variable {P:Program} {w:World} {H:Hp} {h h':Heap} {x e:Addr} {o':HO}
theorem ff.write (ok:ff P w H h) (mu:uD (H x)) (he:e=x∨H e=some (.own x)) (k:∀ b u,b≠e->h.get? b=some u->h'.get? b=some u) (heo:∃ u,h'.get? e=some u)
  (new:bC P w (upd H x o') h' x o'):ff P w (upd H x o') h':=λb u q=>by
 have nown:∀ c y,H c=some (.own y)->c≠x:=λc y r z=>by subst z;rw [r] at mu;exact mu
 have ntup:∀ c xs,H c=some (.tup xs)->c≠x:=λc xs r z=>by subst z;rw [r] at mu;exact mu
 by_cases hb:b=x
 ·subst hb;rw [af] at q;cases q;exact new
 ·rw [ar hb] at q
  by_cases hbe:b=e
  ·have q':H b=some (.own x):=by
    rcases he with z | z
    ·exact absurd (hbe.trans z) hb
    ·rw [hbe];exact z
   rw [q] at q';cases q'
   obtain⟨v,hv⟩:=heo
   exact⟨v,by rw [hbe];exact hv⟩
  ·refine (ok b u q).jr (λc v hc r=>k c v ?_ r) (λc r=>by rw [ar (nown c b r)];exact r) λc xs r=>by rw [ar (ntup c xs r)];exact r
   rcases hc with rfl | hc
   ·exact hbe
   ·rintro rfl
    rcases he with z | z
    ·exact nown c b hc z
    ·rw [hc] at z;cases z;exact hb rfl
end
structure Un (fs ex:List Addr) (H H':Hp) (h h':Heap):Prop where
 keep:∀ b o,h.get? b=some o->H b=none->b∉fs->b∉ex->h'.get? b=some o
 slot:∀ b o,h.get? b=some o->H b=none->b∈fs->b∉ex->∃ sl,h'.get? b=some { o with slots:=sl }
 free:∀ b o,h.get? b=some o->H b=none->b∉ex->H' b=none
 there:∀ b o,h.get? b=some o->b∉ex->∃ o',h'.get? b=some o'
 tups:∀ b xs,H b=some (.tup xs)->H' b=some (.tup xs)
 frzs:∀ b o u,H b=some (.frz o u)->H' b=some (.frz o u)
 tbls:∀ b ps,H b=some (.tbl ps)->∃ more,H' b=some (.tbl (ps++more))
section
variable {fs fs' ex ex':List Addr} {H H1 H2:Hp} {h h1 h2 h':Heap} {a x e:Addr} {o:HO}
theorem Un.any (u:Un fs ex H H1 h h1) {b:Addr} {ob:Obj} (q:h.get? b=some ob) (n:H b=none) (hx:b∉ex):∃ sl,h1.get? b=some { ob with slots:=sl }:=by
 by_cases hb:b∈fs
 ·exact u.slot b ob q n hb hx
 ·exact⟨ob.slots,u.keep b ob q n hb hx⟩
theorem Un.trans (a:Un fs ex H H1 h h1) (b:Un fs ex H1 H2 h1 h2):Un fs ex H H2 h h2 where
 keep:=λc ob q n hc hx=>b.keep c ob (a.keep c ob q n hc hx) (a.free c ob q n hx) hc hx
 slot:=λc ob q n hc hx=>by
  obtain⟨sl,e1⟩:=a.slot c ob q n hc hx
  obtain⟨sl',e2⟩:=b.slot c _ e1 (a.free c ob q n hx) hc hx
  exact⟨sl',e2⟩
 free:=λc ob q n hx=>by
  obtain⟨o',e1⟩:=a.there c ob q hx
  exact b.free c o' e1 (a.free c ob q n hx) hx
 there:=λc ob q hx=>by
  obtain⟨o',e1⟩:=a.there c ob q hx
  exact b.there c o' e1 hx
 tups:=λc xs q=>b.tups c xs (a.tups c xs q)
 frzs:=λc ob xs q=>b.frzs c ob xs (a.frzs c ob xs q)
 tbls:=λc ps q=>by
  obtain⟨m1,e1⟩:=a.tbls c ps q
  obtain⟨m2,e2⟩:=b.tbls c _ e1
  exact⟨m1++m2,by rw [e2,Array.append_assoc]⟩
theorem Un.kept (k:∀ b u,h.get? b=some u->h'.get? b=some u):Un fs ex H H h h' :=
 ⟨λb ob q _ _ _=>k b ob q,λb ob q _ _ _=>⟨ob.slots,k b ob q⟩,λ_ _ _ n _=>n,λb ob q _=>⟨ob,k b ob q⟩,λ_ _ q=>q,λ_ _ _ q=>q,λ_ ps q=>⟨#[],by rw [q];simp⟩⟩
theorem Un.refl:Un fs ex H H h h:=Un.kept λ_ _ q=>q
theorem Un.laid (k:∀ b u,h.get? b=some u->h'.get? b=some u) (hp:h.objs.size<=a) (hn:H a=none):Un fs ex H (upd H a o) h h' where
 keep:=λb u q _ _ _=>k b u q
 slot:=λb u q _ _ _=>⟨u.slots,k b u q⟩
 free:=λb u q n _=>by rw [ar (Nat.ne_of_lt (Nat.lt_of_lt_of_le (Heap.lt_size q) hp))];exact n
 there:=λb u q _=>⟨u,k b u q⟩
 tups:=λb xs q=>by rw [ar (aY q hn)];exact q
 frzs:=λb u xs q=>by rw [ar (aY q hn)];exact q
 tbls:=λb ps q=>⟨#[],by rw [ar (aY q hn),q];simp⟩
theorem Un.write (mu:uD (H x)) (he:e=x∨H e=some (.own x)) (k:∀ b u,b≠e->h.get? b=some u->h'.get? b=some u) (heo:∃ u,h'.get? e=some u):Un fs ex H (upd H x o) h h':=by
 have hx:∀ b,H b=none->b≠x:=λb n z=>by subst z;rw [n] at mu;exact mu
 have hb:∀ b,H b=none->b≠e:=λb n z=>by
  subst z
  rcases he with r | r
  ·exact hx b n r
  ·rw [n] at r;cases r
 have hm:∀ b u,H b=some u->¬uD (some u)->b≠x:=λb u q nm z=>by subst z;rw [q] at mu;exact nm mu
 refine⟨λb u q n _ _=>k b u (hb b n) q,λb u q n _ _=>⟨u.slots,k b u (hb b n) q⟩,λb u q n _=>by rw [ar (hx b n)];exact n,λb u q _=>?_,
  λb xs q=>by rw [ar (hm b _ q λz=>z)];exact q,λb u xs q=>by rw [ar (hm b _ q λz=>z)];exact q,λb ps q=>⟨#[],by rw [ar (hm b _ q λz=>z),q];simp⟩⟩
 by_cases hbe:b=e
 ·subst hbe;exact heo
 ·exact⟨u,k b u hbe q⟩
theorem Un.mono (u:Un fs ex H H1 h h1) (hs:∀ b∈fs,b∈fs') (hx:∀ b∈ex,b∈ex'):Un fs' ex' H H1 h h1 :=
 ⟨λb ob q n hb he=>u.keep b ob q n (λz=>hb (hs b z)) λz=>he (hx b z),λ_ _ q n _ he=>u.any q n λz=>he (hx _ z),λb ob q n he=>u.free b ob q n λz=>he (hx b z),λb ob q he=>u.there b ob q λz=>he (hx b z),u.tups,u.frzs,u.tbls⟩
end
def uI (h:Heap) (H:Hp):List Addr:=(List.range h.objs.size).filter λa=>(H a).isSome
def iX (h:Heap) (H:Hp):Heap:=PySem.W.hideAll h (uI h H)
theorem lV (h:Heap) (H:Hp):(iX h H).objs.size=h.objs.size:=PySem.W.hideAll_size _ _
theorem m6 {h:Heap} {H:Hp} {b:Addr} {o:Obj} (e:h.get? b=some o) (n:H b=none):(iX h H).get? b=some o :=
 PySem.W.hideAll_get _ e λhm=>by
  have q:(H b).isSome=true:=(List.mem_filter.mp hm).2
  rw [n] at q;simp at q
theorem pC {h:Heap} {H:Hp} {b:Addr} {o:Obj} (e:(iX h H).get? b=some o):h.get? b=some o/\H b=none:=by
 have e':h.get? b=some o:=PySem.W.of_hideAll (uI h H) e
 refine⟨e',?_⟩
 cases q:H b with
 | none=>rfl
 | some x =>
  have hm:b∈uI h H:=List.mem_filter.mpr ⟨List.mem_range.mpr (Heap.lt_size e'),by simp [q]⟩
  have z:(iX h H).get? b=none:=PySem.W.hideAll_none (uI h H) hm
  rw [z] at e;cases e
def oF (g h:Heap) (L:Addr):List (Addr × Obj):=(List.range h.objs.size).filterMap λa=>if a=L∨(g.get? a).isSome=true then none else (h.get? a).map λo=>(a,o)
def rest (g h:Heap) (L d:Addr):List (Addr × Obj):=(oF g h L).filter λp=>decide (p.1≠d)
structure Mod (K:PySem.W.Frag) (mg:Str->Option Value) (base:Heap):Prop where
 kin:K.In base
 glob:base.Ns mainGlobals mg
 blt:∃ mb,base.Ns builtinsNs mb/\∀ x:Str,x ≠ "__name__"->mb x=bootBuiltins x
 nolimit:base.NoLimit
structure Cx where
 prog:Program
 w:World
 K:PySem.W.Frag
 mg:Str->Option Value
 base:Heap
 A:Around
 N:List Str
 s₀:Shared
 H₀:Hp
 env:Env
 outer:List Env
 stack:List Env
 ex:List Addr
 fn:Str->Bool
 calm:Bool
 pn:List (Addr × Obj)
 xe:Value->Shared->Prop
def eK (l:List Env):List Addr:=l.filterMap (·.frame)
abbrev Cx.fs (X:Cx):List Addr:=eK X.outer
def sE (sc:Scope) (x:Str):Prop:=sc.names.lookup x=some .local∨sc.names.lookup x=some .cell∨sc.names.lookup x=some .free
def Loc (sc:Scope) (x:Str):Prop:=sc.names.lookup x=some .local∨sc.names.lookup x=some .cell
def Look (env:Env) (h:Heap) (m:Str->Option Value) (x:Str) (u:Value):Prop :=
 (env.kindOf x=some .local/\m x=some u)∨((env.kindOf x=some .cell∨env.kindOf x=some .free)/\∃ c,env.cells.lookup x=some c/\h.IsCell c (some u))
structure Cx.Ok (X:Cx):Prop where
 mod:Mod X.K X.mg X.base
 kind:X.env.scope.kind=.function
 glob:X.env.globals=mainGlobals
 blt:X.env.builtins=builtinsNs
 above:X.s₀.heap.objs.size<=X.env.locals
 inj:∀ x y c,X.env.cells.lookup x=some c->X.env.cells.lookup y=some c->x=y
 has:∀ x,(X.env.kindOf x=some .cell∨X.env.kindOf x=some .free)->∃ c,X.env.cells.lookup x=some c
 cab:∀ x c,X.fn x=true->X.env.cells.lookup x=some c->X.s₀.heap.objs.size<=c
 hd:X.calm=true->X.A.handled=none
 frames:X.A.frames=some X.stack
 stk:X.stack=X.outer∨(X.stack=X.env::X.outer/\X.env.frame=some X.env.locals)
 exf:∀ b∈X.ex,b≠X.env.locals/\∀ x c,X.env.cells.lookup x=some c->c≠b
 bs:∀ b o,X.base.get? b=some o->X.s₀.heap.get? b=some o/\X.H₀ b=none
 bsz:X.base.objs.size<=X.s₀.heap.objs.size
 noex:∀ b o,X.base.get? b=some o->b∉X.ex
 exfs:∀ b∈X.ex,b∉X.fs
 fX:X.s₀.heap.FunFrames X.base X.outer
 frf:∀ b∈X.fs,X.H₀ b=none
structure Inv (X:Cx) (pins:List (Addr × Obj)) (σ:List (Option V)) (H:Hp) (s:Shared):Prop where
 ok:X.Ok
 os:s.os=X.s₀.os
 bare:AllBare s.gens
 base:Un X.fs X.ex X.H₀ H X.s₀.heap s.heap
 loc:∃ m,s.heap.Ns X.env.locals m/\∀(i:Nat) (x:Str) (v:V),X.N[i]?=some x->σ[i]?=some (some v)->sE X.env.scope x->∃ u,RelV v u/\Look X.env s.heap m x u
 cell:∀ x c,X.env.cells.lookup x=some c->∃ v,s.heap.IsCell c v
 free:H X.env.locals=none
 freeC:∀ x c,X.env.cells.lookup x=some c->H c=none
 pin:∀ p∈X.pn++pins,s.heap.get? p.1=some p.2/\H p.1=none/\p.1≠X.env.locals/\p.1∉X.fs/\∀ v,p.2.data≠.cell v
 hok:ff X.prog X.w H s.heap
 len:σ.length=X.N.length
section
variable {X:Cx} {pins:List (Addr × Obj)} {σ:List (Option V)} {H H':Hp} {s:Shared} {h':Heap}
theorem Cx.Ok.u9 (ok:X.Ok) {b:Addr} {o:Obj} (e:X.base.get? b=some o):b∉X.fs:=λhb=>by
 have:=(ok.fX.mem hb).1
 rw [e] at this;cases this
theorem Inv.bs (I:Inv X pins σ H s):∀ b o,X.base.get? b=some o->s.heap.get? b=some o/\H b=none:=λb o e =>
 ⟨I.base.keep b o (I.ok.bs b o e).1 (I.ok.bs b o e).2 (I.ok.u9 e) (I.ok.noex b o e),I.base.free b o (I.ok.bs b o e).1 (I.ok.bs b o e).2 (I.ok.noex b o e)⟩
theorem Inv.bk (I:Inv X pins σ H s):∀ b o,X.base.get? b=some o->s.heap.get? b=some o:=λb o e=>(I.bs b o e).1
theorem Inv.mod (I:Inv X pins σ H s):Mod X.K X.mg X.base:=I.ok.mod
theorem Inv.fq (I:Inv X pins σ H s):X.K.In s.heap:=I.ok.mod.kin.keeps I.bk
theorem Inv.fr (I:Inv X pins σ H s):∃ m,Fr X.base X.env.locals s.heap m :=
 let ⟨m,hn,_⟩:=I.loc
 ⟨m,hn,I.bk,Nat.le_trans I.ok.bsz I.ok.above⟩
theorem Inv.lt (I:Inv X pins σ H s):X.env.locals<s.heap.objs.size:=let ⟨_,hn,_⟩:=I.loc;hn.lt
theorem Inv.sz (I:Inv X pins σ H s):X.s₀.heap.objs.size<=s.heap.objs.size:=Nat.le_trans I.ok.above (Nat.le_of_lt I.lt)
theorem Inv.rR (I:Inv X pins σ H s) {a:Addr} (h:s.heap.objs.size<=a):a∉X.fs:=λhb=>by
 obtain⟨_,o,ho,_⟩:=I.ok.fX.mem hb
 exact absurd (Nat.lt_of_lt_of_le (Heap.lt_size ho) (Nat.le_trans I.sz h)) (Nat.lt_irrefl _)
theorem Inv.rj (I:Inv X pins σ H s):∀ x c,X.env.cells.lookup x=some c->c≠X.env.locals:=λx c e z=>by
 obtain⟨v,o,ho,hd⟩:=I.cell x c e
 obtain⟨m,⟨o',es,ep,ho',hd',_⟩,_⟩:=I.loc
 rw [z,ho'] at ho;cases ho;rw [hd'] at hd;cases hd
theorem Inv.fX (I:Inv X pins σ H s):s.heap.FunFrames X.base X.outer:=by
 have all:∀(l:List Env),(∀ b∈eK l,b∈X.fs)->X.s₀.heap.FunFrames X.base l->s.heap.FunFrames X.base l:=by
  intro l
  induction l with
  | nil=>intro _ _;trivial
  | cons env r ih =>
   intro hs hl
   obtain⟨hk,⟨L,o,hf,hn,ho,hd⟩,hr⟩:=hl
   have hL:L∈X.fs:=hs L (by unfold eK;rw [List.filterMap_cons,hf];exact List.mem_cons_self)
   obtain⟨sl,e⟩:=I.base.slot L o ho (I.ok.frf L hL) hL λz=>I.ok.exfs L z hL
   exact⟨hk,⟨L,_,hf,hn,e,hd⟩,ih (λb hb=>hs b (by unfold eK;rw [List.filterMap_cons,hf];exact List.mem_cons_of_mem _ hb)) hr⟩
 exact all X.outer (λ_ hb=>hb) I.ok.fX
theorem Inv.stack (I:Inv X pins σ H s):s.heap.FunFrames X.base X.stack:=by
 rcases I.ok.stk with e | ⟨e,hf⟩
 ·rw [e];exact I.fX
 ·rw [e]
  obtain⟨m,hn,_⟩:=I.loc
  refine .cons (by rw [I.ok.kind];decide) hf hn ?_ I.fX
  exact Heap.get?_none_of_le (Nat.le_trans I.ok.bsz I.ok.above)
theorem Inv.d6 (I:Inv X pins σ H s):∀ b∈eK X.stack,b∈X.env.locals::X.fs:=λb hb=>by
 rcases I.ok.stk with e | ⟨e,hf⟩
 ·rw [e] at hb;exact List.mem_cons_of_mem _ hb
 ·rw [e] at hb
  unfold eK at hb
  rw [List.filterMap_cons,hf] at hb
  exact hb
theorem Inv.fA (I:Inv X pins σ H s):∀ b∈eK X.stack,H b=none:=λb hb=>by
 rcases List.mem_cons.mp (I.d6 b hb) with e | hb
 ·rw [e];exact I.free
 ·obtain⟨_,o,ho,_⟩:=I.ok.fX.mem hb
  exact I.base.free b o ho (I.ok.frf b hb) λz=>I.ok.exfs b z hb
theorem Inv.step {g':Array GenState} {t':Nat} {d':Drawn} {ch:List Addr} (I:Inv X pins σ H s)
  (hch:∀ b∈ch,(b∈X.ex∨X.s₀.heap.objs.size<=b)/\b≠X.env.locals/\(∀ x c,X.env.cells.lookup x=some c->c≠b)/\∀ p∈X.pn++pins,p.1≠b)
  (keep:∀ b o,b≠X.env.locals->b∉X.fs->b∉ch->s.heap.get? b=some o->H b=none->h'.get? b=some o)
  (slot:∀ b o,b≠X.env.locals->b∈X.fs->b∉ch->s.heap.get? b=some o->H b=none->∃ sl,h'.get? b=some { o with slots:=sl }) (free:∀ b o,b∉ch->s.heap.get? b=some o->H b=none->H' b=none)
  (there:∀ b o,b∉ch->s.heap.get? b=some o->∃ o',h'.get? b=some o')
  (tups:∀ b xs,H b=some (.tup xs)->H' b=some (.tup xs)) (frzs:∀ b o u,H b=some (.frz o u)->H' b=some (.frz o u)) (tbls:∀ b ps,H b=some (.tbl ps)->∃ more,H' b=some (.tbl (ps++more)))
  (ns:∀ m,s.heap.Ns X.env.locals m->h'.Ns X.env.locals m) (hok:ff X.prog X.w H' h') (hg:AllBare g') :
  Inv X pins σ H' { s with heap:=h',gens:=g',drawn:=d',toks:=t' }:=by
 have neL:∀ b o,X.s₀.heap.get? b=some o->b≠X.env.locals:=λb o e=>Nat.ne_of_lt (Nat.lt_of_lt_of_le (Heap.lt_size e) I.ok.above)
 have neC:∀ b o,X.s₀.heap.get? b=some o->b∉X.ex->b∉ch:=λb o e hx hb=>by
  rcases (hch b hb).1 with z | z
  ·exact hx z
  ·exact absurd (Nat.lt_of_lt_of_le (Heap.lt_size e) z) (Nat.lt_irrefl _)
 have cellK:∀ x c,X.env.cells.lookup x=some c->∀ v,s.heap.IsCell c v->h'.IsCell c v:=λx c e v ⟨o,ho,hd⟩=>by
  have nch:c∉ch:=λz=>(hch c z).2.2.1 x c e rfl
  by_cases hc:c∈X.fs
  ·obtain⟨sl,q⟩:=slot c o (I.rj x c e) hc nch ho (I.freeC x c e)
   exact⟨_,q,hd⟩
  ·exact⟨o,keep c o (I.rj x c e) hc nch ho (I.freeC x c e),hd⟩
 refine⟨I.ok,I.os,hg,⟨λb o e n hb hx=>?_,λb o e n hb hx=>?_,λb o e n hx=>?_,λb o e hx=>?_,λb xs e=>tups b xs (I.base.tups b xs e),λb o xs e=>frzs b o xs (I.base.frzs b o xs e),λb ps e=>?_⟩,?_,λx c e=>?_,?_,λx c e=>?_,λp hp=>?_,hok,I.len⟩
 ·exact keep b o (neL b o e) hb (neC b o e hx) (I.base.keep b o e n hb hx) (I.base.free b o e n hx)
 ·obtain⟨sl,e1⟩:=I.base.slot b o e n hb hx
  obtain⟨sl',e2⟩:=slot b _ (neL b o e) hb (neC b o e hx) e1 (I.base.free b o e n hx)
  exact⟨sl',e2⟩
 ·obtain⟨o',e1⟩:=I.base.there b o e hx
  exact free b o' (neC b o e hx) e1 (I.base.free b o e n hx)
 ·obtain⟨o',e1⟩:=I.base.there b o e hx
  exact there b o' (neC b o e hx) e1
 ·obtain⟨m1,e1⟩:=I.base.tbls b ps e
  obtain⟨m2,e2⟩:=tbls b _ e1
  exact⟨m1++m2,by rw [e2,Array.append_assoc]⟩
 ·obtain⟨m,hn,hl⟩:=I.loc
  refine⟨m,ns m hn,λi x v e1 e2 e3=>?_⟩
  obtain⟨u,r,l⟩:=hl i x v e1 e2 e3
  refine⟨u,r,?_⟩
  rcases l with l | ⟨k,c,e,z⟩
  ·exact .inl l
  ·exact .inr ⟨k,c,e,cellK x c e _ z⟩
 ·obtain⟨v,z⟩:=I.cell x c e
  exact⟨v,cellK x c e v z⟩
 ·obtain⟨m,⟨o,_,_,ho,_⟩,_⟩:=I.loc
  exact free _ o (λz=>(hch _ z).2.1 rfl) ho I.free
 ·obtain⟨v,o,ho,hd⟩:=I.cell x c e
  exact free c o (λz=>(hch c z).2.2.1 x c e rfl) ho (I.freeC x c e)
 ·obtain⟨e,n,ne,nf,d⟩:=I.pin p hp
  have nch:p.1∉ch:=λz=>(hch p.1 z).2.2.2 p hp rfl
  exact⟨keep p.1 p.2 ne nf nch e n,free p.1 p.2 nch e n,ne,nf,d⟩
theorem Inv.un {t':Nat} (I:Inv X pins σ H s) (u:Un X.fs [] H H' s.heap h') (hok:ff X.prog X.w H' h'):Inv X pins σ H' { s with heap:=h',toks:=t' }:=by
 obtain⟨m,⟨o,es,ep,ho,r⟩,_⟩:=id I.loc
 obtain⟨sl,hL⟩:=u.any ho I.free (by simp)
 exact I.step (g':=s.gens) (d':=s.drawn) (ch:=[]) (λ_ z=>nomatch z) (λb o _ hb _ e n=>u.keep b o e n hb (by simp)) (λb o _ hb _ e n=>u.slot b o e n hb (by simp)) (λb o _ e n=>u.free b o e n (by simp)) (λb o _ e=>u.there b o e (by simp)) u.tups u.frzs u.tbls (λm' hm=>by
  obtain⟨o',es',ep',ho',r'⟩:=hm
  rw [ho] at ho';cases ho'
  exact⟨_,es',ep',hL,r'⟩) hok I.bare
theorem Inv.call {g':Array GenState} {t':Nat} {d':Drawn} {ch:List Addr} (I:Inv X pins σ H s) (u:Un (eK X.stack) ch H H' s.heap h') (hok:ff X.prog X.w H' h') (hg:AllBare g')
  (hch:∀ b∈ch,(b∈X.ex∨X.s₀.heap.objs.size<=b)/\b≠X.env.locals/\(∀ x c,X.env.cells.lookup x=some c->c≠b)/\∀ p∈X.pn++pins,p.1≠b) :
  Inv X pins σ H' { s with heap:=h',gens:=g',drawn:=d',toks:=t' }:=by
 obtain⟨m,⟨o,es,ep,ho,r⟩,_⟩:=id I.loc
 obtain⟨sl,hL⟩:=u.any ho I.free λz=>(hch _ z).2.1 rfl
 exact I.step (ch:=ch) hch (λb o hL hb hc e n=>u.keep b o e n (λz=>(List.mem_cons.mp (I.d6 b z)).elim hL hb) hc) (λb o _ _ hc e n=>u.any e n hc) (λb o hc e n=>u.free b o e n hc) (λb o hc e=>u.there b o e hc) u.tups u.frzs u.tbls (λm' hm=>by
  obtain⟨o',es',ep',ho',r'⟩:=hm
  rw [ho] at ho';cases ho'
  exact⟨_,es',ep',hL,r'⟩) hok hg
theorem Inv.turned {t':Nat} {it:Addr} (I:Inv X pins σ H s) (k:∀ b o,b≠it->s.heap.get? b=some o->h'.get? b=some o) (hn:H it=none) (hL:it≠X.env.locals)
  (h1:it∈X.ex∨X.s₀.heap.objs.size<=it) (h2:∀ x c,X.env.cells.lookup x=some c->c≠it) (h3:∀ p∈X.pn++pins,p.1≠it):Inv X pins σ H { s with heap:=h',toks:=t' }:=by
 have nit:∀ b u,H b=some u->b≠it:=λb u e z=>by rw [z,hn] at e;cases e
 refine I.step (g':=s.gens) (d':=s.drawn) (ch:=[it]) (λb hb=>?_) (λb o _ _ hc e _=>k b o (λz=>hc (by simp [z])) e) (λb o _ _ hc e _=>⟨o.slots,k b o (λz=>hc (by simp [z])) e⟩) (λ_ _ _ _ n=>n)
  (λb o hc e=>⟨o,k b o (λz=>hc (by simp [z])) e⟩) (λ_ _ e=>e) (λ_ _ _ e=>e) (λb ps e=>⟨#[],by rw [e];simp⟩) (λm hm=>?_) (λb u e=>?_) I.bare
 ·have e:b=it:=by simpa using hb
  subst e
  exact⟨h1,hL,h2,h3⟩
 ·obtain⟨o,es,ep,ho,r⟩:=hm
  exact⟨o,es,ep,k _ o (Ne.symm hL) ho,r⟩
 ·refine (I.hok b u e).jr (λc v hc q=>k c v ?_ q) (λ_ q=>q) λ_ _ q=>q
  rcases hc with z | z
  ·rw [z];exact nit b u e
  ·exact nit c _ z
theorem Inv.tok (I:Inv X pins σ H s) (t:Nat):Inv X pins σ H { s with toks:=t }:=I.un (h':=s.heap) (t':=t) Un.refl I.hok
theorem Inv.kept {t':Nat} (I:Inv X pins σ H s) (k:∀ b u,s.heap.get? b=some u->h'.get? b=some u):Inv X pins σ H { s with heap:=h',toks:=t' }:=I.un (Un.kept k) (I.hok.kept k)
theorem Inv.laid {a:Addr} {o:HO} {t':Nat} (I:Inv X pins σ H s) (k:∀ b u,s.heap.get? b=some u->h'.get? b=some u) (hp:s.heap.objs.size<=a) (new:bC X.prog X.w (upd H a o) h' a o) :
  Inv X pins σ (upd H a o) { s with heap:=h',toks:=t' }:=I.un (Un.laid k hp (I.hok.fresh hp)) (I.hok.laid k hp new)
theorem Inv.write {x e:Addr} {o:HO} {t':Nat} (I:Inv X pins σ H s) (mu:uD (H x)) (he:e=x∨H e=some (.own x)) (k:∀ b u,b≠e->s.heap.get? b=some u->h'.get? b=some u) (heo:∃ u,h'.get? e=some u)
  (new:bC X.prog X.w (upd H x o) h' x o):Inv X pins σ (upd H x o) { s with heap:=h',toks:=t' }:=I.un (Un.write mu he k heo) (I.hok.write mu he k heo new)
theorem Inv.weak {σ':List (Option V)} (I:Inv X pins σ H s) (hl:σ'.length=σ.length) (w:∀(i:Nat) v,σ'[i]?=some (some v)->σ[i]?=some (some v)):Inv X pins σ' H s :=
 ⟨I.ok,I.os,I.bare,I.base,let ⟨m,hn,hl'⟩:=I.loc;⟨m,hn,λi x v e1 e2 e3=>hl' i x v e1 (w i v e2) e3⟩,I.cell,I.free,I.freeC,I.pin,I.hok,hl.trans I.len⟩
theorem Inv.gd {pins':List (Addr × Obj)} (I:Inv X pins σ H s) (h:∀ p∈pins',s.heap.get? p.1=some p.2/\H p.1=none/\p.1≠X.env.locals/\p.1∉X.fs/\∀ v,p.2.data≠.cell v):Inv X pins' σ H s :=
 ⟨I.ok,I.os,I.bare,I.base,I.loc,I.cell,I.free,I.freeC,λp hp=>(List.mem_append.mp hp).elim (λz=>I.pin p (List.mem_append_left _ z)) (h p),I.hok,I.len⟩
theorem jN {N:List Str} (hN:N.Nodup) {i j:Nat} {x:Str} (a:N[i]?=some x) (b:N[j]?=some x):i=j:=by
 obtain⟨h1,e1⟩:=List.getElem?_eq_some_iff.mp a
 obtain⟨h2,e2⟩:=List.getElem?_eq_some_iff.mp b
 exact (List.getElem_inj hN).mp (e1.trans e2.symm)
theorem mv {M:Model} {A:Around} {E:Value->Shared->Prop} {i:Nat} {x:Str} {v:V} {u:Value} {Q:Unit->Shared->Prop} (I:Inv X pins σ H s) (hN:X.N.Nodup) (hi:X.N[i]?=some x) (hx:Loc X.env.scope x) (r:RelV v u)
  (h:∀ s',Inv X pins (σ.set i (some v)) H s'->(∃ a,Heap.SameBut a s.heap s'.heap/\(a=X.env.locals∨X.env.cells.lookup x=some a))->Q () s') (hf:X.fn x=true∨X.env.scope.names.lookup x=some .local:=by first | exact .inl rfl | exact .inr rfl | assumption):wpAny M A (storeName X.env x u) Q E s:=by
 obtain⟨m,hn,hl⟩:=id I.loc
 have hcls:(X.env.scope.kind==.class || (X.env.scope.kind==.module && X.env.locals != X.env.globals))=false:=by rw [I.ok.kind];rfl
 have hiσ:i<σ.length:=by rw [I.len];exact (List.getElem?_eq_some_iff.mp hi).1
 have rj:=I.rj
 have tracked:∀{a:Addr} {h':Heap},(∃ o,s.heap.get? a=some o/\H a=none)->Heap.SameBut a s.heap h'->ff X.prog X.w H h':=λ{a h'} ha hs b ob e=>by
  obtain⟨_,_,hfree⟩:=ha
  refine (I.hok b ob e).jr (λc w' hc q=>(hs.2 c ?_).trans q) (λ_ q=>q) λ_ _ q=>q
  rintro rfl
  rcases hc with rfl | hc
  ·rw [hfree] at e;cases e
  ·rw [hfree] at hc;cases hc
 rcases hx with hk | hk
 ·refine wpAny_storeName_local hk hn (λh' hn' hs=>?_) hcls
  obtain⟨oL,_,_,hoL,_⟩:=id hn
  refine h _ ⟨I.ok,I.os,I.bare,⟨λb o e n hb hx=>?_,λb o e n hb hx=>?_,I.base.free,λb o e hx=>?_,I.base.tups,I.base.frzs,I.base.tbls⟩,⟨_,hn',λj y v' e1 e2 e3=>?_⟩,λy c e=>?_,I.free,I.freeC,λp hp=>?_,tracked ⟨oL,hoL,I.free⟩ hs,by simpa using I.len⟩ ⟨_,hs,.inl rfl⟩
  ·exact (hs.2 b (Nat.ne_of_lt (Nat.lt_of_lt_of_le (Heap.lt_size e) I.ok.above))).trans (I.base.keep b o e n hb hx)
  ·obtain⟨sl,e1⟩:=I.base.slot b o e n hb hx
   exact⟨sl,(hs.2 b (Nat.ne_of_lt (Nat.lt_of_lt_of_le (Heap.lt_size e) I.ok.above))).trans e1⟩
  ·obtain⟨o',e1⟩:=I.base.there b o e hx
   exact⟨o',(hs.2 b (Nat.ne_of_lt (Nat.lt_of_lt_of_le (Heap.lt_size e) I.ok.above))).trans e1⟩
  ·by_cases hj:j=i
   ·subst hj
    rw [hi] at e1;cases e1
    rw [List.getElem?_set_self hiσ] at e2
    cases e2
    exact⟨u,r,.inl ⟨hk,by simp⟩⟩
   ·rw [List.getElem?_set_ne (Ne.symm hj)] at e2
    obtain⟨u',r',q⟩:=hl j y v' e1 e2 e3
    refine⟨u',r',?_⟩
    rcases q with⟨k,e⟩|⟨k,c,e,z⟩
    ·refine .inl ⟨k,?_⟩
     have:y≠x:=λe=>hj (jN hN e1 (e▸hi))
     simp [this,e]
    ·exact .inr ⟨k,c,e,z.sameBut hs (rj y c e)⟩
  ·obtain⟨w',z⟩:=I.cell y c e
   exact⟨w',z.sameBut hs (rj y c e)⟩
  ·obtain⟨e,n,ne,nf,d⟩:=I.pin p hp
   exact⟨(hs.2 p.1 ne).trans e,n,ne,nf,d⟩
 ·have hfn:X.fn x=true:=by
   rcases hf with z | z
   ·exact z
   ·rw [z] at hk;cases hk
  obtain⟨c,hc⟩:=I.ok.has x (.inl hk)
  obtain⟨w',z⟩:=I.cell x c hc
  refine wpAny_storeName_cell I.ok.kind hk hc z (λh' hc' hs=>?_)
  obtain⟨oc,hoc,hocd⟩:=id z
  refine h { s with heap:=h' } ⟨I.ok,I.os,I.bare,⟨λb o e n hb hx=>?_,λb o e n hb hx=>?_,I.base.free,λb o e hx=>?_,I.base.tups,I.base.frzs,I.base.tbls⟩,⟨m,hn.sameBut hs (Ne.symm (rj x c hc)),λj y v' e1 e2 e3=>?_⟩,λy c' e=>?_,I.free,I.freeC,λp hp=>?_,tracked ⟨oc,hoc,I.freeC x c hc⟩ hs,by simpa using I.len⟩ ⟨c,hs,.inr hc⟩
  ·exact (hs.2 b (Nat.ne_of_lt (Nat.lt_of_lt_of_le (Heap.lt_size e) (I.ok.cab x c hfn hc)))).trans (I.base.keep b o e n hb hx)
  ·obtain⟨sl,e1⟩:=I.base.slot b o e n hb hx
   exact⟨sl,(hs.2 b (Nat.ne_of_lt (Nat.lt_of_lt_of_le (Heap.lt_size e) (I.ok.cab x c hfn hc)))).trans e1⟩
  ·obtain⟨o',e1⟩:=I.base.there b o e hx
   exact⟨o',(hs.2 b (Nat.ne_of_lt (Nat.lt_of_lt_of_le (Heap.lt_size e) (I.ok.cab x c hfn hc)))).trans e1⟩
  ·by_cases hj:j=i
   ·subst hj
    rw [hi] at e1;cases e1
    rw [List.getElem?_set_self hiσ] at e2
    cases e2
    exact⟨u,r,.inr ⟨.inl hk,c,hc,hc'⟩⟩
   ·rw [List.getElem?_set_ne (Ne.symm hj)] at e2
    obtain⟨u',r',q⟩:=hl j y v' e1 e2 e3
    refine⟨u',r',?_⟩
    rcases q with q | ⟨k,c',e,z'⟩
    ·exact .inl q
    ·refine .inr ⟨k,c',e,z'.sameBut hs ?_⟩
     rintro rfl
     exact hj (jN hN e1 (I.ok.inj _ _ _ e hc▸hi))
  ·by_cases hcc:c'=c
   ·subst hcc;exact⟨_,hc'⟩
   ·obtain⟨w2,z2⟩:=I.cell y c' e
    exact⟨w2,z2.sameBut hs hcc⟩
  ·obtain⟨e,n,ne,nf,d⟩:=I.pin p hp
   refine⟨(hs.2 p.1 ?_).trans e,n,ne,nf,d⟩
   intro q
   rw [q,hoc] at e
   have q':oc=p.2:=Option.some.inj e
   exact d w' (by rw [<- q'];exact hocd)
theorem b7 {M:Model} {A:Around} {E:Value->Shared->Prop} {i:Nat} {x:Str} {v:V} {u:Value} {Q:Unit->Shared->Prop} (I:Inv X pins σ H s) (hN:X.N.Nodup) (hi:X.N[i]?=some x) (hx:Loc X.env.scope x) (r:RelV v u)
  (h:∀ s',Inv X pins (σ.set i (some v)) H s'->Q () s') (hf:X.fn x=true∨X.env.scope.names.lookup x=some .local:=by first | exact .inl rfl | exact .inr rfl | assumption):wpAny M A (storeName X.env x u) Q E s :=
 mv I hN hi hx r (λs' I' _=>h s' I') hf
theorem Inv.sQ {s':Shared} {ch:List Addr} (I:Inv X pins σ H s) (ho:s'.os=s.os) (u:Un (eK X.stack) ch H H' s.heap s'.heap) (hok:ff X.prog X.w H' s'.heap) (hg:AllBare s'.gens)
  (hch:∀ b∈ch,(b∈X.ex∨X.s₀.heap.objs.size<=b)/\b≠X.env.locals/\(∀ x c,X.env.cells.lookup x=some c->c≠b)/\∀ p∈X.pn++pins,p.1≠b):Inv X pins σ H' s':=by
 obtain⟨h',g',d',t',o'⟩:=s'
 have e:o'=s.os:=ho
 subst e
 exact I.call (g':=g') (t':=t') (d':=d') u hok hg hch
end
abbrev XK:=Value->Option Addr->Hp->Prop
abbrev St:=List (Option V)
abbrev VK:=V->Hp->Prop
abbrev TE:=St->Hp->VK->Prop
abbrev TT:=St->Hp->(Bool->Hp->Prop)->Prop
abbrev TA:=St->Hp->(List V->Hp->Prop)->Prop
structure Ends where
 nx:St->Hp->Prop
 rt:VK
 bk:St->Hp->Prop:=λ_ _=>False
 ct:St->Hp->Prop:=λ_ _=>False
abbrev TS:=Ends->St->Hp->Prop
def EP (X:Cx) (pins:List (Addr × Obj)) (σ:St) (Q:VK) (u:Value) (s':Shared):Prop:=∃ v H',Inv X pins σ H' s'/\RelV v u/\Q v H'
def TP (X:Cx) (pins:List (Addr × Obj)) (σ:St) (Q:Bool->Hp->Prop) (b:Bool) (s':Shared):Prop:=∃ H',Inv X pins σ H' s'/\Q b H'
def AP (X:Cx) (pins:List (Addr × Obj)) (σ:St) (Q:List V->Hp->Prop) (us:List Value) (s':Shared):Prop:=∃ vs H',Inv X pins σ H' s'/\Vals vs us/\Q vs H'
def SP (X:Cx) (pins:List (Addr × Obj)) (D:Ends) (f:Flow) (s':Shared):Prop :=
 match f with
 | .next=>∃ σ' H',Inv X pins σ' H' s'/\D.nx σ' H'
 | .brk=>∃ σ' H',Inv X pins σ' H' s'/\D.bk σ' H'
 | .cont=>∃ σ' H',Inv X pins σ' H' s'/\D.ct σ' H'
 | .ret u=>∃ v σ' H',Inv X pins σ' H' s'/\RelV v u/\D.rt v H'
def PE (X:Cx) (e:Expr) (t:TE):Prop :=
 ∀(pins:List (Addr × Obj)) (s:Shared) (σ:St) (H:Hp) (Q:VK),Inv X pins σ H s->t σ H Q->wpAny (model X.prog X.w) X.A (eval e X.env) (EP X pins σ Q) X.xe s
def PT (X:Cx) (e:Expr) (t:TT):Prop :=
 ∀(pins:List (Addr × Obj)) (s:Shared) (σ:St) (H:Hp) (Q:Bool->Hp->Prop),Inv X pins σ H s->t σ H Q->wpAny (model X.prog X.w) X.A (isTrue e X.env (eval e X.env)) (TP X pins σ Q) X.xe s
def PW (X:Cx) (e:Expr) (t:TT):Prop :=
 ∀(whole:Sem Value) (pins:List (Addr × Obj)) (s:Shared) (σ:St) (H:Hp) (Q:Bool->Hp->Prop),Inv X pins σ H s->t σ H Q->wpAny (model X.prog X.w) X.A (isTrue e X.env whole) (TP X pins σ Q) X.xe s
theorem PW.pt {X:Cx} {e:Expr} {t:TT} (h:PW X e t):PT X e t:=h _
def PA (X:Cx) (es:List Expr) (t:TA):Prop :=
 ∀(pos:Pos) (pins:List (Addr × Obj)) (s:Shared) (σ:St) (H:Hp) (Q:List V->Hp->Prop),Inv X pins σ H s->t σ H Q->wpAny (model X.prog X.w) X.A (spliced (backTo pos (starEach es X.env))) (AP X pins σ Q) X.xe s
def PS (X:Cx) (st:Stmt) (t:TS):Prop :=
 ∀(pins:List (Addr × Obj)) (s:Shared) (σ:St) (H:Hp) (D:Ends),Inv X pins σ H s->t D σ H->wpAny (model X.prog X.w) X.A (exec st X.env) (SP X pins D) X.xe s
def gh (X:Cx) (st:List Stmt) (t:TS):Prop :=
 ∀(pins:List (Addr × Obj)) (s:Shared) (σ:St) (H:Hp) (D:Ends),Inv X pins σ H s->t D σ H->wpAny (model X.prog X.w) X.A (execs st X.env) (SP X pins D) X.xe s
theorem bz {α:Type} {t:Sem α} {Q Q':α->Shared->Prop} {M:Model} {A:Around} {E:Value->Shared->Prop} {s:Shared} (h:wpAny M A t Q E s) (hQ:∀ a s,Q a s->Q' a s):wpAny M A t Q' E s:=wpAny_mono h hQ λ_ _ x=>x
section
variable {X:Cx}
def mw (i:Nat):TE:=λσ H Q=>∃ v,σ[i]?=some (some v)/\Q v H
def tC (v:V):TE:=λ_ H Q=>Q v H
theorem kG {i:Nat} {x:Str} {pos:Pos} (hN:X.N[i]?=some x) (hv:sE X.env.scope x) (hd:(x==("__debug__":Str))=false:=by decide) (hcd:(x==("__classdict__":Str))=false:=by decide):PE X (.Name x pos) (mw i):=by
 intro pins s σ H Q I h
 obtain⟨v,e,h⟩:=h
 obtain⟨m,hn,hl⟩:=I.loc
 obtain⟨u,r,l⟩:=hl i x v hN e hv
 have fin:EP X pins σ Q u s:=⟨v,H,I,r,h⟩
 rcases l with⟨hk,hm⟩|⟨hk,c,hc,hcell⟩
 ·exact wpAny_Name (wpAny_loadName_local I.ok.kind hk hn hm fin) hd
 ·rcases hk with hk | hk
  ·exact wpAny_Name (wpAny_loadName_cell I.ok.kind hk hc hcell fin) hd
  ·exact wpAny_Name (wpAny_loadName_free I.ok.kind hk hc hcell fin hcd) hd
theorem ae {i j pos}:PE X (.Constant (.int i) j pos) (tC (.int i)):=λ_ _ _ H _ I h=>wpAny_Constant_int ⟨.int i,H,I.tok _,⟨_,rfl⟩,h⟩
theorem bT {b j pos}:PE X (.Constant (.bool b) j pos) (tC (.bl b)):=λ_ _ _ H _ I h=>Constant_bool ⟨.bl b,H,I,rfl,h⟩
theorem kE {j pos}:PE X (.Constant .none j pos) (tC .non):=λ_ _ _ H _ I h=>Constant_none ⟨.non,H,I,rfl,h⟩
def Gl (X:Cx) (x:Str):Prop:=X.env.kindOf x=some .globalImplicit
theorem gb {E:Value->Shared->Prop} {pins:List (Addr × Obj)} {s:Shared} {σ:St} {H:Hp} {x:Str} {u:Value} {pos:Pos} {Q:Value->Shared->Prop} (I:Inv X pins σ H s) (hg:Gl X x) (hm:X.mg x=some u) (h:Q u s)
  (hd:(x==("__debug__":Str))=false:=by decide):wpAny (model X.prog X.w) X.A (eval (.Name x pos) X.env) Q E s :=
 Calls.Name_function_global I.ok.kind hg (Calls.loadGlobal_global (by rw [I.ok.glob];exact I.mod.glob.keeps I.bk) hm h) hd
theorem i4 {E:Value->Shared->Prop} {pins:List (Addr × Obj)} {s:Shared} {σ:St} {H:Hp} {x:Str} {u:Value} {pos:Pos} {Q:Value->Shared->Prop} (I:Inv X pins σ H s) (hg:Gl X x) (hm:X.mg x=none) (hv:bootBuiltins x=some u) (h:Q u s)
  (hn:x ≠ "__name__":=by decide) (hd:(x==("__debug__":Str))=false:=by decide):wpAny (model X.prog X.w) X.A (eval (.Name x pos) X.env) Q E s:=by
 obtain⟨mb,h1,h2⟩:=I.mod.blt
 exact Calls.Name_function_global I.ok.kind hg (Calls.loadGlobal_builtin (by rw [I.ok.glob];exact I.mod.glob.keeps I.bk) hm (by rw [I.ok.blt];exact h1.keeps I.bk) ((h2 x hn).trans hv) h) hd
theorem ly {x:Str} {v:V} {u:Value} {pos:Pos} (hg:Gl X x) (hm:X.mg x=some u) (r:RelV v u) (hd:(x==("__debug__":Str))=false:=by decide):PE X (.Name x pos) (tC v) :=
 λ_ _ _ H _ I h=>gb I hg hm ⟨v,H,I,r,h⟩ hd
theorem b6 {x:Str} {v:V} {u:Value} {pos:Pos} (hg:Gl X x) (hm:X.mg x=none) (hv:bootBuiltins x=some u) (r:RelV v u) (hn:x ≠ "__name__":=by decide) (hd:(x==("__debug__":Str))=false:=by decide):PE X (.Name x pos) (tC v) :=
 λ_ _ _ H _ I h=>i4 I hg hm hv ⟨v,H,I,r,h⟩ hn hd
variable {a b:Expr} {ta tb:TE} {pos:Pos}
def tB (t:TE):TT:=λσ H Q=>t σ H λx H1=>∃ c,x=.bl c/\Q c H1
variable {tA tB':TT} {rest:List Expr}
def uk (t u:TT):TT:=λσ H Q=>t σ H λc H1=>if c=true then u σ H1 Q else Q false H1
def vL (t u:TT):TT:=λσ H Q=>t σ H λc H1=>if c=true then Q true H1 else u σ H1 Q
def sx (t:TT):TT:=λσ H Q=>t σ H λc H1=>Q (!c) H1
theorem jf (ha:PT X a tA):PW X (.BoolOp .And [a] pos) tA:=by
 intro wh pins s σ H Q I h
 refine isTrue_and (bz (ha pins s σ H Q I h) λc s1 e=>?_)
 cases c with
 | true=>exact isTrue_and_nil e
 | false=>exact e
theorem eY (ha:PT X a tA):PW X (.BoolOp .Or [a] pos) tA:=by
 intro wh pins s σ H Q I h
 refine isTrue_or (bz (ha pins s σ H Q I h) λc s1 e=>?_)
 cases c with
 | false=>exact isTrue_or_nil e
 | true=>exact e
theorem je (ha:PT X a tA) (hb:PW X (.BoolOp .And (b::rest) pos) tB'):PW X (.BoolOp .And (a::b::rest) pos) (uk tA tB'):=by
 intro wh pins s σ H Q I h
 refine isTrue_and (bz (ha pins s σ H _ I h) λc s1 ⟨H1,I1,q1⟩=>?_)
 cases c with
 | true=>exact hb wh pins s1 σ H1 Q I1 q1
 | false=>exact⟨H1,I1,q1⟩
theorem cW (ha:PT X a tA) (hb:PW X (.BoolOp .Or (b::rest) pos) tB'):PW X (.BoolOp .Or (a::b::rest) pos) (vL tA tB'):=by
 intro wh pins s σ H Q I h
 refine isTrue_or (bz (ha pins s σ H _ I h) λc s1 ⟨H1,I1,q1⟩=>?_)
 cases c with
 | true=>exact⟨H1,I1,q1⟩
 | false=>exact hb wh pins s1 σ H1 Q I1 q1
theorem bE (ha:PT X a tA):PT X (.UnaryOp .Not a pos) (sx tA):=by
 intro pins s σ H Q I h
 exact isTrue_not (ha pins s σ H (λc H1=>Q (!c) H1) I h)
def qN (ta tb:TE):TE:=λσ H Q=>ta σ H λx H1=>∃ c,x=.bl c/\if c=true then tb σ H1 Q else Q (.bl false) H1
def vn (ta tb:TE):TE:=λσ H Q=>ta σ H λx H1=>∃ c,x=.bl c/\if c=true then Q (.bl true) H1 else tb σ H1 Q
def qR (ta:TE):TE:=λσ H Q=>ta σ H λx H1=>∃ c,x=.bl c/\Q (.bl (!c)) H1
theorem dB {op} {t:TE} (h:PE X a t):PE X (.BoolOp op [a] pos) t:=λpins s σ H Q I hw=>BoolOp_one (h pins s σ H Q I hw)
theorem bS (ha:PE X a ta) (hb:PE X (.BoolOp .And (b::rest) pos) tb):PE X (.BoolOp .And (a::b::rest) pos) (qN ta tb):=by
 intro pins s σ H Q I h
 refine BoolOp_and (bz (ha pins s σ H _ I h) λv s1 ⟨x,H1,I1,r1,q1⟩=>?_)
 obtain⟨c,rfl,q1⟩:=q1
 cases r1
 refine wpAny_truthy_bool ?_
 cases c with
 | true=>exact hb pins s1 σ H1 Q I1 q1
 | false=>exact⟨.bl false,H1,I1,rfl,q1⟩
theorem kF (ha:PE X a ta):PE X (.UnaryOp .Not a pos) (qR ta):=by
 intro pins s σ H Q I h
 refine UnaryOp_ (bz (ha pins s σ H _ I h) λv s1 ⟨x,H1,I1,r1,q1⟩=>?_)
 obtain⟨c,rfl,q1⟩:=q1
 cases r1
 exact not_of (wpAny_truthy_bool ⟨.bl (!c),H1,I1,rfl,q1⟩)
def vJ (t:TT) (ta tb:TE):TE:=λσ H Q=>t σ H λc H1=>if c=true then ta σ H1 Q else tb σ H1 Q
theorem fv {c:Expr} (hc:PT X c tA) (ha:PE X a ta) (hb:PE X b tb):PE X (.IfExp c a b pos) (vJ tA ta tb):=by
 intro pins s σ H Q I h
 refine wpAny_IfExp (bz (hc pins s σ H _ I h) λd s1 ⟨H1,I1,q1⟩=>?_)
 cases d with
 | true=>exact ha pins s1 σ H1 Q I1 q1
 | false=>exact hb pins s1 σ H1 Q I1 q1
end
def bf (K:PySem.W.Frag) (H:Hp) (a:Addr) (xs:List V):Prop :=
 Rd H a (.lst xs) ∨
  ∃(o:Obj) (its:Array Value) (n:Nat),K.lookup a=some o/\o.cls=.type "list"/\o.dict=none/\o.data=.seq its n/\its.size<=sizeLine/\Vals xs its.toList
def aT (K:PySem.W.Frag) (H:Hp) (a:Addr) (xs:List V):Prop :=
 Rd H a (.tup xs) ∨
  ∃(o:Obj) (its:Array Value) (n:Nat),K.lookup a=some o/\o.cls=.type "tuple"/\o.data=.seq its n/\its.size<=sizeLine/\Vals xs its.toList
def uV:Value->Option V
 | .none=>some .non
 | .bool b=>some (.bl b)
 | .int i _=>some (.int i)
 | .str x _=>some (.str x)
 | .bytes b _=>some (.byt b)
 | .float b _=>some (.flt b)
 | .ref a=>some (.ref a)
 | .type n=>some (.ty n)
 | _=>none
theorem RelV.abs {x:V} {u:Value} (r:RelV x u):uV u=some x:=by
 cases x with
 | non=>cases r;rfl
 | bl _=>cases r;rfl
 | int _=>obtain⟨t,rfl⟩:=r;rfl
 | str _=>obtain⟨t,rfl⟩:=r;rfl
 | byt _=>obtain⟨t,rfl⟩:=r;rfl
 | flt _=>obtain⟨t,rfl⟩:=r;rfl
 | ref _=>cases r;rfl
 | ty _=>cases r;rfl
theorem RelV.inj {x y:V} {u:Value} (r:RelV x u) (q:RelV y u):x=y:=Option.some.inj (r.abs.symm.trans q.abs)
theorem Vals.inj:∀{xs ys:List V} {us:List Value},Vals xs us->Vals ys us->xs=ys
 | _,_,_,.nil,.nil=>rfl
 | _,_,_,.cons r t,.cons r' t'=>by rw [r.inj r',Vals.inj t t']
section
variable {X:Cx} {pins:List (Addr × Obj)} {σ:St} {H:Hp} {s:Shared} {a:Addr} {xs ys:List V}
theorem bf.of {K:PySem.W.Frag} (h:H a=some (.lst xs)):bf K H a xs:=.inl (.inl h)
theorem aT.of {K:PySem.W.Frag} (h:H a=some (.tup xs)):aT K H a xs:=.inl (.inl h)
theorem Inv.list (I:Inv X pins σ H s) (h:bf X.K H a xs):∃ its:List Value,Vals xs its/\PlainL s.heap a its.toArray/\xs.length<=sizeLine:=by
 rcases h with h | ⟨o,its,n,hk,hc,hd,hs,hz,r⟩
 ·obtain⟨z,its,n,r,e⟩:=h.ok I.hok
  exact⟨its,r,⟨_,n,e,rfl,rfl,rfl⟩,z⟩
 ·refine⟨its.toList,r,⟨o,n,I.fq a o hk,hc,hd,by simpa using hs⟩,?_⟩
  have e:=r.length
  simp only [Array.length_toList] at e
  omega
theorem Inv.tuple (I:Inv X pins σ H s) (h:aT X.K H a xs):∃ its:List Value,Vals xs its/\IsTup s.heap a its.toArray/\xs.length<=sizeLine:=by
 rcases h with h | ⟨o,its,n,hk,hc,hs,hz,r⟩
 ·obtain⟨z,its,r,p⟩:=h.ok I.hok
  exact⟨its,r,p,z⟩
 ·refine⟨its.toList,r,⟨o,I.fq a o hk,hc,n,by simpa using hs⟩,?_⟩
  have e:=r.length
  simp only [Array.length_toList] at e
  omega
theorem Inv.nc (I:Inv X pins σ H s) (h:bf X.K H a xs) (h':bf X.K H a ys):xs=ys:=by
 obtain⟨its,r,⟨o,n,e,_,_,d⟩,_⟩:=I.list h
 obtain⟨its',r',⟨o',n',e',_,_,d'⟩,_⟩:=I.list h'
 rw [e] at e';cases e'
 rw [d] at d'
 injection d' with d1 _
 have:its=its':=by simpa using congrArg Array.toList d1
 subst this
 exact r.inj r'
theorem Inv.mB (I:Inv X pins σ H s) (h:aT X.K H a xs) (h':aT X.K H a ys):xs=ys:=by
 obtain⟨its,r,⟨o,e,_,n,d⟩,_⟩:=I.tuple h
 obtain⟨its',r',⟨o',e',_,n',d'⟩,_⟩:=I.tuple h'
 rw [e] at e';cases e'
 rw [d] at d'
 injection d' with d1 _
 have:its=its':=by simpa using congrArg Array.toList d1
 subst this
 exact r.inj r'
end
abbrev Cx.f6 (X:Cx) (E:Value->Shared->Prop):Cx:={ X with xe:=E }
abbrev Cx.j2 (X:Cx):Cx:=X.f6 λ_ _=>False
theorem Cx.Ok.f6 {X:Cx} (ok:X.Ok) (E:Value->Shared->Prop):(X.f6 E).Ok :=
 ⟨ok.mod,ok.kind,ok.glob,ok.blt,ok.above,ok.inj,ok.has,ok.cab,ok.hd,ok.frames,ok.stk,ok.exf,ok.bs,ok.bsz,ok.noex,ok.exfs,ok.fX,ok.frf⟩
theorem Cx.Ok.cR {X:Cx} {E:Value->Shared->Prop} (ok:(X.f6 E).Ok):X.Ok :=
 ⟨ok.mod,ok.kind,ok.glob,ok.blt,ok.above,ok.inj,ok.has,ok.cab,ok.hd,ok.frames,ok.stk,ok.exf,ok.bs,ok.bsz,ok.noex,ok.exfs,ok.fX,ok.frf⟩
section
variable {X:Cx} {pins:List (Addr × Obj)} {σ:St} {H:Hp} {s:Shared} {E:Value->Shared->Prop}
theorem Inv.f6 (I:Inv X pins σ H s) (E:Value->Shared->Prop):Inv (X.f6 E) pins σ H s:=⟨I.ok.f6 E,I.os,I.bare,I.base,I.loc,I.cell,I.free,I.freeC,I.pin,I.hok,I.len⟩
theorem Inv.cR (I:Inv (X.f6 E) pins σ H s):Inv X pins σ H s:=⟨I.ok.cR,I.os,I.bare,I.base,I.loc,I.cell,I.free,I.freeC,I.pin,I.hok,I.len⟩
theorem SP.cR {D:Ends} {f:Flow} {s':Shared} (h:SP (X.f6 E) pins D f s'):SP X pins D f s':=by
 cases f with
 | next=>obtain⟨σ',H',I,q⟩:=h;exact⟨σ',H',I.cR,q⟩
 | brk=>obtain⟨σ',H',I,q⟩:=h;exact⟨σ',H',I.cR,q⟩
 | cont=>obtain⟨σ',H',I,q⟩:=h;exact⟨σ',H',I.cR,q⟩
 | ret u=>obtain⟨v,σ',H',I,r,q⟩:=h;exact⟨v,σ',H',I.cR,r,q⟩
theorem PE.j2 {e:Expr} {t:TE} (h:PE X.j2 e t):PE X e t:=λpins s σ H Q I hw =>
 wpAny_mono (h pins s σ H Q (I.f6 _) hw) (λ_ _ ⟨v,H',I',r,q⟩=>⟨v,H',I'.cR,r,q⟩) λ_ _ z=>False.elim z
theorem PT.j2 {e:Expr} {t:TT} (h:PT X.j2 e t):PT X e t:=λpins s σ H Q I hw =>
 wpAny_mono (h pins s σ H Q (I.f6 _) hw) (λ_ _ ⟨H',I',q⟩=>⟨H',I'.cR,q⟩) λ_ _ z=>False.elim z
theorem gh.j2 {st:List Stmt} {t:TS} (h:gh X.j2 st t):gh X st t:=λpins s σ H D I hw =>
 wpAny_mono (h pins s σ H D (I.f6 _) hw) (λ_ _ q=>q.cR) λ_ _ z=>False.elim z
end
section
variable {X:Cx} {st:Stmt} {rest:List Stmt} {t u:TS} {e:Expr} {te:TE} {pos:Pos}
def qP:TS:=λD σ H=>D.nx σ H
def b9 (t u:TS):TS:=λD σ H=>t { D with nx:=u D } σ H
theorem aF:gh X [] qP:=λ_ _ σ H _ I h=>wpAny_execs_nil ⟨σ,H,I,h⟩
theorem ah (h1:PS X st t) (h2:gh X rest u):gh X (st::rest) (b9 t u):=by
 intro pins s σ H D I h
 refine wpAny_execs_cons (bz (h1 pins s σ H { D with nx:=u D } I h) λf s1 q=>?_)
 cases f with
 | next =>
  obtain⟨σ',H',I',q⟩:=q
  exact h2 pins s1 σ' H' D I' q
 | ret v=>exact q
 | brk=>exact q
 | cont=>exact q
theorem ak (h1:PS X st t):gh X [st] t:=by
 intro pins s σ H D I h
 refine wpAny_execs_cons (bz (h1 pins s σ H D I h) λf s1 q=>?_)
 cases f with
 | next=>exact wpAny_execs_nil q
 | ret v=>exact q
 | brk=>exact q
 | cont=>exact q
theorem Inv.quiet {pins:List (Addr × Obj)} {σ:St} {H:Hp} {s:Shared} (I:Inv X pins σ H s):interactive X.env=false:=by simp [interactive,I.ok.kind]
def qO (te:TE):TS:=λD σ H=>te σ H λ_ H1=>D.nx σ H1
theorem eE (he:PE X e te) (hs:swapsWith e none pos.line X.env=pure false:=by rfl):PS X (.Expr e pos) (qO te):=by
 intro pins s σ H D I h
 exact wpAny_Expr_any (bz (he pins s σ H _ I h) λv s1 ⟨x,H1,I1,r1,q1⟩=>⟨σ,H1,I1,q1⟩) I.quiet hs
def ie (te:TE):TS:=λD σ H=>te σ H D.rt
theorem aA (he:PE X e te):PS X (.Return (some e) pos) (ie te):=by
 intro pins s σ H D I h
 exact wpAny_Return_some (bz (he pins s σ H _ I h) λv s1 ⟨x,H1,I1,r1,q1⟩=>⟨x,σ,H1,I1,r1,q1⟩)
def uy:TS:=λD _ H=>D.rt .non H
def uv (c:TT) (t u:TS):TS:=λD σ H=>c σ H λb H1=>if b=true then t D σ H1 else u D σ H1
theorem aZ {c:Expr} {a b:List Stmt} {tc:TT} (hc:PT X c tc) (ha:gh X a t) (hb:gh X b u):PS X (.If c a b pos) (uv tc t u):=by
 intro pins s σ H D I h
 refine wpAny_If (bz (hc pins s σ H _ I h) λd s1 ⟨H1,I1,q1⟩=>?_)
 cases d with
 | true=>exact ha pins s1 σ H1 D I1 q1
 | false=>exact hb pins s1 σ H1 D I1 q1
end
abbrev TG:=V->St->Hp->(St->Hp->Prop)->Prop
abbrev qg:=List V->St->Hp->(St->Hp->Prop)->Prop
def PG (X:Cx) (target:Expr) (t:TG):Prop :=
 ∀(pins:List (Addr × Obj)) (s:Shared) (σ:St) (H:Hp) (v:V) (u:Value) (Q:St->Hp->Prop),Inv X pins σ H s->RelV v u->t v σ H Q ->
  wpAny (model X.prog X.w) X.A (assign target X.env u) (λ_ s'=>∃ σ' H',Inv X pins σ' H' s'/\Q σ' H') X.xe s
def sP (X:Cx) (ts:List Expr) (t:qg):Prop :=
 ∀(pins:List (Addr × Obj)) (s:Shared) (σ:St) (H:Hp) (vs:List V) (us:List Value) (Q:St->Hp->Prop),Inv X pins σ H s->Vals vs us->t vs σ H Q ->
  wpAny (model X.prog X.w) X.A (assignInOrder ((assignEach ts X.env).map (·.2)) us) (λ_ s'=>∃ σ' H',Inv X pins σ' H' s'/\Q σ' H') X.xe s
abbrev uS:=V->V->V->Hp->(Hp->Prop)->Prop
abbrev uR:=V->V->Hp->VK->Prop
def vB (X:Cx) (op:Operator) (t:uR):Prop :=
 ∀(pins:List (Addr × Obj)) (s:Shared) (σ:St) (H:Hp) (x y:V) (v u:Value) (Q:VK),Inv X pins σ H s->RelV x v->RelV y u->t x y H Q ->
  wpAny (model X.prog X.w) X.A (inplaceOp op v u) (EP X pins σ Q) X.xe s
section
variable {X:Cx} {pos:Pos}
def dF (i:Nat):TG:=λv σ H Q=>Q (σ.set i (some v)) H
theorem aD {i:Nat} {x:Str} (hN:X.N.Nodup) (hi:X.N[i]?=some x) (hx:Loc X.env.scope x) (hf:X.fn x=true∨X.env.scope.names.lookup x=some .local:=by first | exact .inl rfl | exact .inr rfl | assumption):PG X (.Name x pos) (dF i):=by
 intro pins s σ H v u Q I r h
 exact wpAny_assign_Name (b7 I hN hi hx r (λs' I'=>⟨_,H,I',h⟩) hf)
def sX:qg:=λvs σ H Q=>vs=[]/\Q σ H
def qr (t:TG) (u:qg):qg:=λvs σ H Q=>∃ v r,vs=v::r/\t v σ H λσ' H'=>u r σ' H' Q
theorem cn:sP X [] sX:=by
 intro pins s σ H vs us Q I r h
 obtain⟨e,h⟩:=h
 subst e
 cases r
 exact assignInOrder_nil ⟨σ,H,I,h⟩
theorem aI {e:Expr} {es:List Expr} {t:TG} {u:qg} (h1:PG X e t) (h2:sP X es u)
  (hs:(assignEach (e::es) X.env).map (·.2)=assign e X.env::(assignEach es X.env).map (·.2):=by rfl):sP X (e::es) (qr t u):=by
 intro pins s σ H vs us Q I r h
 obtain⟨v,vr,e1,h⟩:=h
 subst e1
 cases r with
 | cons r rr =>
  rw [hs]
  refine assignInOrder_cons (bz (h1 pins s σ H _ _ _ I r h) λ_ s1 ⟨σ1,H1,I1,q1⟩=>?_)
  exact h2 pins s1 σ1 H1 _ _ Q I1 rr q1
def rE (K:PySem.W.Frag) (n:Nat) (t:qg):TG:=λv σ H Q=>∃ a xs,v=.ref a/\aT K H a xs/\xs.length=n/\t xs σ H Q
theorem dC {es:List Expr} {k:Nat} {t:qg} {n:Nat} (hc:X.calm=true) (h:sP X es t)
  (hn:(assignEach es X.env).length=n:=by rfl) (hst:(assignEach es X.env).findIdx? (·.1)=none:=by rfl):PG X (.Tuple es k pos) (rE X.K n t):=by
 intro pins s σ H v u Q I r hw
 obtain⟨a,xs,e1,hq,hl,hw⟩:=hw
 subst e1
 cases r
 obtain⟨its,rv,ht,hz⟩:=I.tuple hq
 refine assign_Tuple_tuple (I.ok.hd hc) ht (by simp [hn,<- hl,rv.length]) hst λh' hx=>?_
 have I1:Inv X pins σ H { s with heap:=h' }:=I.kept (t':=s.toks) λb o e=>hx b o (Nat.ne_of_lt (Heap.lt_size e)) e
 exact h pins _ σ H xs _ Q I1 (by simpa using rv) hw
def uY (to ti:TE) (t:uS):TG:=λv σ H Q=>to σ H λo H1=>ti σ H1 λi H2=>t o i v H2 λH3=>Q σ H3
def oa (te:TE) (g:TG):TS:=λD σ H=>te σ H λx H1=>g x σ H1 D.nx
theorem dR {tg e:Expr} {te:TE} {g:TG} (he:PE X e te) (hg:PG X tg g) (hs:swapsWithSole [tg] e pos.line X.env=pure false:=by rfl) (hw:swappedStores [tg] e X.env=pure none:=by rfl)
  (h1:(assignEach [tg] X.env).map (·.2)=[assign tg X.env]:=by rfl):PS X (.Assign [tg] e pos) (oa te g):=by
 intro pins s σ H D I h
 refine wpAny_Assign_stores (bz (he pins s σ H _ I h) λv s1 ⟨x,H1,I1,r1,q1⟩=>?_) hs hw
 rw [h1]
 exact bz (hg pins s1 σ H1 x v _ I1 r1 q1) λ_ s2 q=>q
theorem cz {i:Nat} {x:Str} {e:Expr} {te:TE} {pos':Pos} (hN:X.N.Nodup) (hi:X.N[i]?=some x) (hx:Loc X.env.scope x) (he:PE X e te) (hs:swapsWith e (some (.Name x pos')) pos.line X.env=pure false:=by rfl) (hf:X.fn x=true∨X.env.scope.names.lookup x=some .local:=by first | exact .inl rfl | exact .inr rfl | assumption) :
  PS X (.Assign [.Name x pos'] e pos) (oa te (dF i)):=by
 intro pins s σ H D I h
 refine wpAny_Assign_Name (bz (he pins s σ H _ I h) λv s1 ⟨y,H1,I1,r1,q1⟩=>?_) hs
 exact b7 I1 hN hi hx r1 (λs2 I2=>⟨_,H1,I2,q1⟩) hf
def ux (i j:Nat) (ta:TA):TS:=λD σ H=>ta σ H λvs H1=>∃ v w,vs=[v,w]/\D.nx ((σ.set i (some v)).set j (some w)) H1
theorem kI {i j:Nat} {x y:Str} {a b:Expr} {ta:TA} {px py pt:Pos} {kt k2 pt2} (hc:X.calm=true) (hN:X.N.Nodup) (hi:X.N[i]?=some x) (hj:X.N[j]?=some y) (hij:i≠j)
  (hx:X.env.scope.names.lookup x=some .local) (hy:X.env.scope.names.lookup y=some .local) (ha:PA X [a,b] ta)
  (hw:swappedStores [.Tuple [.Name x px,.Name y py] kt pt] (.Tuple [a,b] k2 pt2) X.env=pure (some [x,y]))
  (hs:swapsWithSole [.Tuple [.Name x px,.Name y py] kt pt] (.Tuple [a,b] k2 pt2) pos.line X.env=pure false:=by rfl) :
  PS X (.Assign [.Tuple [.Name x px,.Name y py] kt pt] (.Tuple [a,b] k2 pt2) pos) (ux i j ta):=by
 intro pins s σ H D I h
 rw [exec_Assign_arm]
 refine wpAny_bind (wpAny_standAt ?_)
 rw [hs]
 refine wpAny_bind (wpAny_pure ?_)
 rw [if_neg (by decide)]
 refine wpAny_bind (Tuple_ (bz (ha _ pins s σ H _ I h) λus s1 ⟨vs,H1,I1,r1,q1⟩=>?_))
 obtain⟨v,w,e1,q1⟩:=q1
 subst e1
 obtain⟨u1,u2,rfl,rv,rw'⟩:∃ u1 u2,us=[u1,u2]/\RelV v u1/\RelV w u2:=by
  cases r1 with
  | cons p q =>
   cases q with
   | cons p' q' =>
    cases q'
    exact⟨_,_,rfl,p,p'⟩
 refine wpAny_newObj_type ?_ (by show 2<=sizeLine;decide)
 have I2:Inv X pins σ H1 { s1 with heap:=s1.heap.push { cls:=.type "tuple",data:=.seq [u1,u2].toArray } }:=I1.kept (t':=s1.toks) λb o e=>Heap.get?_push_of_some _ e
 rw [hw]
 refine wpAny_bind (wpAny_pure ?_)
 show wpAny (model X.prog X.w) X.A (do rule "assign.swapped-stores";let items <- unpackItems (.ref s1.heap.objs.size) 2 none;assignInOrder [λv=>bindName X.env y v,λv=>bindName X.env x v] items.reverse;pure Flow.next) _ _ _
 refine wpAny_bind (wpAny_rule (wpAny_bind (unpackItems_tuple (items:=#[u1,u2]) (I.ok.hd hc) (IsTup.new s1.heap _) λh' hx'=>?_)))
 have I3:=I2.kept (h':=h') (t':=s1.toks) λb o e=>hx' b o (Nat.ne_of_lt (Heap.lt_size e)) e
 show wpAny _ _ (assignInOrder [λv=>bindName X.env y v,λv=>bindName X.env x v] [u2,u1] >>= λ_=>pure Flow.next) _ _ _
 refine wpAny_bind (assignInOrder_cons (wpAny_bindName (b7 I3 hN hj (.inl hy) rw' (λs2 I4=>?_) (.inr hy))))
 refine assignInOrder_cons (wpAny_bindName (b7 I4 hN hi (.inl hx) rv (λs3 I5=>assignInOrder_nil (wpAny_pure ?_)) (.inr hx)))
 rw [List.set_comm _ _ (Ne.symm hij)] at I5
 exact⟨_,H1,I5,q1⟩
def um (i:Nat) (te:TE) (ti:uR):TS:=λD σ H=>∃ x,σ[i]?=some (some x)/\te σ H λy H1=>ti x y H1 λz H2=>D.nx (σ.set i (some z)) H2
theorem eX {i:Nat} {x:Str} {e:Expr} {te:TE} {op:Operator} {ti:uR} {pos':Pos} (hN:X.N.Nodup) (hi:X.N[i]?=some x) (hx:Loc X.env.scope x) (he:PE X e te) (ho:vB X op ti) (hf:X.fn x=true∨X.env.scope.names.lookup x=some .local:=by first | exact .inl rfl | exact .inr rfl | assumption) :
  PS X (.AugAssign (.Name x pos') op e pos) (um i te ti):=by
 intro pins s σ H D I h
 obtain⟨v,e1,h⟩:=h
 obtain⟨m,hn,hl⟩:=I.loc
 have vis:sE X.env.scope x:=by rcases hx with k | k;exact .inl k;exact .inr (.inl k)
 obtain⟨u,r,l⟩:=hl i x v hi e1 vis
 refine wpAny_AugAssign_Name ?_
 have go:wpAny (model X.prog X.w) X.A (eval e X.env) (λw s₂=>wpAny (model X.prog X.w) X.A (inplaceOp op u w) (λr s₃=>wpAny (model X.prog X.w) X.A (storeName X.env x r) (λ_=>SP X pins D .next) X.xe s₃) X.xe s₂) X.xe s:=by
  refine bz (he pins s σ H _ I h) λw s1 ⟨y,H1,I1,r1,q1⟩=>?_
  refine bz (ho pins s1 σ H1 v y u w _ I1 r r1 q1) λz s2 ⟨zv,H2,I2,r2,q2⟩=>?_
  exact b7 I2 hN hi hx r2 (λs3 I3=>⟨_,H2,I3,q2⟩) hf
 rcases l with⟨hk,hm⟩|⟨hk,c,hc,hcell⟩
 ·exact wpAny_loadName_local I.ok.kind hk hn hm go
 ·rcases hk with hk | hk
  ·exact wpAny_loadName_cell I.ok.kind hk hc hcell go
  ·rcases hx with k | k
   ·have:X.env.scope.names.lookup x=some .free:=hk
    rw [k] at this;cases this
   ·have:X.env.scope.names.lookup x=some .free:=hk
    rw [k] at this;cases this
end
section
variable {X:Cx} {pos:Pos}
def kP (c:TT) (tb:TS):TS:=λD σ H=>∃ W:Nat->St->Hp->Prop,(∃ m,W m σ H)/\∀ m σ H,W m σ H ->
 c σ H λb H1=>if b=true then ∃ N:St->Hp->Prop,(∀ σ' H',N σ' H'->∃ m',m'<m/\W m' σ' H')/\tb { D with nx:=N,ct:=N,bk:=D.nx } σ H1 else D.nx σ H1
theorem bw {c:Expr} {body:List Stmt} {tc:TT} {tb:TS} (hp:PassesOwn (model X.prog X.w) X.A X.env X.xe) (hc:PT X c tc) (hb:gh X body tb):PS X (.While c body [] pos) (kP tc tb):=by
 intro pins s σ H D I h
 obtain⟨W,⟨m0,w0⟩,turn⟩:=h
 refine wpAny_While (codeAny_whileLoop (λn s'=>∃ σ' H',Inv X pins σ' H' s'/\W n σ' H') ?_ m0 ⟨σ,H,I,w0⟩)
 rintro n s1 ⟨σ1,H1,I1,w1⟩
 refine wpAny_passesOwn hp (bz (hc pins s1 σ1 H1 _ I1 (turn n σ1 H1 w1)) λb s2 ⟨H2,I2,q2⟩=>?_)
 cases b with
 | true =>
  obtain⟨N,hN,q2⟩:=q2
  rw [if_pos rfl]
  refine wpAny_passesOwn hp (bz (hb pins s2 σ1 H2 _ I2 q2) λf s3 q3=>?_)
  cases f with
  | next =>
   obtain⟨σ3,H3,I3,n3⟩:=q3
   obtain⟨m',hm,w3⟩:=hN σ3 H3 n3
   exact⟨m',hm,σ3,H3,I3,w3⟩
  | cont =>
   obtain⟨σ3,H3,I3,n3⟩:=q3
   obtain⟨m',hm,w3⟩:=hN σ3 H3 n3
   exact⟨m',hm,σ3,H3,I3,w3⟩
  | brk=>exact q3
  | ret v=>exact q3
 | false =>
  rw [if_neg Bool.false_ne_true]
  exact wpAny_execs_nil ⟨σ1,H2,I2,q2⟩
end
structure It where
 go:Nat->Hp->Prop
 yld:Nat->Hp->V->Hp->Prop
 stop:Nat->Hp->Prop
def j4 (X:Cx) (pins:List (Addr × Obj)) (H:Hp) (b:Addr):Prop :=
 H b=none/\b≠X.env.locals/\b∉X.fs/\(b∈X.ex∨X.s₀.heap.objs.size<=b)/\(∀ x c,X.env.cells.lookup x=some c->c≠b)/\∀ p∈X.pn++pins,p.1≠b
theorem Inv.rC {X:Cx} {pins:List (Addr × Obj)} {σ:St} {H H':Hp} {s:Shared} {b:Addr} (I:Inv X pins σ H s) (hb:s.heap.objs.size<=b) (hn:H' b=none):j4 X pins H' b:=by
 refine⟨hn,Nat.ne_of_gt (Nat.lt_of_lt_of_le I.lt hb),I.rR hb,.inr (Nat.le_trans I.sz hb),λx c e z=>?_,λp hp z=>?_⟩
 ·obtain⟨v,q⟩:=I.cell x c e
  exact absurd (Nat.lt_of_lt_of_le q.lt (by rw [z];exact hb)) (Nat.lt_irrefl _)
 ·exact absurd (Nat.lt_of_lt_of_le (Heap.lt_size (I.pin p hp).1) (by rw [z];exact hb)) (Nat.lt_irrefl _)
structure Turn (P:Program) (w:World) (K:PySem.W.Frag) (tg:Expr) (J:It) (fp:List Addr) (it:Addr) (tn:Nat->Heap->Prop):Prop where
 mem:it∈fp
 obj:∀ i h,tn i h->∀ b∈fp,∃ o,h.get? b=some o/\∀ v,o.data≠.cell v
 keep:∀ i h h',tn i h->(∀ b∈fp,∀ o,h.get? b=some o->h'.get? b=some o)->tn i h'
 item:∀(X:Cx),X.prog=P->X.w=w->X.K=K->X.calm=true->∀(i:Nat) (pins:List (Addr × Obj)) (s:Shared) (σ:St) (H:Hp) (E:Value->Shared->Prop),Inv X pins σ H s->(∀ b∈fp,j4 X pins H b)->tn i s.heap->J.go i H ->
  wpAny (model P w) X.A (pyNext (.ref it)) (λr s1=>∃ u,r=some u /\
   wpAny (model P w) X.A (letOwnedTupleGo tg (.ref it) u) (λ_ s2=>∃ x H',Inv X pins σ H' s2/\RelV x u/\J.yld i H x H'/\tn (i+1) s2.heap/\∀ b∈fp,H' b=none) E s1) E s
 done:∀(X:Cx),X.prog=P->X.w=w->X.K=K->X.calm=true->∀(i:Nat) (pins:List (Addr × Obj)) (s:Shared) (σ:St) (H:Hp) (E:Value->Shared->Prop),Inv X pins σ H s->(∀ b∈fp,j4 X pins H b)->tn i s.heap->J.stop i H ->
  wpAny (model P w) X.A (pyNext (.ref it)) (λr s1=>r=none/\Inv X pins σ H s1) E s
 self:∀(A:Around) (i:Nat) (s:Shared) (Q:Value->Shared->Prop) (E:Value->Shared->Prop),tn i s.heap->Q (.ref it) s->wpAny (model P w) A (pyIter (.ref it)) Q E s
abbrev TI:=St->Hp->(It->Hp->Prop)->Prop
def uE (X:Cx) (pins:List (Addr × Obj)) (σ:St) (tg:Expr) (R:It->Hp->Prop) (itv:Value) (s2:Shared):Prop :=
 ∃(it:Addr) (fp:List Addr) (tn:Nat->Heap->Prop) (J:It) (H':Hp),itv=.ref it/\Inv X pins σ H' s2/\Turn X.prog X.w X.K tg J fp it tn/\tn 0 s2.heap/\(∀ b∈fp,j4 X pins H' b)/\R J H'
def PI (X:Cx) (tg iter:Expr) (wi:TI):Prop :=
 ∀(pins:List (Addr × Obj)) (s:Shared) (σ:St) (H:Hp) (R:It->Hp->Prop),Inv X pins σ H s->wi σ H R ->
  wpAny (model X.prog X.w) X.A (eval iter X.env) (λv s1=>wpAny (model X.prog X.w) X.A (pyIter v) (uE X pins σ tg R) X.xe s1) X.xe s
theorem mY {M:Model} {A:Around} {E:Value->Shared->Prop} {s:Shared} {tg:Expr} {it:Addr} {u:Value} {o:Obj} {n:String} {vs:Array Value} {Q:Unit->Shared->Prop} (ho:s.heap.get? it=some o) (hc:o.cls=.type n) (hd:o.data=.fields vs)
    (hn:["enumerate","zip","dict_itemiterator","dict_reverseitemiterator","odict_iterator","itertools.zip_longest","itertools.pairwise"].contains n=false) (hQ:Q () s):wpAny M A (letOwnedTupleGo tg (.ref it) u) Q E s:=by
  unfold letOwnedTupleGo
  cases tg<;>first
    | exact wpAny_pure hQ
    | (cases u<;>first
        | exact wpAny_pure hQ
        | (refine wpAny_bind (wpAny_load ho ?_)
           rw [hc,hd]
           show wpAny M A (if (["enumerate","zip","dict_itemiterator","dict_reverseitemiterator","odict_iterator","itertools.zip_longest","itertools.pairwise"].contains n && vs[0]?==some (rawInt _))=true then _ else _) Q E s
           rw [if_neg (by intro h;rw [hn,Bool.false_and] at h;cases h)]
           exact wpAny_pure hQ))
def qW (K:PySem.W.Frag) (a:Addr):It :=
 ⟨λi H=>∃ xs x,bf K H a xs/\xs[i]?=some x,λi H x H'=>H'=H/\∀ xs,bf K H a xs->xs[i]?=some x,λi H=>∃ xs,bf K H a xs/\xs.length<=i⟩
def qX (K:PySem.W.Frag) (a:Addr):It :=
 ⟨λi H=>∃ xs x,aT K H a xs/\xs[i]?=some x,λi H x H'=>H'=H/\∀ xs,aT K H a xs->xs[i]?=some x,λi H=>∃ xs,aT K H a xs/\xs.length<=i⟩
def qf (lo:Int) (n:Nat):It:=⟨λi _=>i<n,λi H x H'=>H'=H/\x=.int (lo+i),λi _=>n<=i⟩
theorem mC {P:Program} {w:World} {K:PySem.W.Frag} {tg:Expr} (a it:Addr):Turn P w K tg (qW K a) [it] it (λi h=>h.IsListIter it a i) where
 mem:=by simp
 obj:=λi h st b hb=>by
  have e:b=it:=by simpa using hb
  subst e
  obtain⟨o,e,c,d⟩:=st
  exact⟨o,e,λv z=>by rw [d] at z;cases z⟩
 keep:=λi h h' st k=>st.at λo e=>k it (by simp) o e
 item:=by
  intro X hP hw hK hc i pins s σ H E I hf st hg
  subst hP hw hK
  obtain⟨xs,x,hq,hx⟩:=hg
  obtain⟨its,rv,p,hz⟩:=I.list hq
  obtain⟨u,hu,ru⟩:=rv.get hx
  obtain⟨f0,f1,f2,f3,f4,f5⟩:=hf it (by simp)
  refine wpAny_pyNext_list_item st p.isList (x:=u) (by simpa using hu) λh' st' sb=>?_
  have I1:Inv X pins σ H { s with heap:=h' }:=I.turned (t':=s.toks) (λb o hb e=>(sb.2 b hb).trans e) f0 f1 f3 f4 f5
  obtain⟨o,e,c,d⟩:=id st'
  exact⟨u,rfl,mY (s:={ s with heap:=h' }) e c d (by decide) ⟨x,H,I1,ru,⟨rfl,λys hy=>by rw [I.nc hy hq];exact hx⟩,st',λb hb=>(hf b hb).1⟩⟩
 done:=by
  intro X hP hw hK hc i pins s σ H E I hf st hg
  subst hP hw hK
  obtain⟨xs,hq,hx⟩:=hg
  obtain⟨its,rv,p,hz⟩:=I.list hq
  obtain⟨f0,f1,f2,f3,f4,f5⟩:=hf it (by simp)
  have hl:=rv.length
  exact wpAny_pyNext_list_end (I.ok.hd hc) st p.isList (by simp;omega) λh' eb=>⟨rfl,I.turned (t':=s.toks) (λb o hb e=>eb b o hb e) f0 f1 f3 f4 f5⟩
 self:=λ_ _ _ _ _ st h=>wpAny_pyIter_listiter st h
theorem kS {P:Program} {w:World} {K:PySem.W.Frag} {tg:Expr} (a it:Addr):Turn P w K tg (qX K a) [it] it (λi h=>h.IsTupleIter it a i) where
 mem:=by simp
 obj:=λi h st b hb=>by
  have e:b=it:=by simpa using hb
  subst e
  obtain⟨o,e,c,d⟩:=st
  exact⟨o,e,λv z=>by rw [d] at z;cases z⟩
 keep:=λi h h' st k=>st.at λo e=>k it (by simp) o e
 item:=by
  intro X hP hw hK hc i pins s σ H E I hf st hg
  subst hP hw hK
  obtain⟨xs,x,hq,hx⟩:=hg
  obtain⟨its,rv,p,hz⟩:=I.tuple hq
  obtain⟨u,hu,ru⟩:=rv.get hx
  obtain⟨f0,f1,f2,f3,f4,f5⟩:=hf it (by simp)
  refine wpAny_pyNext_tuple_item st (show s.heap.IsTuple a its.toArray from p) (x:=u) (by simpa using hu) λh' st' sb=>?_
  have I1:Inv X pins σ H { s with heap:=h' }:=I.turned (t':=s.toks) (λb o hb e=>(sb.2 b hb).trans e) f0 f1 f3 f4 f5
  obtain⟨o,e,c,d⟩:=id st'
  exact⟨u,rfl,mY (s:={ s with heap:=h' }) e c d (by decide) ⟨x,H,I1,ru,⟨rfl,λys hy=>by rw [I.mB hy hq];exact hx⟩,st',λb hb=>(hf b hb).1⟩⟩
 done:=by
  intro X hP hw hK hc i pins s σ H E I hf st hg
  subst hP hw hK
  obtain⟨xs,hq,hx⟩:=hg
  obtain⟨its,rv,p,hz⟩:=I.tuple hq
  obtain⟨f0,f1,f2,f3,f4,f5⟩:=hf it (by simp)
  have hl:=rv.length
  exact wpAny_pyNext_tuple_end (I.ok.hd hc) st (show s.heap.IsTuple a its.toArray from p) (by simp;omega) λh' eb=>⟨rfl,I.turned (t':=s.toks) (λb o hb e=>eb b o hb e) f0 f1 f3 f4 f5⟩
 self:=λ_ _ _ _ _ st h=>wpAny_pyIter_tupleiter st h
theorem kR {P:Program} {w:World} {K:PySem.W.Frag} {tg:Expr} (it:Addr) (lo:Int) (n:Nat):Turn P w K tg (qf lo n) [it] it (λi h=>IsRangeIter h it (lo+(i:Nat)*1) ((n:Int)-(i:Nat)) 1) where
 mem:=by simp
 obj:=λi h st b hb=>by
  have e:b=it:=by simpa using hb
  subst e
  exact⟨_,st,λv z=>by
   have z':Data.fields _=Data.cell v:=z
   cases z'⟩
 keep:=λi h h' st k=>k it (by simp) _ st
 item:=by
  intro X hP hw hK hc i pins s σ H E I hf st hg
  subst hP hw hK
  obtain⟨f0,f1,f2,f3,f4,f5⟩:=hf it (by simp)
  have W:=Walks.range (prog:=X.prog) (w:=X.w) (I.ok.hd hc) it lo 1 n
  refine W.item i s _ _ hg st λv h' tk hv st' kk=>?_
  obtain⟨t,rfl⟩:=hv
  have I1:Inv X pins σ H { s with heap:=h',toks:=tk }:=I.turned (λb o hb e=>kk b o (by simpa using hb) e) f0 f1 f3 f4 f5
  refine⟨_,rfl,mY (s:={ s with heap:=h',toks:=tk }) (n := "range_iterator") st' rfl rfl (by decide) ⟨.int (lo+i),H,I1,⟨t,?_⟩,⟨rfl,rfl⟩,st',λb hb=>(hf b hb).1⟩⟩
  rw [Int.mul_one]
 done:=by
  intro X hP hw hK hc i pins s σ H E I hf st hg
  subst hP hw hK
  obtain⟨f0,f1,f2,f3,f4,f5⟩:=hf it (by simp)
  exact wpAny_pyNext_range_end (I.ok.hd hc) st (by have:n<=i:=hg;omega) λh' eb=>⟨rfl,I.turned (t':=s.toks) (λb o hb e=>eb b o hb e) f0 f1 f3 f4 f5⟩
 self:=λ_ _ _ _ _ st h=>wpAny_pyIter_rangeiter st h
section
variable {X:Cx} {tg:Expr}
def qu (K:PySem.W.Frag) (tl:TE):TI:=λσ H R=>tl σ H λx H1=>∃ a,x=.ref a/\(∃ xs,bf K H1 a xs)/\R (qW K a) H1
def tw (K:PySem.W.Frag) (tl:TE):TI:=λσ H R=>tl σ H λx H1=>∃ a,x=.ref a/\(∃ xs,aT K H1 a xs)/\R (qX K a) H1
theorem eC {l:Expr} {tl:TE} (hl:PE X l tl):PI X tg l (qu X.K tl):=by
 intro pins s σ H R I h
 refine bz (hl pins s σ H _ I h) λv s1 ⟨x,H1,I1,r1,q1⟩=>?_
 obtain⟨a,e,⟨xs,hq⟩,q⟩:=q1
 subst e
 cases r1
 obtain⟨its,rv,p,hz⟩:=I1.list hq
 refine wpAny_pyIter_list p.isList ?_
 refine⟨s1.heap.objs.size,[s1.heap.objs.size],_,_,H1,rfl,I1.kept (t':=s1.toks) λb o e=>Heap.get?_push_of_some _ e,mC a _,⟨_,Heap.get?_push_size _ rfl,rfl,rfl⟩,λb hb=>?_,q⟩
 have e:b=s1.heap.objs.size:=by simpa using hb
 subst e
 exact I1.rC (Nat.le_refl _) (I1.hok.fresh (Nat.le_refl _))
theorem fH {l:Expr} {tl:TE} (hl:PE X l tl):PI X tg l (tw X.K tl):=by
 intro pins s σ H R I h
 refine bz (hl pins s σ H _ I h) λv s1 ⟨x,H1,I1,r1,q1⟩=>?_
 obtain⟨a,e,⟨xs,hq⟩,q⟩:=q1
 subst e
 cases r1
 obtain⟨its,rv,p,hz⟩:=I1.tuple hq
 refine wpAny_pyIter_tuple (show s1.heap.IsTuple a its.toArray from p) ?_
 refine⟨s1.heap.objs.size,[s1.heap.objs.size],_,_,H1,rfl,I1.kept (t':=s1.toks) λb o e=>Heap.get?_push_of_some _ e,kS a _,⟨_,Heap.get?_push_size _ rfl,rfl,rfl⟩,λb hb=>?_,q⟩
 have e:b=s1.heap.objs.size:=by simpa using hb
 subst e
 exact I1.rC (Nat.le_refl _) (I1.hok.fresh (Nat.le_refl _))
theorem nV {pins:List (Addr × Obj)} {σ:St} {H:Hp} {s:Shared} {R:It->Hp->Prop} {E:Value->Shared->Prop} {lo hi:Int} {t u v:Tok} {tk:Nat} (I:Inv X pins σ H s) (h1:-(2^62)<=lo) (h2:lo<2^62) (h3:-(2^62)<=hi) (h4:hi<2^62)
  (q:R (qf lo (hi-lo).toNat) H):wpAny (model X.prog X.w) X.A (pyIter (.ref s.heap.objs.size)) (uE X pins σ tg R) E { s with heap:=s.heap.push { cls:=.type "range",data:=.fields #[.int lo t,.int hi u,.int 1 v] },toks:=tk }:=by
 refine wpAny_pyIter_range (IsRange.new ..) (small_one h1 h2 h3 h4) ?_
 have I1:Inv X pins σ H { s with heap:=s.heap.push { cls:=.type "range",data:=.fields #[.int lo t,.int hi u,.int 1 v] },toks:=tk }:=I.kept λb o e=>Heap.get?_push_of_some _ e
 refine⟨(s.heap.push { cls:=.type "range",data:=.fields #[.int lo t,.int hi u,.int 1 v] }).objs.size,[(s.heap.push { cls:=.type "range",data:=.fields #[.int lo t,.int hi u,.int 1 v] }).objs.size],_,_,H,rfl,
  I1.kept (t':=tk) λb o e=>Heap.get?_push_of_some _ e,kR _ lo (hi-lo).toNat,?_,λb hb=>?_,q⟩
 ·have e1:lo+((0:Nat):Int)*1=lo:=by simp
  have e2:(((hi-lo).toNat:Nat):Int)-((0:Nat):Int)=Builtin.Range.rangeSize lo hi 1:=by rw [rangeSize_one];split<;>omega
  show IsRangeIter _ _ (lo+((0:Nat):Int)*1) ((((hi-lo).toNat:Nat):Int)-((0:Nat):Int)) 1
  rw [e1,e2]
  exact Heap.get?_push_size _ rfl
 ·have e:b=(s.heap.push { cls:=.type "range",data:=.fields #[.int lo t,.int hi u,.int 1 v] }).objs.size:=by simpa using hb
  subst e
  exact I1.rC (Nat.le_refl _) (I1.hok.fresh (Nat.le_refl _))
def qv (ta:TA):TI:=λσ H R=>ta σ H λvs H1=>∃ j:Int,vs=[.int j] /\ -(2^62)<=j/\j<2^62/\R (qf 0 j.toNat) H1
def tj (ta:TA):TI:=λσ H R=>ta σ H λvs H1=>∃ i j:Int,vs=[.int i,.int j]/\(-(2^62)<=i/\i<2^62 /\ -(2^62)<=j/\j<2^62)/\R (qf i (j-i).toNat) H1
theorem iH {a:Expr} {ta:TA} {p pos:Pos} (hg:Gl X "range") (hm:X.mg "range"=none) (ha:PA X [a] ta) (hs:starEach [a] X.env=[(false,eval a X.env)]:=by rfl):PI X tg (.Call (.Name "range" p) [a] [] pos) (qv ta):=by
 intro pins s σ H R I h
 refine Call_ (i4 I hg hm boot_range (PyProof.Rows.callWith_type1 (bz (ha pos pins s σ H _ I h) λus s1 ⟨vs,H1,I1,r1,q1⟩=>?_) hs rfl))
 obtain⟨j,e,q1,q2,q⟩:=q1
 subst e
 cases r1 with
 | cons r rr =>
  cases rr
  obtain⟨t,rfl⟩:=r
  exact call_range_1 (nV I1 (by omega) (by omega) q1 q2 (by simpa using q))
def uu (wi:TI) (g:TG) (tb:TS):TS:=λD σ H=>wi σ H λJ H1=>∃ W:Nat->Nat->St->Hp->Prop,(∃ m,W 0 m σ H1)/\∀ i m σ H,W i m σ H ->
 (J.stop i H/\D.nx σ H)∨(J.go i H/\∃ N:St->Hp->Prop,(∀ σ' H',N σ' H'->∃ m',m'<m/\W (i+1) m' σ' H')/\∀ x H',J.yld i H x H'->g x σ H' λσ2 H2=>tb { D with nx:=N,ct:=N,bk:=D.nx } σ2 H2)
def fI (fp:List Addr) (h:Heap):List (Addr × Obj):=fp.filterMap λb=>(h.get? b).map λo=>(b,o)
theorem dA {fp:List Addr} {h:Heap} {b:Addr} {o:Obj} (hb:b∈fp) (e:h.get? b=some o):(b,o)∈fI fp h:=List.mem_filterMap.mpr ⟨b,hb,by rw [e];rfl⟩
theorem iD {fp:List Addr} {h:Heap} {p:Addr × Obj} (hp:p∈fI fp h):p.1∈fp/\h.get? p.1=some p.2:=by
 obtain⟨b,hb,e⟩:=List.mem_filterMap.mp hp
 cases q:h.get? b with
 | none=>rw [q] at e;cases e
 | some o =>
  rw [q] at e
  have e':(b,o)=p:=Option.some.inj e
  subst e'
  exact⟨hb,q⟩
theorem Inv.pinned {pins:List (Addr × Obj)} {σ:St} {H:Hp} {s:Shared} {fp:List Addr} (I:Inv X pins σ H s) (hf:∀ b∈fp,j4 X pins H b) (ho:∀ b∈fp,∃ o,s.heap.get? b=some o/\∀ v,o.data≠.cell v):Inv X (pins++fI fp s.heap) σ H s :=
 I.gd λp hp=>(List.mem_append.mp hp).elim (λz=>I.pin p (List.mem_append_right _ z)) λz=>by
  obtain⟨hb,e⟩:=iD z
  obtain⟨f0,f1,f2,_⟩:=hf p.1 hb
  obtain⟨o,e',d⟩:=ho p.1 hb
  rw [e] at e';cases e'
  exact⟨e,f0,f1,f2,d⟩
theorem Inv.fB {pins pl:List (Addr × Obj)} {σ:St} {H:Hp} {s:Shared} (I:Inv X (pins++pl) σ H s):Inv X pins σ H s:=I.gd λp hp=>I.pin p (List.mem_append_right _ (List.mem_append_left _ hp))
theorem fJ {iter:Expr} {body:List Stmt} {wi:TI} {g:TG} {tb:TS} {pos:Pos} (hp:PassesOwn (model X.prog X.w) X.A X.env X.xe) (hc:X.calm=true) (hi:PI X tg iter wi) (hg:PG X tg g) (hb:gh X body tb)
  (hs:∀ x,foldedSetIterable iter X.env x=pure x:=by intro _;rfl):PS X (.For tg iter body [] pos) (uu wi g tb):=by
 intro pins s σ H D I h
 refine wpAny_For (bz (hi pins s σ H _ I h) λv s1 h1=>bz h1 λitv s2 h2=>?_) hs
 obtain⟨it,fp,tn,J,H2,e,I2,T,st2,f2,W,⟨m0,w0⟩,turn⟩:=h2
 subst e
 -- what stays true of the iterator's objects through the loop
 have stat:∀{H':Hp},(∀ b∈fp,H' b=none)->∀ b∈fp,j4 X pins H' b:=λhn b hb=>⟨hn b hb,(f2 b hb).2⟩
 refine codeAny_forLoop_any (λn s'=>∃ i σ' H',Inv X pins σ' H' s'/\tn i s'.heap/\(∀ b∈fp,H' b=none)/\W i n σ' H') ?_ m0 ⟨0,σ,H2,I2,st2,λb hb=>(f2 b hb).1,w0⟩
 rintro n s3 ⟨i,σ3,H3,I3,st3,fr3,w3⟩
 rcases turn i n σ3 H3 w3 with⟨stop,qn⟩|⟨go,N,hN,step⟩
 ·refine wpAny_passesOwn hp (bz (T.done X rfl rfl rfl hc i pins s3 σ3 H3 X.xe I3 (stat fr3) st3 stop) λr s4 ⟨hr,I4⟩=>?_)
  subst hr
  exact wpAny_execs_nil ⟨σ3,H3,I4,qn⟩
 ·refine wpAny_passesOwn hp (bz (T.item X rfl rfl rfl hc i pins s3 σ3 H3 X.xe I3 (stat fr3) st3 go) λr s4 ⟨u,hr,h4⟩=>?_)
  subst hr
  refine wpAny_passesOwn hp (bz h4 λ_ s5 ⟨x,H5,I5,r5,y5,st5,fr5⟩=>?_)
  have I5':=I5.pinned (stat fr5) (T.obj _ _ st5)
  refine wpAny_passesOwn hp (bz (hg _ s5 σ3 H5 x u _ I5' r5 (step x H5 y5)) λ_ s6 ⟨σ6,H6,I6,q6⟩=>?_)
  refine wpAny_passesOwn hp (bz (hb _ s6 σ6 H6 _ I6 q6) λf s7 q7=>?_)
  have again:∀{σ7:St} {H7:Hp},Inv X (pins++fI fp s5.heap) σ7 H7 s7->N σ7 H7->∃ m,m<n/\∃ i σ' H',Inv X pins σ' H' s7/\tn i s7.heap/\(∀ b∈fp,H' b=none)/\W i m σ' H':=λ{σ7 H7} I7 n7=>by
   obtain⟨m',hm,w7⟩:=hN σ7 H7 n7
   refine⟨m',hm,i+1,σ7,H7,I7.fB,T.keep _ _ _ st5 λb hb o e=>(I7.pin (b,o) (List.mem_append_right _ (List.mem_append_right _ (dA hb e)))).1,λb hb=>?_,w7⟩
   obtain⟨o,e,d⟩:=T.obj _ _ st5 b hb
   exact (I7.pin (b,o) (List.mem_append_right _ (List.mem_append_right _ (dA hb e)))).2.1
  cases f with
  | next=>obtain⟨σ7,H7,I7,n7⟩:=q7;exact again I7 n7
  | cont=>obtain⟨σ7,H7,I7,n7⟩:=q7;exact again I7 n7
  | brk=>obtain⟨σ7,H7,I7,q7⟩:=q7;exact⟨σ7,H7,I7.fB,q7⟩
  | ret v=>obtain⟨x7,σ7,H7,I7,r7,q7⟩:=q7;exact⟨x7,σ7,H7,I7.fB,r7,q7⟩
end
theorem mW {K:PySem.W.Frag} {a:Addr} {xs:List V} {g:TG} {tb:TS} {D:Ends} {σ:St} {H:Hp} (Pv:Nat->St->Hp->Prop) (h0:Pv 0 σ H) (hl:∀ i σ H,i<=xs.length->Pv i σ H->bf K H a xs)
  (hs:∀ i x σ H,xs[i]?=some x->Pv i σ H->g x σ H λσ2 H2=>tb { D with nx:=Pv (i+1),ct:=Pv (i+1),bk:=D.nx } σ2 H2) (hd:∀ σ H,Pv xs.length σ H->D.nx σ H) :
  ∃ W:Nat->Nat->St->Hp->Prop,(∃ m,W 0 m σ H)/\∀ i m σ H,W i m σ H ->
   ((qW K a).stop i H/\D.nx σ H)∨((qW K a).go i H/\∃ N:St->Hp->Prop,(∀ σ' H',N σ' H'->∃ m',m'<m/\W (i+1) m' σ' H')/\∀ x H',(qW K a).yld i H x H'->g x σ H' λσ2 H2=>tb { D with nx:=N,ct:=N,bk:=D.nx } σ2 H2):=by
 refine⟨λi m σ H=>m=xs.length-i/\i<=xs.length/\Pv i σ H,⟨xs.length,by simp,Nat.zero_le _,h0⟩,?_⟩
 rintro i m σ H ⟨rfl,hi,p⟩
 have q:=hl i σ H hi p
 by_cases hlt:i<xs.length
 ·refine .inr ⟨⟨xs,xs[i],q,by simp [hlt]⟩,Pv (i+1),λσ' H' p'=>⟨xs.length-(i+1),by omega,rfl,hlt,p'⟩,λx H' y=>?_⟩
  obtain⟨e,y⟩:=y
  subst e
  exact hs i x σ _ (y xs q) p
 ·have e:i=xs.length:=by omega
  subst e
  exact .inl ⟨⟨xs,q,Nat.le_refl _⟩,hd σ H p⟩
theorem oQ {K:PySem.W.Frag} {a:Addr} {xs:List V} {g:TG} {tb:TS} {D:Ends} {σ:St} {H:Hp} (Pv:Nat->St->Hp->Prop) (h0:Pv 0 σ H) (hl:∀ i σ H,i<=xs.length->Pv i σ H->aT K H a xs)
  (hs:∀ i x σ H,xs[i]?=some x->Pv i σ H->g x σ H λσ2 H2=>tb { D with nx:=Pv (i+1),ct:=Pv (i+1),bk:=D.nx } σ2 H2) (hd:∀ σ H,Pv xs.length σ H->D.nx σ H) :
  ∃ W:Nat->Nat->St->Hp->Prop,(∃ m,W 0 m σ H)/\∀ i m σ H,W i m σ H ->
   ((qX K a).stop i H/\D.nx σ H)∨((qX K a).go i H/\∃ N:St->Hp->Prop,(∀ σ' H',N σ' H'->∃ m',m'<m/\W (i+1) m' σ' H')/\∀ x H',(qX K a).yld i H x H'->g x σ H' λσ2 H2=>tb { D with nx:=N,ct:=N,bk:=D.nx } σ2 H2):=by
 refine⟨λi m σ H=>m=xs.length-i/\i<=xs.length/\Pv i σ H,⟨xs.length,by simp,Nat.zero_le _,h0⟩,?_⟩
 rintro i m σ H ⟨rfl,hi,p⟩
 have q:=hl i σ H hi p
 by_cases hlt:i<xs.length
 ·refine .inr ⟨⟨xs,xs[i],q,by simp [hlt]⟩,Pv (i+1),λσ' H' p'=>⟨xs.length-(i+1),by omega,rfl,hlt,p'⟩,λx H' y=>?_⟩
  obtain⟨e,y⟩:=y
  subst e
  exact hs i x σ _ (y xs q) p
 ·have e:i=xs.length:=by omega
  subst e
  exact .inl ⟨⟨xs,q,Nat.le_refl _⟩,hd σ H p⟩
theorem lU {lo:Int} {n:Nat} {g:TG} {tb:TS} {D:Ends} {σ:St} {H:Hp} (Pv:Nat->St->Hp->Prop) (h0:Pv 0 σ H)
  (hs:∀ i σ H,i<n->Pv i σ H->g (.int (lo+i)) σ H λσ2 H2=>tb { D with nx:=Pv (i+1),ct:=Pv (i+1),bk:=D.nx } σ2 H2) (hd:∀ σ H,Pv n σ H->D.nx σ H) :
  ∃ W:Nat->Nat->St->Hp->Prop,(∃ m,W 0 m σ H)/\∀ i m σ H,W i m σ H ->
   ((qf lo n).stop i H/\D.nx σ H)∨((qf lo n).go i H/\∃ N:St->Hp->Prop,(∀ σ' H',N σ' H'->∃ m',m'<m/\W (i+1) m' σ' H')/\∀ x H',(qf lo n).yld i H x H'->g x σ H' λσ2 H2=>tb { D with nx:=N,ct:=N,bk:=D.nx } σ2 H2):=by
 refine⟨λi m σ H=>m=n-i/\i<=n/\Pv i σ H,⟨n,by simp,Nat.zero_le _,h0⟩,?_⟩
 rintro i m σ H ⟨rfl,hi,p⟩
 by_cases hlt:i<n
 ·refine .inr ⟨hlt,Pv (i+1),λσ' H' p'=>⟨n-(i+1),by omega,rfl,hlt,p'⟩,λx H' y=>?_⟩
  obtain⟨e,y⟩:=y
  subst e y
  exact hs i σ _ hlt p
 ·have e:i=n:=by omega
  subst e
  exact .inl ⟨Nat.le_refl _,hd σ H p⟩
abbrev R2:=V->V->Hp->VK->Prop
def eO (X:Cx) (f:Value->Value->Sem Value) (r:R2):Prop :=
 ∀(pins:List (Addr × Obj)) (s:Shared) (σ:St) (H:Hp) (x y:V) (v u:Value) (Q:VK),Inv X pins σ H s->RelV x v->RelV y u->r x y H Q ->
  wpAny (model X.prog X.w) X.A (f v u) (EP X pins σ Q) X.xe s
def uU (X:Cx) (f:Value->Sem Value) (r:V->Hp->VK->Prop):Prop :=
 ∀(pins:List (Addr × Obj)) (s:Shared) (σ:St) (H:Hp) (x:V) (v:Value) (Q:VK),Inv X pins σ H s->RelV x v->r x H Q ->
  wpAny (model X.prog X.w) X.A (f v) (EP X pins σ Q) X.xe s
def cG (X:Cx) (f:Value) (r:List V->Hp->VK->Prop):Prop :=
 ∀(pins:List (Addr × Obj)) (s:Shared) (σ:St) (H:Hp) (xs:List V) (us:List Value) (Q:VK),Inv X pins σ H s->Vals xs us->r xs H Q ->
  wpAny (model X.prog X.w) X.A (call f us) (EP X pins σ Q) X.xe s
def uT (X:Cx) (r:V->Hp->(Bool->Hp->Prop)->Prop):Prop :=
 ∀(pins:List (Addr × Obj)) (s:Shared) (σ:St) (H:Hp) (x:V) (v:Value) (Q:Bool->Hp->Prop),Inv X pins σ H s->RelV x v->r x H Q ->
  wpAny (model X.prog X.w) X.A (truthy v) (TP X pins σ Q) X.xe s
def sF (r:R2) (ta tb:TE):TE:=λσ H Q=>ta σ H λx H1=>tb σ H1 λy H2=>r x y H2 Q
def vO (r:V->Hp->VK->Prop) (ta:TE):TE:=λσ H Q=>ta σ H λx H1=>r x H1 Q
def rI (C:Int->Int->Prop) (g:Int->Int->V):R2:=λx y H Q=>∃ i j,x=.int i/\y=.int j/\C i j/\Q (g i j) H
def lC (g:Int->Int->V):R2:=λx y H Q=>∃ i j,x=.int i/\y=.int j/\Q (g i j) H
def rU (g:Int->V):V->Hp->VK->Prop:=λx H Q=>∃ i,x=.int i/\Q (g i) H
section
variable {X:Cx} {a b c:Expr} {ta tb tc:TE} {pos:Pos}
theorem ri (ha:PE X a ta) (hb:PE X b tb) {pins:List (Addr × Obj)} {s:Shared} {σ:St} {H:Hp} {R:V->V->Hp->Prop} (I:Inv X pins σ H s)
  (h:ta σ H λx H1=>tb σ H1 λy H2=>R x y H2) {Q:Value->Shared->Prop} {f:Value->Value->Sem Value}
  (hf:∀ v u s2 x y H2,Inv X pins σ H2 s2->RelV x v->RelV y u->R x y H2->wpAny (model X.prog X.w) X.A (f v u) Q X.xe s2) :
  wpAny (model X.prog X.w) X.A (eval a X.env) (λv s₁=>wpAny (model X.prog X.w) X.A (eval b X.env) (λu s₂=>wpAny (model X.prog X.w) X.A (f v u) Q X.xe s₂) X.xe s₁) X.xe s:=by
 refine bz (ha pins s σ H _ I h) λv s1 ⟨x,H1,I1,r1,q1⟩=>?_
 refine bz (hb pins s1 σ H1 _ I1 q1) λu s2 ⟨y,H2,I2,r2,q2⟩=>?_
 exact hf v u s2 x y H2 I2 r1 r2 q2
theorem aj {op:Operator} {r:R2} (ho:eO X (binaryOp op) r) (ha:PE X a ta) (hb:PE X b tb):PE X (.BinOp a op b pos) (sF r ta tb):=by
 intro pins s σ H Q I h
 exact wpAny_BinOp (ri ha hb I h λv u s2 x y H2 I2 rx ry q=>ho pins s2 σ H2 x y v u Q I2 rx ry q)
theorem nL {op:UnaryOp} {r:V->Hp->VK->Prop} (ho:uU X (unaryOp op) r) (ha:PE X a ta):PE X (.UnaryOp op a pos) (vO r ta):=by
 intro pins s σ H Q I h
 exact UnaryOp_ (bz (ha pins s σ H _ I h) λv s1 ⟨x,H1,I1,r1,q1⟩=>ho pins s1 σ H1 x v Q I1 r1 q1)
theorem tS {f:Value->Value->Sem Value} {C:Int->Int->Prop} {g:Int->Int->Int}
  (rule:∀(i j:Int) (t u:Tok) (s:Shared) (Q:Value->Shared->Prop) (E:Value->Shared->Prop),C i j->Q (.int (g i j) s.toks) { s with toks:=s.toks+1 }->wpAny (model X.prog X.w) X.A (f (.int i t) (.int j u)) Q E s) :
  eO X f (rI C λi j=>.int (g i j)):=by
 intro pins s σ H x y v u Q I rx ry h
 obtain⟨i,j,rfl,rfl,hc,q⟩:=h
 obtain⟨t,rfl⟩:=rx
 obtain⟨t',rfl⟩:=ry
 exact rule i j t t' s _ _ hc ⟨.int (g i j),H,I.tok _,⟨_,rfl⟩,q⟩
theorem pL {f:Value->Value->Sem Value} {g:Int->Int->Int}
  (rule:∀(i j:Int) (t u:Tok) (s:Shared) (Q:Value->Shared->Prop) (E:Value->Shared->Prop),Q (.int (g i j) s.toks) { s with toks:=s.toks+1 }->wpAny (model X.prog X.w) X.A (f (.int i t) (.int j u)) Q E s) :
  eO X f (lC λi j=>.int (g i j)):=by
 intro pins s σ H x y v u Q I rx ry h
 obtain⟨i,j,rfl,rfl,q⟩:=h
 obtain⟨t,rfl⟩:=rx
 obtain⟨t',rfl⟩:=ry
 exact rule i j t t' s _ _ ⟨.int (g i j),H,I.tok _,⟨_,rfl⟩,q⟩
theorem pK {f:Value->Value->Sem Value} {g:Int->Int->Bool}
  (rule:∀(i j:Int) (t u:Tok) (s:Shared) (Q:Value->Shared->Prop) (E:Value->Shared->Prop),Q (.bool (g i j)) s->wpAny (model X.prog X.w) X.A (f (.int i t) (.int j u)) Q E s) :
  eO X f (lC λi j=>.bl (g i j)):=by
 intro pins s σ H x y v u Q I rx ry h
 obtain⟨i,j,rfl,rfl,q⟩:=h
 obtain⟨t,rfl⟩:=rx
 obtain⟨t',rfl⟩:=ry
 exact rule i j t t' s _ _ ⟨.bl (g i j),H,I,rfl,q⟩
def sJ (i j:Int):Prop:=0<=j/\j<=1000000/\i.natAbs<2^64
def sI (i j:Int):Prop:=(-(2^64)<i/\i<2^64)∨(-(2^64)<j/\j<2^64)
theorem sI.ok {i j:Int} (h:sI i j):IntMulOk i j:=by
 rcases h with⟨h1,h2⟩|⟨h1,h2⟩
 ·exact .of_left (intBits_le_64 h1 h2)
 ·exact .of_right (intBits_le_64 h1 h2)
theorem aQ:eO X (binaryOp .Add) (lC λi j=>.int (i+j)):=pL λ_ _ _ _ _ _ _ q=>add_int q
theorem aW:eO X (binaryOp .Sub) (lC λi j=>.int (i-j)):=pL λ_ _ _ _ _ _ _ q=>sub_int q
theorem ay:eO X (binaryOp .Mod) (rI (λ_ j=>0<j) λi j=>.int (i%j)):=tS λi j _ _ _ _ _ hc q=>by
 have h1:(0:Int)<j:=hc
 exact mod_int' (by omega) (by rw [Int.fmod_eq_emod_of_nonneg i (by omega)];exact q)
theorem b3:eO X (binaryOp .Pow) (rI sJ λi j=>.int (i^j.toNat)):=tS λ_ _ _ _ _ _ _ hc q=>pow_int_small hc.1 hc.2.1 hc.2.2 q
theorem i0:eO X (inplaceOp .Add) (lC λi j=>.int (i+j)):=pL λ_ _ _ _ _ _ _ q=>iadd_int q
theorem oW:eO X (inplaceOp .Sub) (lC λi j=>.int (i-j)):=pL λ_ _ _ _ _ _ _ q=>isub_int q
theorem wc {f:Value->Sem Value} {g:Int->Int}
  (rule:∀(i:Int) (t:Tok) (s:Shared) (Q:Value->Shared->Prop) (E:Value->Shared->Prop),Q (.int (g i) s.toks) { s with toks:=s.toks+1 }->wpAny (model X.prog X.w) X.A (f (.int i t)) Q E s) :
  uU X f (rU λi=>.int (g i)):=by
 intro pins s σ H x v Q I rx h
 obtain⟨i,rfl,q⟩:=h
 obtain⟨t,rfl⟩:=rx
 exact rule i t s _ _ ⟨.int (g i),H,I.tok _,⟨_,rfl⟩,q⟩
theorem kT:uU X (unaryOp .USub) (rU λi=>.int (-i)):=wc λ_ _ _ _ _ q=>neg_int q
end
def ji:V->V->Bool
 | .non,.non=>true | .non,.int _=>true | .int _,.non=>true | .non,.bl _=>true | .bl _,.non=>true | .non,.str _=>true | .str _,.non=>true
 | .int _,.int _=>true | .bl _,.bl _=>true | .str _,.str _=>true | .byt _,.byt _=>true
 | .int _,.str _=>true | .str _,.int _=>true | .bl _,.str _=>true | .str _,.bl _=>true
 | _,_=>false
def vF:R2:=λx y H Q=>ji x y=true/\Q (.bl (decide (x=y))) H
def vH:R2:=λx y H Q=>ji x y=true/\Q (.bl (!decide (x=y))) H
theorem k9 {i j:Int}:decide (V.int i=V.int j)=(i==j):=by
 rw [Bool.eq_iff_iff]
 simp
theorem mS {i j:Bool}:decide (V.bl i=V.bl j)=(i==j):=by
 rw [Bool.eq_iff_iff]
 simp
theorem la {i j:Str}:decide (V.str i=V.str j)=(i==j):=by
 rw [Bool.eq_iff_iff]
 simp
theorem k8 {i j:Array UInt8}:decide (V.byt i=V.byt j)=(i.toList==j.toList):=by
 rw [Bool.eq_iff_iff]
 cases i
 cases j
 simp
section
variable {X:Cx} {a b c:Expr} {ta tb tc:TE} {pos:Pos}
theorem aP {pins:List (Addr × Obj)} {σ:St} {H:Hp} {s:Shared} {Q:VK} {k k':Bool} (I:Inv X pins σ H s) (q:Q (.bl k) H) (e:k=k'):EP X pins σ Q (.bool k') s:=by
 subst e
 exact⟨.bl k,H,I,rfl,q⟩
theorem bO:eO X (compareOp .Eq) vF:=by
 intro pins s σ H x y v u Q I rx ry h
 obtain⟨hs,q⟩:=h
 cases x with
 | non =>
  cases rx
  cases y with
  | non=>cases ry;exact PySem.EqNone.eq_none_none (aP I q (by simp))
  | bl j=>cases ry;exact PySem.EqNone.eq_none_bool (aP I q (by simp))
  | int j=>obtain⟨t',rfl⟩:=ry;exact PySem.EqNone.eq_none_int (aP I q (by simp))
  | str j=>obtain⟨t',rfl⟩:=ry;exact PySem.EqNone.eq_none_str (aP I q (by simp))
  | _=>exact absurd (show false=true from hs) Bool.false_ne_true
 | bl i =>
  cases rx
  cases y with
  | non=>cases ry;exact PySem.EqNone.eq_bool_none (aP I q (by simp))
  | bl j=>cases ry;exact eq_bool (aP I q mS)
  | str j=>obtain⟨t',rfl⟩:=ry;exact PySem.EqMixed.eq_bool_str (aP I q (by simp))
  | _=>exact absurd (show false=true from hs) Bool.false_ne_true
 | int i =>
  obtain⟨t,rfl⟩:=rx
  cases y with
  | non=>cases ry;exact PySem.EqNone.eq_int_none (aP I q (by simp))
  | int j=>obtain⟨t',rfl⟩:=ry;exact eq_int (aP I q k9)
  | str j=>obtain⟨t',rfl⟩:=ry;exact PySem.EqMixed.eq_int_str (aP I q (by simp))
  | _=>exact absurd (show false=true from hs) Bool.false_ne_true
 | str i =>
  obtain⟨t,rfl⟩:=rx
  cases y with
  | non=>cases ry;exact PySem.EqNone.eq_str_none (aP I q (by simp))
  | bl j=>cases ry;exact PySem.EqMixed.eq_str_bool (aP I q (by simp))
  | int j=>obtain⟨t',rfl⟩:=ry;exact PySem.EqMixed.eq_str_int (aP I q (by simp))
  | str j=>obtain⟨t',rfl⟩:=ry;exact eq_str (aP I q la)
  | _=>exact absurd (show false=true from hs) Bool.false_ne_true
 | byt i =>
  obtain⟨t,rfl⟩:=rx
  cases y with
  | byt j=>obtain⟨t',rfl⟩:=ry;exact PySem.W.eq_bytes (aP I q k8)
  | _=>exact absurd (show false=true from hs) Bool.false_ne_true
 | _=>cases y<;>exact absurd (show false=true from hs) Bool.false_ne_true
theorem gG:eO X (compareOp .NotEq) vH:=by
 intro pins s σ H x y v u Q I rx ry h
 obtain⟨hs,q⟩:=h
 cases x with
 | non =>
  cases rx
  cases y with
  | non=>cases ry;exact PySem.EqNone.ne_none_none (aP I q (by simp))
  | bl j=>cases ry;exact PySem.EqNone.ne_none_bool (aP I q (by simp))
  | int j=>obtain⟨t',rfl⟩:=ry;exact PySem.EqNone.ne_none_int (aP I q (by simp))
  | str j=>obtain⟨t',rfl⟩:=ry;exact PySem.EqNone.ne_none_str (aP I q (by simp))
  | _=>exact absurd (show false=true from hs) Bool.false_ne_true
 | bl i =>
  cases rx
  cases y with
  | non=>cases ry;exact PySem.EqNone.ne_bool_none (aP I q (by simp))
  | bl j=>cases ry;exact ne_bool (aP I q (congrArg not mS))
  | str j=>obtain⟨t',rfl⟩:=ry;exact PySem.EqMixed.ne_bool_str (aP I q (by simp))
  | _=>exact absurd (show false=true from hs) Bool.false_ne_true
 | int i =>
  obtain⟨t,rfl⟩:=rx
  cases y with
  | non=>cases ry;exact PySem.EqNone.ne_int_none (aP I q (by simp))
  | int j=>obtain⟨t',rfl⟩:=ry;exact ne_int (aP I q (congrArg not k9))
  | str j=>obtain⟨t',rfl⟩:=ry;exact PySem.EqMixed.ne_int_str (aP I q (by simp))
  | _=>exact absurd (show false=true from hs) Bool.false_ne_true
 | str i =>
  obtain⟨t,rfl⟩:=rx
  cases y with
  | non=>cases ry;exact PySem.EqNone.ne_str_none (aP I q (by simp))
  | bl j=>cases ry;exact PySem.EqMixed.ne_str_bool (aP I q (by simp))
  | int j=>obtain⟨t',rfl⟩:=ry;exact PySem.EqMixed.ne_str_int (aP I q (by simp))
  | str j=>obtain⟨t',rfl⟩:=ry;exact ne_str (aP I q (congrArg not la))
  | _=>exact absurd (show false=true from hs) Bool.false_ne_true
 | byt i =>
  obtain⟨t,rfl⟩:=rx
  cases y with
  | byt j=>obtain⟨t',rfl⟩:=ry;exact PySem.W.ne_bytes (aP I q (congrArg not k8))
  | _=>exact absurd (show false=true from hs) Bool.false_ne_true
 | _=>cases y<;>exact absurd (show false=true from hs) Bool.false_ne_true
theorem cT:eO X (compareOp .Lt) (lC λi j=>.bl (decide (i<j))):=pK λ_ _ _ _ _ _ _ q=>lt_int q
theorem jQ:eO X (compareOp .LtE) (lC λi j=>.bl (decide (i<=j))):=pK λ_ _ _ _ _ _ _ q=>le_int q
theorem cu:eO X (compareOp .Gt) (lC λi j=>.bl (decide (j<i))):=pK λ_ _ _ _ _ _ _ q=>gt_int q
theorem lx:eO X (compareOp .GtE) (lC λi j=>.bl (decide (j<=i))):=pK λ_ _ _ _ _ _ _ q=>ge_int q
theorem av (b:Expr) {op:CmpOp} (h:op≠.In:=by decide) (h2:op≠.NotIn:=by decide):behindInMarks op b=false:=by
 have e1:(op==CmpOp.In)=false:=by cases op<;>first | rfl | exact absurd rfl h
 have e2:(op==CmpOp.NotIn)=false:=by cases op<;>first | rfl | exact absurd rfl h2
 cases b<;>simp [behindInMarks,e1,e2]
theorem bB {op:CmpOp} {r:R2} (ho:eO X (compareOp op) r) (ha:PE X a ta) (hb:PE X b tb) (hm:behindInMarks op b=false):PE X (.Compare a [op] [b] pos) (sF r ta tb):=by
 intro pins s σ H Q I h
 exact wpAny_Compare1 (ri ha hb I h λv u s2 x y H2 I2 rx ry q=>ho pins s2 σ H2 x y v u Q I2 rx ry q) hm
def oi (t:TE):TT:=λσ H Q=>t σ H λx H'=>∃ k,x=.bl k/\Q k H'
theorem aw {op:CmpOp} {r:R2} (ho:eO X (compareOp op) r) (ha:PE X a ta) (hb:PE X b tb) (hm:behindInMarks op b=false):PT X (.Compare a [op] [b] pos) (oi (sF r ta tb)):=by
 intro pins s σ H Q I h
 refine wpAny_isTrue_Compare1 (bz (ha pins s σ H _ I h) λv s1 ⟨x,H1,I1,r1,q1⟩=>bz (hb pins s1 σ H1 _ I1 q1) λu s2 ⟨y,H2,I2,r2,q2⟩ =>
  bz (ho pins s2 σ H2 x y v u _ I2 r1 r2 q2) λc s3 ⟨z,H3,I3,r3,k,e,q3⟩=>?_) hm
 subst e
 cases r3
 exact wpAny_truthy_bool ⟨H3,I3,q3⟩
def jv (r r':R2) (ta tb tc:TE):TE:=λσ H Q=>ta σ H λx H1=>tb σ H1 λy H2=>r x y H2 λz H3=>∃ k,z=.bl k /\
 (if k=true then tc σ H3 λw' H4=>r' y w' H4 Q else Q (.bl false) H3)
theorem nK {op op':CmpOp} {r r':R2} (ho:eO X (compareOp op) r) (ho':eO X (compareOp op') r') (ha:PE X a ta) (hb:PE X b tb) (hc:PE X c tc)
  (hm:lastMarks [op,op'] [b,c]=false:=by with_unfolding_all rfl):PE X (.Compare a [op,op'] [b,c] pos) (jv r r' ta tb tc):=by
 intro pins s σ H Q I h
 refine Compare_chain (bz (ha pins s σ H _ I h) λv s1 ⟨x,H1,I1,r1,q1⟩=>chain_link (bz (hb pins s1 σ H1 _ I1 q1) λu s2 ⟨y,H2,I2,r2,q2⟩ =>
  bz (ho pins s2 σ H2 x y v u _ I2 r1 r2 q2) λd s3 ⟨z,H3,I3,r3,k,e,q3⟩=>?_)) hm
 subst e
 cases r3
 refine wpAny_truthy_bool ?_
 cases k with
 | false=>exact ite_ff ⟨.bl false,H3,I3,rfl,q3⟩
 | true=>exact ite_tt (chain_last (bz (hc pins s3 σ H3 _ I3 q3) λw' s4 ⟨z',H4,I4,r4,q4⟩=>ho' pins s4 σ H4 y z' u w' Q I4 r2 r4 q4))
theorem nU {op op':CmpOp} {r r':R2} (ho:eO X (compareOp op) r) (ho':eO X (compareOp op') r') (ha:PE X a ta) (hb:PE X b tb) (hc:PE X c tc)
  (hm:lastMarks [op,op'] [b,c]=false:=by with_unfolding_all rfl):PT X (.Compare a [op,op'] [b,c] pos) (oi (jv r r' ta tb tc)):=by
 intro pins s σ H Q I h
 refine isTrue_chain (bz (ha pins s σ H _ I h) λv s1 ⟨x,H1,I1,r1,q1⟩=>test_link (bz (hb pins s1 σ H1 _ I1 q1) λu s2 ⟨y,H2,I2,r2,q2⟩ =>
  bz (ho pins s2 σ H2 x y v u _ I2 r1 r2 q2) λd s3 ⟨z,H3,I3,r3,k,e,q3⟩=>?_)) hm
 subst e
 cases r3
 refine wpAny_truthy_bool ?_
 cases k with
 | false =>
  obtain⟨k',e',q'⟩:=q3
  cases e'
  exact ite_ff ⟨H3,I3,q'⟩
 | true =>
  refine ite_tt (test_last (bz (hc pins s3 σ H3 _ I3 q3) λw' s4 ⟨z',H4,I4,r4,q4⟩=>bz (ho' pins s4 σ H4 y z' u w' _ I4 r2 r4 q4) λd' s5 ⟨z2,H5,I5,r5,k2,e2,q5⟩=>?_))
  subst e2
  cases r5
  exact wpAny_truthy_bool ⟨H5,I5,q5⟩
def mK (K:PySem.W.Frag) (x:V) (H:Hp) (k:Bool):Prop :=
 match x with
 | .non=>k=false
 | .bl b=>k=b
 | .int i=>k=(i != 0)
 | .str y=>y.length<=sizeLine/\k=((y.length:Int) != 0)
 | .byt y=>y.size<=sizeLine/\k=((y.size:Int) != 0)
 | .ref p=>(∃ xs,bf K H p xs/\k=!xs.isEmpty)∨(∃ xs,aT K H p xs/\k=!xs.isEmpty)∨∃ kvs,H p=some (.dK kvs)/\k=!kvs.isEmpty
 | _=>False
theorem kq {κ:Type} {kvs:List (κ × V)} {vs:List (κ × Value)} (r:KV kvs vs):(!vs.isEmpty)=!kvs.isEmpty:=by
 cases r<;>rfl
theorem gq {xs:List V} {its:List Value} (r:Vals xs its):(!its.toArray.isEmpty)=!xs.isEmpty:=by
 cases r<;>simp
theorem i5:(sizeLine:Nat)<2^63:=by rw [sizeLine_eq];decide
theorem sC:uT X (λx H Q=>∃ k,mK X.K x H k/\Q k H):=by
 intro pins s σ H x v Q I rx h
 obtain⟨k,e,q⟩:=h
 have hl:=i5
 have hs:sizeLine=16777216:=sizeLine_eq
 cases x with
 | non =>
  cases rx
  have e':k=false:=e
  subst e'
  exact truthy_none ⟨H,I,q⟩
 | bl b =>
  cases rx
  have e':k=b:=e
  subst e'
  exact wpAny_truthy_bool ⟨H,I,q⟩
 | int i =>
  obtain⟨t,rfl⟩:=rx
  have e':k=(i != 0):=e
  subst e'
  exact PySem.P.truthy_int ⟨H,I,q⟩
 | str y =>
  obtain⟨t,rfl⟩:=rx
  obtain⟨hy,e'⟩:y.length<=sizeLine/\k=((y.length:Int) != 0):=e
  subst e'
  exact PySem.P.truthy_str (by omega) ⟨H,I.tok _,q⟩
 | byt y =>
  obtain⟨t,rfl⟩:=rx
  obtain⟨hy,e'⟩:y.size<=sizeLine/\k=((y.size:Int) != 0):=e
  subst e'
  exact PySem.W.truthy_bytes (by omega) ⟨H,I.tok _,q⟩
 | ref p =>
  cases rx
  have e':(∃ xs,bf X.K H p xs/\k=!xs.isEmpty)∨(∃ xs,aT X.K H p xs/\k=!xs.isEmpty)∨∃ kvs,H p=some (.dK kvs)/\k=!kvs.isEmpty:=e
  rcases e' with⟨xs,hx,e'⟩|⟨xs,hx,e'⟩|⟨kvs,hx,e'⟩
  ·subst e'
   obtain⟨its,r,pl,hz⟩:=I.list hx
   have hlen:=r.length
   exact wpAny_truthy_list pl.isList (by simp only [List.size_toArray];omega) ⟨H,I.tok _,by rw [gq r];exact q⟩
  ·subst e'
   obtain⟨its,r,pl,hz⟩:=I.tuple hx
   have hlen:=r.length
   exact truthy_tuple pl (by simp only [List.size_toArray];omega) ⟨H,I.tok _,by rw [gq r];exact q⟩
  ·subst e'
   obtain⟨hz,hS,vs,r,m⟩:kvs.length<=sizeLine/\(p==sysModules)=false/\∃ vs,KV kvs vs/\s.heap.DictOf (i6 X.prog X.w) p vs:=I.hok p _ hx
   have hlen:kvs.length=vs.length:=Paired.length r
   exact wpAny_truthy_dict hS m (by omega) ⟨H,I.tok _,by rw [kq r];exact q⟩
 | _=>exact (show False from e).elim
theorem aX (ha:PE X a ta) (he:∀ whole,isTrue a X.env whole=(do let v <- whole;standAt a.pos;holding [v] (truthy v))) :
  PT X a (λσ H Q=>ta σ H λx H'=>∃ k,mK X.K x H' k/\Q k H'):=by
 intro pins s σ H Q I h
 exact isTrue_plain (bz (ha pins s σ H _ I h) λv s1 ⟨x,H1,I1,r1,q1⟩=>sC pins s1 σ H1 x v Q I1 r1 q1) (he _)
theorem vals1 {x:V} {us:List Value} (r:Vals [x] us):∃ u,us=[u]/\RelV x u:=by
 cases r with
 | cons r1 r2=>cases r2;exact⟨_,rfl,r1⟩
theorem vals2 {x y:V} {us:List Value} (r:Vals [x,y] us):∃ u w',us=[u,w']/\RelV x u/\RelV y w':=by
 cases r with
 | cons r1 r2 =>
  cases r2 with
  | cons r3 r4=>cases r4;exact⟨_,_,rfl,r1,r3⟩
theorem fh:cG X (.builtin "abs") (λxs H Q=>∃ i,xs=[.int i]/\Q (.int (if i<0 then -i else i)) H):=by
 intro pins s σ H xs us Q I r h
 obtain⟨i,rfl,q⟩:=h
 obtain⟨u,rfl,t,rfl⟩:=vals1 r
 exact call_abs_int λu tk=>⟨.int (if i<0 then -i else i),H,I.tok _,⟨_,rfl⟩,q⟩
theorem ix (hc:X.calm=true):cG X (.builtin "max") (λxs H Q=>∃ i j,xs=[.int i,.int j]/\Q (.int (if j > i then j else i)) H):=by
 intro pins s σ H xs us Q I r h
 obtain⟨i,j,rfl,q⟩:=h
 obtain⟨u,w',rfl,⟨t,rfl⟩,⟨t',rfl⟩⟩:=vals2 r
 refine max_two_ints (I.ok.hd hc) λh' tk k=>⟨_,H,I.kept k,?_,q⟩
 by_cases hj:j > i
 ·rw [if_pos hj,if_pos hj];exact⟨_,rfl⟩
 ·rw [if_neg hj,if_neg hj];exact⟨_,rfl⟩
theorem lR (hc:X.calm=true):cG X (.builtin "min") (λxs H Q=>∃ i j,xs=[.int i,.int j]/\Q (.int (if j<i then j else i)) H):=by
 intro pins s σ H xs us Q I r h
 obtain⟨i,j,rfl,q⟩:=h
 obtain⟨u,w',rfl,⟨t,rfl⟩,⟨t',rfl⟩⟩:=vals2 r
 refine min_two_ints (I.ok.hd hc) λh' tk k=>⟨_,H,I.kept k,?_,q⟩
 by_cases hj:j<i
 ·rw [if_pos hj,if_pos hj];exact⟨_,rfl⟩
 ·rw [if_neg hj,if_neg hj];exact⟨_,rfl⟩
theorem iw:cG X (.type "int") (λxs H Q=>(∃ i,xs=[.int i]/\Q (.int i) H)∨∃ k,xs=[.bl k]/\Q (.int (if k then 1 else 0)) H):=by
 intro pins s σ H xs us Q I r h
 rcases h with⟨i,rfl,q⟩|⟨k,rfl,q⟩
 ·obtain⟨u,rfl,t,rfl⟩:=vals1 r
  exact call_int_int ⟨.int i,H,I,⟨_,rfl⟩,q⟩
 ·obtain⟨u,rfl,r1⟩:=vals1 r
  cases r1
  exact call_int_bool ⟨.int (if k then 1 else 0),H,I.tok _,⟨_,rfl⟩,q⟩
theorem iQ:cG X (.type "str") (λxs H Q=>∃ i,xs=[.int i]/\i.natAbs.log2<1920/\Q (.str (toString i)) H):=by
 intro pins s σ H xs us Q I r h
 obtain⟨i,rfl,hz,q⟩:=h
 obtain⟨u,rfl,t,rfl⟩:=vals1 r
 exact PySem.P.str_of_int hz ⟨.str _,H,I.tok _,⟨_,rfl⟩,q⟩
end
structure qZ (h:Heap) (x dx C:Addr) (mA:Str->Option Value):Prop where
 obj:h.get? x=some (PySem.W.instObj C dx)
 ns:h.Ns1 dx mA
 ne:dx≠x
theorem lZ {h:Heap} {dx:Addr} {mA:Str->Option Value} (n:h.Ns1 dx mA):∃ od,h.get? dx=some od/\∀ name,PySem.W.lookIn name od=some (mA name):=by
 obtain⟨o,es,ep,ho,hd,hk,_,hm⟩:=n
 refine⟨o,ho,λname=>?_⟩
 have e:=hm name
 unfold nsFind findBy at e
 rw [<- Array.find?_toList] at e
 unfold PySem.W.lookIn
 rw [hd]
 dsimp only
 split
 ·rename_i y q
  rw [q] at e
  exact congrArg some e
 ·rename_i q
  rw [q] at e
  have a:es.toList.any (·.refKey)=false:=by
   rw [List.any_eq_false]
   intro y hy
   obtain⟨z,t,hkey⟩:=hk y (Array.mem_toList_iff.mp hy)
   simp [DictEntry.refKey,hkey]
  have a':¬es.toList.any (·.refKey)=true:=by rw [a];exact Bool.false_ne_true
  rw [if_neg a']
  exact congrArg some e
theorem qZ.look {h:Heap} {x dx C:Addr} {mA:Str->Option Value} (I:qZ h x dx C mA):∃ od,PySem.W.InstAt h x (PySem.W.instObj C dx) C (some od)/\∀ name,PySem.W.lookIn name od=some (mA name) :=
 let ⟨od,ho,hl⟩:=lZ I.ns
 ⟨od,⟨I.obj,rfl,rfl,ho⟩,hl⟩
section
variable {prog:Program} {w:World} {A:Around} {E:Value->Shared->Prop} {s:Shared} {K:PySem.W.Frag} {x dx C f:Addr} {mA:Str->Option Value} {name:Str} {v:Value}
end
section
variable {P:Program} {w:World} {H H':Hp} {h h':Heap} {a C dx:Addr} {fs fs':List (Str × V)}
theorem oV (hok:ff P w H h) (e:H a=some (.ins C dx fs)):∃ mA,qZ h a dx C mA/\(∀ f,h8 (fs.lookup f) (mA f))/\PySem.Within mA (fs.map (·.1))/\fs.length<=1000/\H dx=some (.own a):=by
 obtain⟨d,z,ne,ob,mA,n,r,q⟩:=(show bC P w H h a (.ins C dx fs) from hok a _ e)
 exact⟨mA,⟨ob,n,ne⟩,r,q,z,d⟩
end
structure uJ (K:PySem.W.Frag) (C:Addr):Prop where
 pg:PySem.W.plainGet K C Str.empty=true
 hd:PySem.W.hasDictIn K C=true
 po:PySem.W.plainOver K C=true
 sa:PySem.W.findIn K (.ref C) "__setattr__"=some (some (.builtin "object.__setattr__"))
theorem uJ.get {K:PySem.W.Frag} {C:Addr} (c:uJ K C) (f:Str):PySem.W.plainGet K C f=true:=c.pg
section
variable {X:Cx} {pins:List (Addr × Obj)} {σ:St} {H:Hp} {s:Shared} {a C dx:Addr} {fs:List (Str × V)} {f:Str} {v:V} {A:Around} {E:Value->Shared->Prop}
end
section
variable {X:Cx} {o e value:Expr} {f:Str} {pos pos' tpos:Pos} {ta tv:TE}
end
section
variable {X:Cx} {pins:List (Addr × Obj)} {σ:St} {H:Hp} {s:Shared} {A:Around} {E:Value->Shared->Prop} {Q:Value->Shared->Prop} {c:Value} {b:Bool}
inductive eH (K:PySem.W.Frag) (H:Hp):V->Value->Prop where
 | non:eH K H .non (.type "NoneType")
 | bl (x:Bool):eH K H (.bl x) (.type "bool")
 | int (i:Int):eH K H (.int i) (.type "int")
 | str (x:Str):eH K H (.str x) (.type "str")
 | flt (x:UInt64):eH K H (.flt x) (.type "float")
 | lst {a:Addr} {xs:List V} (e:H a=some (.lst xs)):eH K H (.ref a) (.type "list")
 | frz {a:Addr} {o:Obj} {xs:List V} (e:H a=some (.frz o (.lst xs))):eH K H (.ref a) (.type "list")
 | tup {a:Addr} {xs:List V} (e:H a=some (.tup xs)):eH K H (.ref a) (.type "tuple")
 | dK {a:Addr} {kvs:List (Key × V)} (e:H a=some (.dK kvs)):eH K H (.ref a) (.type "dict")
 | dT {a:Addr} {kvs:List (List Key × V)} (e:H a=some (.dT kvs)):eH K H (.ref a) (.type "dict")
 | ins {a C dx:Addr} {fs:List (Str × V)} (e:H a=some (.ins C dx fs)) (cl:uJ K C) (ha:PySem.W.findIn K (.ref C) "__class__"=some (some (.builtin "object.__class__")))
   (hn:PySem.W.specialIn K (.builtin "object.__class__") "__get__"=some (some (.builtin "getset_descriptor.__get__"))) (htk:PySem.W.takesIn K (.builtin "object.__class__")=some true)
   (hm:PySem.W.mroIn K C (.type "object")=some true):eH K H (.ref a) (.ref C)
theorem eA {x:V} {u t:Value} (I:Inv X pins σ H s) (rx:RelV x u) (ty:eH X.K H x t) (e:PySem.W.kitOne X.K t c=some b) (h:∀ tk,Q (.bool b) { s with toks:=tk }) :
  wpAny (model X.prog X.w) A (call (.builtin "isinstance") [u,c]) Q E s:=by
 cases ty with
 | non=>cases (show u=Value.none from rx);exact PySem.W.kia_one PySem.W.kitx_none I.fq True.intro e (λz=>nomatch z) h
 | bl y=>cases (show u=Value.bool y from rx);exact PySem.W.kia_one PySem.W.kitx_bool I.fq True.intro e (λz=>nomatch z) h
 | int i=>obtain⟨t,q⟩:=(show ∃ t,u=Value.int i t from rx);cases q;exact PySem.W.kia_one PySem.W.kitx_int I.fq True.intro e (λz=>nomatch z) h
 | str y=>obtain⟨t,q⟩:=(show ∃ t,u=Value.str y t from rx);cases q;exact PySem.W.kia_one PySem.W.kitx_str I.fq True.intro e (λz=>nomatch z) h
 | flt y=>obtain⟨t,q⟩:=(show ∃ t,u=Value.float y t from rx);cases q;exact PySem.W.kia_one PySem.W.kitx_float I.fq True.intro e (λz=>nomatch z) h
 | @lst a xs ea =>
  cases (show u=Value.ref a from rx)
  obtain⟨_,_,n,_,h1⟩:=(show bC X.prog X.w H s.heap a (.lst xs) from I.hok a _ ea)
  exact PySem.W.kia_one PySem.W.kitx_list I.fq ⟨_,h1,rfl⟩ e (λz=>nomatch z) h
 | @frz a ob xs ea =>
  cases (show u=Value.ref a from rx)
  obtain⟨_,_,_,n,_,h1⟩:=(show bC X.prog X.w H s.heap a (.frz ob (.lst xs)) from I.hok a _ ea)
  exact PySem.W.kia_one PySem.W.kitx_list I.fq ⟨_,h1,rfl⟩ e (λz=>nomatch z) h
 | @tup a xs ea =>
  cases (show u=Value.ref a from rx)
  obtain⟨_,_,_,p⟩:=(show bC X.prog X.w H s.heap a (.tup xs) from I.hok a _ ea)
  obtain⟨o,h1,h2,_⟩:=p
  exact PySem.W.kia_one PySem.W.kitx_tuple I.fq ⟨o,h1,h2⟩ e (λz=>nomatch z) h
 | @dK a kvs ea =>
  cases (show u=Value.ref a from rx)
  obtain⟨_,_,vs,_,p⟩:=(show bC X.prog X.w H s.heap a (.dK kvs) from I.hok a _ ea)
  obtain⟨o,es,ep,h1,h2,_⟩:=p
  exact PySem.W.kia_one PySem.W.kitx_dict I.fq ⟨o,h1,h2.1⟩ e (λz=>nomatch z) h
 | @dT a kvs ea =>
  cases (show u=Value.ref a from rx)
  obtain⟨_,_,xs,_,o,es,ep,h1,h2,_⟩:=(show bC X.prog X.w H s.heap a (.dT kvs) from I.hok a _ ea)
  exact PySem.W.kia_one PySem.W.kitx_dict I.fq ⟨o,h1,h2.1⟩ e (λz=>nomatch z) h
 | @ins a C dx fs ea cl ha hn htk hm =>
  cases (show u=Value.ref a from rx)
  obtain⟨mA,O,_⟩:=oV I.hok ea
  obtain⟨od,J,_⟩:=O.look
  exact PySem.W.kia_one (PySem.W.kitx_own (cl.get _) cl.hd ha hn htk hm) I.fq J e (λz=>nomatch z) h
end
structure bX (k:Nat) (A:Around):Prop where
 hd:A.handled=none
 dp:A.depth+3*k+5<recursionLimit
 un:A.units+16*k+200<cLine
theorem bX.mono {j k:Nat} {A:Around} (r:bX k A) (h:j<=k):bX j A:=⟨r.hd,by have:=r.dp;omega,by have:=r.un;omega⟩
theorem bX.deeper {k:Nat} {A:Around} (r:bX (k+1) A) (env:Env):bX k (A.deeper env) :=
 ⟨r.hd,by have:=r.dp;show A.depth+1+3*k+5<_;omega,by have:=r.un;show A.units+3+16*k+200<_;omega⟩
theorem ku {A:Around} {C:Addr} {us:List Value} {kw:List (Str × Value)}:(A.under (.builtin "type.__call__" ⟨.ref C::us,kw⟩)).depth=A.depth+1:=by
 first | rfl | simp [Around.under,Code.weight,Code.isCreation,Code.isGuard,Code.isCaller,Code.frames,Code.isFrame,guardIds]
theorem kx {A:Around} {C:Addr} {us:List Value} {kw:List (Str × Value)}:(A.under (.builtin "type.__call__" ⟨.ref C::us,kw⟩)).units=A.units+1:=by
 first | rfl | simp [Around.under,Code.cUnits,Code.frames,Code.isFrame]
theorem bX.make {k:Nat} {A:Around} (r:bX (k+1) A) (C:Addr) (us:List Value) (kw:List (Str × Value)):bX k (A.under (.builtin "type.__call__" ⟨.ref C::us,kw⟩)) :=
 ⟨r.hd,by have:=r.dp;rw [ku];omega,by have:=r.un;rw [kx];omega⟩
theorem bX.depth {k:Nat} {A:Around} (r:bX k A):A.depth<recursionLimit:=by have:=r.dp;omega
def su:TA:=λ_ H Q=>Q [] H
def oe (ta:TE) (tr:TA):TA:=λσ H Q=>ta σ H λx H1=>tr σ H1 λxs H2=>Q (x::xs) H2
section
variable {X:Cx} {e:Expr} {es:List Expr} {te:TE} {t:TA} {pos:Pos}
theorem ag:PA X [] su:=λ_ _ _ _ H Q I h=>Calls.spliced_nil ⟨[],H,I,.nil,h⟩
theorem aa (ha:PE X e te) (hr:PA X es t) (hs:starEach (e::es) X.env=(false,eval e X.env)::starEach es X.env:=by rfl):PA X (e::es) (oe te t):=by
 intro pos pins s σ H Q I h
 rw [hs]
 show wpAny _ _ (spliced ((false,eval e X.env)::backTo pos (starEach es X.env))) _ _ s
 refine Calls.spliced_cons (bz (ha pins s σ H _ I h) λu s1 ⟨x,H1,I1,r1,q1⟩=>?_)
 exact bz (hr pos pins s1 σ H1 _ I1 q1) λus s2 ⟨xs,H2,I2,r2,q2⟩=>⟨x::xs,H2,I2,.cons r1 r2,q2⟩
def uA (t:TA):TE:=λσ H Q=>t σ H λxs H1=>xs.length<=sizeLine/\∀ p,H1 p=none->Q (.ref p) (upd H1 p (.tup xs))
def uw (t:TA):TE:=λσ H Q=>t σ H λxs H1=>xs.length<=sizeLine/\∀ p,H1 p=none->Q (.ref p) (upd H1 p (.lst xs))
theorem aq {x1} (h:PA X es t):PE X (.Tuple es x1 pos) (uA t):=by
 intro pins s σ H Q I hq
 refine wpAny_Tuple_spliced (bz (h pos pins s σ H _ I hq) λus s1 ⟨xs,H1,I1,r,z,q⟩=>⟨by rw [<- r.length];exact z,?_⟩)
 have hf:H1 s1.heap.objs.size=none:=I1.hok.fresh (Nat.le_refl _)
 refine⟨.ref s1.heap.objs.size,upd H1 s1.heap.objs.size (.tup xs),I1.laid (t':=s1.toks) (λb u e=>Heap.get?_push_of_some _ e) (Nat.le_refl _) ?_,rfl,q _ hf⟩
 exact⟨z,us,r,⟨_,Heap.get?_push_size _ rfl,rfl,_,rfl⟩⟩
theorem aU (h:PA X es t):PE X (.List es pos) (uw t):=by
 intro pins s σ H Q I hq
 refine wpAny_List_spliced (bz (h pos pins s σ H _ I hq) λus s1 ⟨xs,H1,I1,r,z,q⟩=>⟨by rw [<- r.length];exact z,?_⟩)
 have hf:H1 s1.heap.objs.size=none:=I1.hok.fresh (Nat.le_refl _)
 refine⟨.ref s1.heap.objs.size,upd H1 s1.heap.objs.size (.lst xs),I1.laid (t':=s1.toks) (λb u e=>Heap.get?_push_of_some _ e) (Nat.le_refl _) ?_,rfl,q _ hf⟩
 exact⟨z,us,0,r,Heap.get?_push_size _ rfl⟩
end
abbrev Sp:=List V->Hp->VK->XK->Prop
abbrev h7:=List Env->Hp->Shared->XK->Value->Shared->Prop
structure j3 (P:Program) (w:World) (K:PySem.W.Frag) (mg:Str->Option Value) (base:Heap) (A:Around) (outer:List Env) (s:Shared) (H:Hp):Prop where
 frames:A.frames=some outer
 mod:Mod K mg base
 bs:∀ b o,base.get? b=some o->s.heap.get? b=some o/\H b=none
 bsz:base.objs.size<=s.heap.objs.size
 fX:s.heap.FunFrames base outer
 frf:∀ b∈eK outer,H b=none
 hok:ff P w H s.heap
 bare:AllBare s.gens
def CE (outer:List Env) (P:Program) (w:World) (H:Hp) (s:Shared) (Q:VK) (u:Value) (s':Shared):Prop :=
 ∃ v H',s'.os=s.os/\AllBare s'.gens/\Un (eK outer) [] H H' s.heap s'.heap/\ff P w H' s'.heap/\RelV v u/\Q v H'
def CR (CX:h7) (outer:List Env) (P:Program) (w:World) (H:Hp) (s:Shared) (Q:VK) (E:XK) (r:Result) (s':Shared):Prop :=
 match r with
 | .ok (.ret u)=>CE outer P w H s Q u s'
 | .ok _=>False
 | .error e=>CX outer H s E e s'
structure cj (P:Program) (w:World) (K:PySem.W.Frag) (mg:Str->Option Value) (base:Heap) (CX:h7) (k:Nat) (f:Addr) (fd:FuncData) (ps:List Str) (sp:Sp):Prop where
 len:∀ vs H Q E,sp vs H Q E->vs.length=ps.length
 run:∀(A:Around) (outer:List Env) (s:Shared) (H:Hp) (args:Args) (us:List Value) (vs:List V) (Q:VK) (E:XK),bX k A->j3 P w K mg base A outer s H->BindsTo s fd args (ps.zip us)->Vals vs us->sp vs H Q E ->
  codeAny (model P w) A (.call (.ref f) args) (CR CX outer P w H s Q E) s
theorem cj.mono {P:Program} {w:World} {K:PySem.W.Frag} {mg:Str->Option Value} {base:Heap} {CX:h7} {j k:Nat} {f:Addr} {fd:FuncData} {ps:List Str} {sp:Sp} (F:cj P w K mg base CX j f fd ps sp) (h:j<=k) :
  cj P w K mg base CX k f fd ps sp:=⟨F.len,λA outer s H args us vs Q E hr=>F.run A outer s H args us vs Q E (hr.mono h)⟩
theorem cj.imp {P:Program} {w:World} {K:PySem.W.Frag} {mg:Str->Option Value} {base:Heap} {CX:h7} {k:Nat} {f:Addr} {fd:FuncData} {ps:List Str} {sp sp':Sp} (F:cj P w K mg base CX k f fd ps sp)
  (h:∀ vs H Q E,sp' vs H Q E->sp vs H Q E):cj P w K mg base CX k f fd ps sp' :=
 ⟨λvs H Q E q=>F.len vs H Q E (h _ _ _ _ q),λA outer s H args us vs Q E hr he hb hv hs=>F.run A outer s H args us vs Q E hr he hb hv (h _ _ _ _ hs)⟩
theorem j3.make {P:Program} {w:World} {K:PySem.W.Frag} {mg:Str->Option Value} {base:Heap} {A:Around} {outer:List Env} {s:Shared} {H:Hp} (e:j3 P w K mg base A outer s H) (C:Addr) (us:List Value) (kw:List (Str × Value)) :
  j3 P w K mg base (A.under (.builtin "type.__call__" ⟨.ref C::us,kw⟩)) outer s H:=⟨by first | exact e.frames | (simpa [Around.under,Code.envs,Code.isFrame,pushEnvs] using e.frames),e.mod,e.bs,e.bsz,e.fX,e.frf,e.hok,e.bare⟩
section
variable {X:Cx} {pins:List (Addr × Obj)} {σ:St} {H:Hp} {s s':Shared}
theorem Inv.sT (I:Inv X pins σ H s):j3 X.prog X.w X.K X.mg X.base X.A X.stack s H :=
 ⟨I.ok.frames,I.ok.mod,I.bs,Nat.le_trans I.ok.bsz I.sz,I.stack,I.fA,I.hok,I.bare⟩
theorem Inv.after {Q:VK} {u:Value} (I:Inv X pins σ H s) (h:CE X.stack X.prog X.w H s Q u s'):EP X pins σ Q u s':=by
 obtain⟨v,H',os,bare,un,hok,r,q⟩:=h
 obtain⟨hh,g,d,t,os'⟩:=s'
 obtain rfl:os'=s.os:=os
 exact⟨v,H',I.call (h':=hh) (g':=g) (d':=d) (t':=t) (ch:=[]) un hok bare (λb z=>absurd z (by simp)),r,q⟩
end
def lM (sp:Sp) (bo:List V) (E:XK) (t:TA):TE:=λσ H Q=>t σ H λvs H1=>sp (vs++bo) H1 Q E
def Binds (K:PySem.W.Frag) (fd:FuncData) (ps:List Str) (ds:List Value):Prop :=
 ∀(s:Shared) (us:List Value),K.In s.heap->(us++ds).length=ps.length->BindsTo s fd ⟨us,[]⟩ (ps.zip (us++ds))
theorem Binds.all {K:PySem.W.Frag} {fd:FuncData} {ps:List Str} (h:∀ us:List Value,us.length=ps.length->bindArgs fd ⟨us,[]⟩=pure (ps.zip us)):Binds K fd ps []:=λs us _ hl=>by
 rw [List.append_nil] at hl ⊢
 exact .of_eq (h us hl)
def Passes (CX:h7) (X:Cx) (E:XK):Prop:=∀(pins:List (Addr × Obj)) (σ:St) (H:Hp) (s:Shared) (e:Value) (s':Shared),Inv X pins σ H s->CX X.stack H s E e s'->X.xe e s'
section
variable {X:Cx} {CX:h7} {k:Nat} {f C:Addr} {fd:FuncData} {ps:List Str} {sp:Sp} {bo:List V} {ds:List Value} {E:XK} {x m:Str} {p pos apos:Pos} {e o:Expr} {es:List Expr} {ta:TE} {t:TA}
theorem sg {pins:List (Addr × Obj)} {σ:St} {H:Hp} {s:Shared} {Q:VK} {us:List Value} {vs:List V} (F:cj X.prog X.w X.K X.mg X.base CX k f fd ps sp) (hr:bX k X.A) (hb:Binds X.K fd ps ds) (hd:Vals bo ds) (hx:Passes CX X E)
  (I:Inv X pins σ H s) (r:Vals vs us) (h:sp (vs++bo) H Q E):wpAny (model X.prog X.w) X.A (call (.ref f) us) (EP X pins σ Q) X.xe s:=by
 have r2:Vals (vs++bo) (us++ds):=r.append hd
 have hl:(us++ds).length=ps.length:=by rw [<- r2.length];exact F.len _ _ _ _ h
 refine wpAny_call (codeAny_mono (F.run X.A X.stack s H ⟨us,[]⟩ (us++ds) (vs++bo) Q E hr I.sT (hb s us I.fq hl) r2 h) λr s' hq=>?_)
 cases r with
 | error e=>exact hx pins σ H s e s' I hq
 | ok fl =>
  cases fl with
  | ret u=>exact I.after hq
  | next=>exact False.elim hq
  | brk=>exact False.elim hq
  | cont=>exact False.elim hq
theorem pQ (F:cj X.prog X.w X.K X.mg X.base CX k f fd ps sp) (hr:bX k X.A) (hg:Gl X x) (hm:X.mg x=some (.ref f)) (hk:PySem.W.keepIn X.K (.ref f)=true) (hb:Binds X.K fd ps ds) (hd:Vals bo ds) (hx:Passes CX X E)
  (ha:PA X (e::es) t) (hdb:(x==("__debug__":Str))=false:=by decide) (he:starEach (e::es) X.env=(false,eval e X.env)::starEach es X.env:=by rfl) (hpl:(backTo pos (starEach es X.env)).any (·.1)=false:=by rfl) :
  PE X (.Call (.Name x p) (e::es) [] pos) (lM sp bo E t):=by
 intro pins s σ H Q I h
 refine wpAny_Call_Name_kw (gb I hg hm ?_ hdb)
 refine PySem.W.callWith_K (h₀:=X.base) I.ok.mod.kin hk (bz (ha pos pins s σ H _ I h) λus s1 ⟨vs,H1,I1,r,q⟩=>⟨I1.fq,?_⟩) he hpl
 exact sg F hr hb hd hx I1 r q
end
section
variable {X:Cx} {CX:h7} {k:Nat} {f C:Addr} {fd:FuncData} {ps ks:List Str} {sp:Sp} {E:XK} {x m:Str} {p pos apos kpos:Pos} {e o:Expr} {es:List Expr} {kws:List Keyword} {te ta:TE} {t tk:TA} {nm:Option Str}
variable {g:List Value->List Value->List Value} {gV:List V->List V->List V}
end
structure az (N P:List Str) (sc:Scope):Prop where
 kind:sc.kind=.function
 co:sc.isCoroutine=false
 gen:sc.isGenerator=false
 nd:N.Nodup
 pre:N.take P.length=P
 par:∀ x∈P,sc.names.lookup x=some .local∨sc.names.lookup x=some .cell
 nofree:∀ y∈sc.names,y.2≠.free
theorem iv {kindOf:Str->Option NameKind} {x:Str}:∀{binds:List (Str × Value)} {m:Str->Option Value},(∀ v,(x,v)∉binds)->bindL kindOf binds m x=m x
 | [],_,_=>rfl
 | (n,v)::r,m,h=>by
  unfold bindL
  rw [iv λw hw=>h w (List.mem_cons_of_mem _ hw)]
  split
  ·have:x≠n:=by rintro rfl;exact h v List.mem_cons_self
   simp [this]
  ·rfl
theorem ir {kindOf:Str->Option NameKind} {x:Str}:∀{binds:List (Str × Value)} {m:Str->Option Value},(∀ v,(x,v)∉binds)->bindC kindOf binds m x=m x
 | [],_,_=>rfl
 | (n,v)::r,m,h=>by
  unfold bindC
  rw [ir λw hw=>h w (List.mem_cons_of_mem _ hw)]
  split
  ·rfl
  ·have:x≠n:=by rintro rfl;exact h v List.mem_cons_self
   simp [this]
theorem iu {kindOf:Str->Option NameKind} {x:Str} {v:Value}:∀{P:List Str} {vs:List Value} {i:Nat} {m:Str->Option Value},P.Nodup->P[i]?=some x->vs[i]?=some v->kindOf x=some .local ->
  bindL kindOf (P.zip vs) m x=some v
 | [],_,_,_,_,h,_,_=>by simp at h
 | _::_,[],_,_,_,_,h,_=>by simp at h
 | p::P,w::vs,0,m,nd,h1,h2,hk=>by
  simp at h1 h2;subst h1;subst h2
  show bindL kindOf ((p,w)::P.zip vs) m p=_
  unfold bindL
  rw [iv λv hv=>(List.nodup_cons.mp nd).1 (List.of_mem_zip hv).1,if_pos hk]
  simp
 | p::P,w::vs,i+1,m,nd,h1,h2,hk=>by
  show bindL kindOf ((p,w)::P.zip vs) m x=_
  unfold bindL
  exact iu (i:=i) (List.nodup_cons.mp nd).2 (by simpa using h1) (by simpa using h2) hk
theorem iq {kindOf:Str->Option NameKind} {x:Str} {v:Value}:∀{P:List Str} {vs:List Value} {i:Nat} {m:Str->Option Value},P.Nodup->P[i]?=some x->vs[i]?=some v->kindOf x≠some .local ->
  bindC kindOf (P.zip vs) m x=some v
 | [],_,_,_,_,h,_,_=>by simp at h
 | _::_,[],_,_,_,_,h,_=>by simp at h
 | p::P,w::vs,0,m,nd,h1,h2,hk=>by
  simp at h1 h2;subst h1;subst h2
  show bindC kindOf ((p,w)::P.zip vs) m p=_
  unfold bindC
  rw [ir λv hv=>(List.nodup_cons.mp nd).1 (List.of_mem_zip hv).1,if_neg hk]
  simp
 | p::P,w::vs,i+1,m,nd,h1,h2,hk=>by
  show bindC kindOf ((p,w)::P.zip vs) m x=_
  unfold bindC
  exact iq (i:=i) (List.nodup_cons.mp nd).2 (by simpa using h1) (by simpa using h2) hk
def start (N:List Str) (vs:List V):St:=vs.map some++List.replicate (N.length-vs.length) none
def dk (CX:h7) (P:Program) (w:World) (K:PySem.W.Frag) (mg:Str->Option Value) (base:Heap) (N:List Str) (qual:Str) (scope:Scope) (f:Addr) (cd:Value) (A:Around) (outer:List Env) (s:Shared) (H:Hp) (E:XK):Cx where
 prog:=P
 w:=w
 K:=K
 mg:=mg
 base:=base
 A:=A.deeper (envOfC qual scope s.heap.objs.size f cd)
 N:=N
 s₀:=s
 H₀:=H
 env:=envOfC qual scope s.heap.objs.size f cd
 outer:=outer
 stack:=envOfC qual scope s.heap.objs.size f cd::outer
 ex:=[]
 calm:=true
 fn:=λ_=>true
 pn:=[]
 xe:=λe s'=>wpAny (model P w) (A.deeper (envOfC qual scope s.heap.objs.size f cd)) (leaving (envOfC qual scope s.heap.objs.size f cd) e) (λ_ s''=>CX outer H s E e s'') (λe' s''=>CX outer H s E e' s'') s'
theorem jC {sc:Scope} {n:Nat} {x:Str} (h:sc.names.lookup x=some .cell):∃ c,(cellsFrom n sc.names []).lookup x=some c:=by
 have q:=PySem.W.cellsFrom_some sc.names n [] (.inl h)
 exact Option.isSome_iff_exists.mp q
theorem lX {CX:h7} {P:Program} {w:World} {K:PySem.W.Frag} {mg:Str->Option Value} {base:Heap} {N ps:List Str} {qual:Str} {scope:Scope} {f:Addr} {cd:Value} {A:Around} {outer:List Env} {s s1:Shared} {H:Hp} {E:XK} {us:List Value} {vs:List V}
  (S:az N ps scope) (hd:A.handled=none) (e0:j3 P w K mg base A outer s H) (hl:vs.length=ps.length) (r:Vals vs us)
  (x:InCallC s s.heap.objs.size (bindL (envOfC qual scope s.heap.objs.size f cd).kindOf (ps.zip us) λ_=>none) (cellsFrom (s.heap.objs.size+1) scope.names []) (bindC (envOfC qual scope s.heap.objs.size f cd).kindOf (ps.zip us) λ_=>none) s1) :
  Inv (dk CX P w K mg base N qual scope f cd A outer s H E) [] (start N vs) H s1:=by
 have hpl:ps.length<=N.length:=by have:=congrArg List.length S.pre;rw [List.length_take] at this;omega
 obtain⟨h1,tk,rfl,hk⟩:=x.done
 have noA:∀ b:Addr,b∉(dk CX P w K mg base N qual scope f cd A outer s H E).ex:=λb z=>absurd (show b∈([]:List Addr) from z) (by simp)
 refine⟨⟨e0.mod,S.kind,rfl,rfl,Nat.le_refl _,λy z c h1 h2=>?_,λy hy=>?_,λy c _ h=>?_,λ_=>hd,Around.frames_deeper e0.frames,.inr ⟨rfl,rfl⟩,λb z=>absurd z (noA b),e0.bs,e0.bsz,λb _ _=>noA b,λb z=>absurd z (noA b),e0.fX,e0.frf⟩,
  rfl,e0.bare,Un.kept hk,⟨_,x.toInCall.ns,λi y v h1 h2 h3=>?_⟩,λy c h=>⟨_,x.cell y c h⟩,e0.hok.fresh (Nat.le_refl _),λy c h=>?_,λp hp=>absurd (show p∈([]:List (Addr × Obj)) from hp) (by simp),e0.hok.kept hk,?_⟩
 ·exact name_of_addr x.apart (PySem.mem_of_lookup h1) (PySem.mem_of_lookup h2)
 ·have hy:scope.names.lookup y=some .cell∨scope.names.lookup y=some .free:=hy
  rcases hy with hy | hy
  ·exact jC hy
  ·exact absurd rfl (S.nofree _ (PySem.mem_of_lookup hy))
 ·exact Nat.le_of_lt (x.above y c (PySem.mem_of_lookup h))
 ·have hi:i<vs.length:=by
   unfold start at h2
   by_cases hi:i<vs.length
   ·exact hi
   ·rw [List.getElem?_append_right (by simpa using hi)] at h2
    rw [List.getElem?_replicate] at h2
    split at h2<;>cases h2
  have ha:vs[i]?=some v:=by
   unfold start at h2
   rw [List.getElem?_append_left (by simpa using hi),List.getElem?_map] at h2
   cases e:vs[i]? with
   | none=>rw [e] at h2;cases h2
   | some a=>rw [e] at h2;cases h2;rfl
  obtain⟨u,hu,rv⟩:=r.get ha
  have hp:ps[i]?=some y:=by
   rw [<- S.pre,List.getElem?_take_of_lt (by omega)];exact h1
  have ndP:ps.Nodup:=by rw [<- S.pre];exact S.nd.sublist (List.take_sublist _ _)
  refine⟨u,rv,?_⟩
  rcases S.par y (List.mem_of_getElem? hp) with k | k
  ·exact .inl ⟨k,iu ndP hp hu k⟩
  ·obtain⟨c,e⟩:=jC (n:=s.heap.objs.size+1) k
   refine .inr ⟨.inl k,c,e,?_⟩
   have q:=x.cell y c e
   rw [iq ndP hp hu (by show scope.names.lookup y≠_;rw [k];decide)] at q
   exact q
 ·exact e0.hok.fresh (Nat.le_of_lt (x.above y c (PySem.mem_of_lookup h)))
 ·unfold start
  show _=N.length
  rw [List.length_append,List.length_map,List.length_replicate]
  omega
theorem qp {CX:h7} {P:Program} {w:World} {K:PySem.W.Frag} {mg:Str->Option Value} {base:Heap} {k:Nat} {f:Addr} {name qual:Str} {params:Arguments} {body:List Stmt} {scope:Scope} {dV kV doc pm cdv ct oc:Value} {an od:Option Addr}
  {osl:Array (Option Value)} {N ps:List Str} {sp:Sp} (lk:K.lookup f=some ⟨oc,od,.func (PySem.W.fnOf name qual params body scope dV kV doc pm an cdv ct),osl⟩) (hcd:PySem.W.codeIn K cdv qual=true) (S:az N ps scope)
  (len:∀ vs H Q E,sp vs H Q E->vs.length=ps.length)
  (hbody:∀(A:Around) (outer:List Env) (s:Shared) (H:Hp) (vs:List V) (Q:VK) (E:XK),bX k (A.deeper (envOfC qual scope s.heap.objs.size f cdv))->sp vs H Q E ->
   ∃ t,gh (dk CX P w K mg base N qual scope f cdv A outer s H E) body t/\t { nx:=λ_ H'=>Q .non H',rt:=Q } (start N vs) H) :
  cj P w K mg base CX (k+1) f (PySem.W.fnOf name qual params body scope dV kV doc pm an cdv ct) ps sp:=by
 refine⟨len,λA outer s H args us vs Q E hr e0 hb r hsp=>?_⟩
 have hl:=len _ _ _ _ hsp
 have KX:K.In s.heap:=e0.mod.kin.keeps λb o e=>(e0.bs b o e).1
 have lim:s.heap.NoLimit:=e0.mod.nolimit.keeps λb o e=>(e0.bs b o e).1
 have hkind:∀ y∈ps.zip us,scope.names.lookup y.1=some .local∨(scope.names.lookup y.1=some .cell/\((cellsFrom (s.heap.objs.size+1) scope.names []).lookup y.1).isSome=true):=fun⟨n,v⟩ hy=>by
  rcases S.par n (List.of_mem_zip hy).1 with q | q
  ·exact .inl q
  ·exact .inr ⟨q,PySem.W.cellsFrom_some _ _ _ (.inl q)⟩
 refine codeAny_call_function hr.depth (KX _ _ lk) rfl S.co S.gen rfl (PySem.W.codeRec_of KX hcd) (hb _ _ _ _ ?_)
 refine wpAny_newFunctionEnv_cells S.kind hkind λenv he s1 x=>?_
 subst he
 refine⟨lim.keeps x.toInCall.keep,codeAny_func ?_⟩
 obtain⟨t,ht,hq⟩:=hbody A outer s H vs Q E (hr.deeper _) hsp
 have I:Inv (dk CX P w K mg base N qual scope f cdv A outer s H E) [] (start N vs) H s1:=lX S hr.hd e0 hl r x
 refine wpAny_mono (ht [] s1 (start N vs) H _ I hq) (λfl s' hs=>?_) λe s' hs=>hs
 have fin:∀{σ':St} {H':Hp} {v:V} {u:Value},Inv (dk CX P w K mg base N qual scope f cdv A outer s H E) [] σ' H' s'->RelV v u->Q v H'->CE outer P w H s Q u s' :=
  λ{σ' H' v u} J rv q=>⟨v,H',J.os,J.bare,J.base,J.hok,rv,q⟩
 cases fl with
 | ret u =>
  obtain⟨v,σ',H',J,rv,q⟩:=hs
  exact fin J rv q
 | next =>
  obtain⟨σ',H',J,q⟩:=hs
  exact fin (v:=V.non) (u:=Value.none) J rfl q
 | brk =>
  obtain⟨_,_,_,q⟩:=hs
  exact False.elim q
 | cont =>
  obtain⟨_,_,_,q⟩:=hs
  exact False.elim q
section
variable {X:Cx} {x:Str} {p pos:Pos} {e:Expr} {es:List Expr} {t:TA} {id T:String} {r:List V->Hp->VK->Prop}
def vj (r:List V->Hp->VK->Prop) (t:TA):TE:=λσ H Q=>t σ H λvs H1=>r vs H1 Q
theorem aE (hc:cG X (.builtin id) r) (hg:Gl X x) (hm:X.mg x=none) (hv:bootBuiltins x=some (.builtin id)) (ha:PA X (e::es) t) (hn:x ≠ "__name__":=by decide) (hdb:(x==("__debug__":Str))=false:=by decide)
  (he:starEach (e::es) X.env=(false,eval e X.env)::starEach es X.env:=by rfl) (hpl:(backTo pos (starEach es X.env)).any (·.1)=false:=by rfl):PE X (.Call (.Name x p) (e::es) [] pos) (vj r t):=by
 intro pins s σ H Q I h
 refine wpAny_Call_Name_kw (i4 I hg hm hv ?_ hn hdb)
 exact PyProof.Rows.callWith_builtin1 (bz (ha pos pins s σ H _ I h) λus s1 ⟨vs,H1,I1,r1,q1⟩=>hc pins s1 σ H1 vs us Q I1 r1 q1) he hpl
theorem bH (hc:cG X (.type T) r) (hg:Gl X x) (hm:X.mg x=none) (hv:bootBuiltins x=some (.type T)) (ha:PA X (e::es) t) (hn:x ≠ "__name__":=by decide) (hdb:(x==("__debug__":Str))=false:=by decide)
  (he:starEach (e::es) X.env=(false,eval e X.env)::starEach es X.env:=by rfl) (hpl:(backTo pos (starEach es X.env)).any (·.1)=false:=by rfl):PE X (.Call (.Name x p) (e::es) [] pos) (vj r t):=by
 intro pins s σ H Q I h
 refine wpAny_Call_Name_kw (i4 I hg hm hv ?_ hn hdb)
 exact PyProof.Rows.callWith_type1 (bz (ha pos pins s σ H _ I h) λus s1 ⟨vs,H1,I1,r1,q1⟩=>hc pins s1 σ H1 vs us Q I1 r1 q1) he hpl
end
end L2
namespace HT
open PySem PyProof.Rows
section
open PySem.SeqAt
open PySem.AutoSeq1 (wpAny_loadPart')
open PySem.MeetsSeq PySem.MeetsSeq2 PySem.MeetsSeq3
end
section
variable {prog:Program} {w:World} {A:Around} {E:Value->Shared->Prop} {s:Shared}
theorem oI {t b:Addr} {vs ws:List Value} {Q:Value->Shared->Prop} (ht:IsTup s.heap t vs.toArray) (hb:IsTup s.heap b ws.toArray) (hv:vs≠[])
  (h1:ws=[]->Q (.ref t) s) (h2:ws≠[]->Q (.ref s.heap.objs.size) { s with heap:=s.heap.push { cls:=.type "tuple",data:=.seq (vs++ws).toArray } })
  (hsz:vs.length+ws.length<=sizeLine):wpAny (model prog w) A (binaryOp .Add (.ref t) (.ref b)) Q E s:=by
 obtain⟨⟨cls,dd,data,sl⟩,ho,hc,n,hd⟩:=id ht
 obtain⟨⟨cls2,dd2,data2,sl2⟩,ho2,hc2,n2,hd2⟩:=id hb
 simp only at hc hd hc2 hd2
 subst hc hd hc2 hd2
 have e:vs.toArray++ws.toArray=(vs++ws).toArray:=by simp
 by_cases hw:ws=[]
 ·exact concat_meets ⟨_,ho,rfl⟩ ⟨_,ho2,rfl⟩ noFill_tuple_add seq_tuple_add PySem.F.slot_tuple_add PySem.F.entry_tuple_add (PySem.F.args_tuple_add_2 _ _)
   (tuple_addW1 t b vs.toArray ws.toArray n n2 dd dd2 sl sl2 (by simpa using hv) (by simp [hw])) ⟨ho,ho2,h1 hw⟩
 ·refine concat_meets ⟨_,ho,rfl⟩ ⟨_,ho2,rfl⟩ noFill_tuple_add seq_tuple_add PySem.F.slot_tuple_add PySem.F.entry_tuple_add (PySem.F.args_tuple_add_2 _ _)
   (tuple_addW2 t b vs.toArray ws.toArray n n2 dd dd2 sl sl2 (by simpa using hv) (by simpa using hw) (by rw [List.size_toArray,List.size_toArray];exact hsz)) ⟨ho,ho2,?_⟩
  rw [e]
  exact h2 hw
def bV (n d:Nat):Option Int->Nat
 | none=>d
 | some v=>if v<0 then (v+(n:Int)).toNat else min v.toNat n
theorem sh (n d:Nat) (hd:d<=n) (o:Option Int):bV n d o<=n:=by
 cases o with
 | none=>exact hd
 | some v =>
  show (if v<0 then (v+(n:Int)).toNat else min v.toNat n)<=n
  by_cases hv:v<0
  ·rw [if_pos hv];omega
  ·rw [if_neg hv];exact Nat.min_le_right _ _
theorem kZ (v:Int) (n d:Nat):(if v<0 then max (v+(n:Int)) 0 else min v (n:Int))=((bV n d (some v):Nat):Int):=by
 show (if v<0 then max (v+(n:Int)) 0 else min v (n:Int))=(((if v<0 then (v+(n:Int)).toNat else min v.toNat n):Nat):Int)
 by_cases hv:v<0
 ·simp only [if_pos hv];omega
 ·simp only [if_neg hv];omega
theorem j8 (lo hi:Option Int) (n:Nat):Builtin.Slice.sliceAdjust lo hi 1 (n:Int)=(((bV n 0 lo:Nat):Int),((bV n n hi:Nat):Int)):=by
 have h1:¬((1:Int)<0):=by omega
 unfold Builtin.Slice.sliceAdjust
 simp only [h1,if_false]
 refine Prod.ext ?_ ?_
 ·cases lo with
  | none=>rfl
  | some v=>exact kZ v n 0
 ·cases hi with
  | none=>rfl
  | some v=>exact kZ v n n
theorem kH (i j:Nat):Builtin.Slice.slicePlaces (i:Int) (j:Int) 1=j-i:=by
 unfold Builtin.Slice.slicePlaces
 have h1:(1:Int) > 0:=by omega
 simp only [h1,if_true,Int.ediv_one]
 split<;>omega
theorem fb {v:Value} {o:Option Int} {Q:Option Int->Shared->Prop} (p:IsPart v o) (h:Q o s):wpAny (model prog w) A (Builtin.Slice.slicePartIndex v) Q E s:=by
 cases p with
 | none=>exact slicePart_none h
 | int i t=>exact slicePart_int h
theorem dg {sl:Addr} {vl vu:Value} {lo hi:Option Int} {n:Nat} {Q:Int × Int × Nat->Shared->Prop} (hs:s.heap.IsSliceOf sl vl vu .none) (pl:IsPart vl lo) (pu:IsPart vu hi)
  (h:Q (((bV n 0 lo:Nat):Int),1,bV n n hi-bV n 0 lo) s):wpAny (model prog w) A (Builtin.Slice.sliceApplied (.ref sl) (pure (n:Int))) Q E s:=by
 obtain⟨os,hos,hcs,hds⟩:=id hs
 unfold Builtin.Slice.sliceApplied Builtin.Slice.sliceFields
 refine wpAny_bind (wpAny_bind (wpAny_field hos hds (x:=vl) rfl (wpAny_bind (wpAny_field hos hds (x:=vu) rfl (wpAny_bind (wpAny_field hos hds (x:=.none) rfl (wpAny_pure ?_)))))))
 refine wpAny_bind (slicePart_none ?_)
 show wpAny _ _ (if ((1:Int)==0)=true then _ else _) _ _ s
 rw [if_neg (by decide)]
 refine wpAny_bind (fb pl (wpAny_bind (fb pu (wpAny_bind (wpAny_pure ?_)))))
 show wpAny _ _ (match Builtin.Slice.sliceAdjust lo hi 1 (n:Int) with | (lo,hi)=>pure (lo,(1:Int),Builtin.Slice.slicePlaces lo hi 1)) _ _ s
 rw [j8 lo hi n]
 show wpAny _ _ (pure (((bV n 0 lo:Nat):Int),(1:Int),Builtin.Slice.slicePlaces ((bV n 0 lo:Nat):Int) ((bV n n hi:Nat):Int) 1)) _ _ s
 rw [kH]
 exact wpAny_pure h
theorem nN (xs:Array Value) (i k:Nat):((List.range k).filterMap fun(m:Nat)=>xs[((i:Int)+(m:Int)*1).toNat]?).toArray=((xs.toList.drop i).take k).toArray:=by
 have e:(fun(m:Nat)=>xs[((i:Int)+(m:Int)*1).toNat]?)=λm=>xs[i+m]?:=by
  funext m
  have:((i:Int)+(m:Int)*1).toNat=i+m:=by omega
  rw [this]
 rw [e]
 have:=pick_run xs i k
 rw [List.filterMap_map] at this
 have e2:((λx=>xs[x]?)∘λx=>i+x)=λm=>xs[i+m]?:=rfl
 rw [e2] at this
 rw [this]
theorem fm {t sl:Addr} {items:Array Value} {vl vu:Value} {lo hi:Option Int} {Q:Value->Shared->Prop} (ht:IsTup s.heap t items) (hs:s.heap.IsSliceOf sl vl vu .none) (pl:IsPart vl lo) (pu:IsPart vu hi)
  (hw:¬(bV items.size 0 lo=0/\bV items.size items.size hi=items.size))
  (h:Q (.ref s.heap.objs.size) { s with heap:=s.heap.push { cls:=.type "tuple",data:=.seq ((items.toList.drop (bV items.size 0 lo)).take (bV items.size items.size hi-bV items.size 0 lo)).toArray } })
  (hsz:items.size<=sizeLine):wpAny (model prog w) A (getItem (.ref t) (.ref sl)) Q E s:=by
 have htake:sizeOk (.seq ((items.toList.drop (bV items.size 0 lo)).take (bV items.size items.size hi-bV items.size 0 lo)).toArray):=by
  show ((items.toList.drop (bV items.size 0 lo)).take (bV items.size items.size hi-bV items.size 0 lo)).toArray.size<=sizeLine
  rw [List.size_toArray,List.length_take,List.length_drop,Array.length_toList]
  omega
 have hj:bV items.size items.size hi<=items.size:=sh _ _ (Nat.le_refl _) hi
 obtain⟨os,hos,hcs,hds⟩:=id hs
 have hTs:s.TypeIs (.ref sl) "slice":=⟨os,hos,hcs⟩
 unfold getItem
 try with_reducible refine wpAny_holding ?_
 first | refine wpAny_bind (wpAny_pure ?_) | skip
 refine wpAny_bind (wpAny_sequenceKey ht.typeIs (by decide) ?_)
 refine wpAny_bind (wpAny_callSpecial?_slot (name:=Str.ofString "__getitem__") ht.typeIs PyProof.Rows.slot_tuple_getitem
  (wpAny_call_entry PyProof.Rows.slot_tuple_getitem ht.typeIs entry_tuple_getitem ?_ (args_tuple_getitem _ _)))
 show wpAny _ _ (Builtin.Tuple.tupleItemsOf (.ref t) >>= _) _ _ s
 refine wpAny_bind (tupleItemsOf_ ht ?_)
 refine wpAny_bind (wpAny_typeOf hTs ?_)
 rw [if_pos (by decide)]
 refine wpAny_bind (dg hs pl pu ?_)
 have hno:¬((((bV items.size 0 lo:Nat):Int)==0 && (1:Int)==1 && (bV items.size items.size hi-bV items.size 0 lo)==items.size)=true):=by
  intro q
  rw [Bool.and_eq_true,Bool.and_eq_true] at q
  have q1:((bV items.size 0 lo:Nat):Int)=0:=eq_of_beq q.1.1
  have q2:bV items.size items.size hi-bV items.size 0 lo=items.size:=eq_of_beq q.2
  exact hw ⟨by omega,by omega⟩
 show wpAny _ _ (if (((bV items.size 0 lo:Nat):Int)==0 && (1:Int)==1 && (bV items.size items.size hi-bV items.size 0 lo)==items.size)=true then _ else _) _ _ s
 rw [if_neg hno,nN]
 first
  | exact wpAny_bind (m:=Builtin.Tuple.tupleExact _) (wpAny_newObj_type (wpAny_pure ⟨_,rfl,wpAny_pure h⟩) htake)
  | exact wpAny_bind (m:=Builtin.Tuple.tupleExact _) (wpAny_newObj_type (wpAny_bind (wpAny_pure (wpAny_pure ⟨_,rfl,wpAny_pure h⟩))) htake)
  | exact wpAny_bind (wpAny_bind (m:=Builtin.Tuple.tupleExact _) (wpAny_newObj_type (wpAny_pure (wpAny_pure ⟨_,rfl,wpAny_pure h⟩)) htake))
  | exact wpAny_bind (wpAny_bind (m:=Builtin.Tuple.tupleExact _) (wpAny_newObj_type (wpAny_pure ⟨_,rfl,wpAny_pure h⟩) htake))
end
end HT
namespace L2
open PySem PySem.Spec PyProof.Rows
abbrev TO:=St->Hp->(Option Int->Hp->Prop)->Prop
def PO (X:Cx) (e:Option Expr) (t:TO):Prop :=
 ∀(pins:List (Addr × Obj)) (s:Shared) (σ:St) (H:Hp) (Q:Option Int->Hp->Prop),Inv X pins σ H s->t σ H Q ->
  wpAny (model X.prog X.w) X.A (evalPart e X.env) (λu s'=>∃ o H',Inv X pins σ H' s'/\IsPart u o/\Q o H') X.xe s
def lN:TO:=λ_ H Q=>Q none H
def qT (t:TE):TO:=λσ H Q=>t σ H λx H1=>∃ i,x=.int i/\Q (some i) H1
section
variable {X:Cx} {e:Expr} {te:TE} {lo hi:Option Expr} {tl th:TO} {pos p2:Pos}
theorem bL:PO X none lN:=by
 intro pins s σ H Q I h
 rw [evalPart_none]
 exact wpAny_pure ⟨none,H,I,.none,h⟩
theorem bI (h:PE X e te):PO X (some e) (qT te):=by
 intro pins s σ H Q I hw
 rw [evalPart_some]
 refine bz (h pins s σ H _ I hw) λu s1 ⟨x,H1,I1,r1,q1⟩=>?_
 obtain⟨i,rfl,q⟩:=q1
 obtain⟨t,rfl⟩:=r1
 exact⟨some i,H1,I1,.int i t,q⟩
def uF (X:Cx) (r:V->Option Int->Option Int->Hp->VK->Prop):Prop :=
 ∀(pins:List (Addr × Obj)) (s:Shared) (σ:St) (H:Hp) (x:V) (v vl vu:Value) (lo hi:Option Int) (sl:Addr) (Q:VK),Inv X pins σ H s->RelV x v->s.heap.IsSliceOf sl vl vu .none->IsPart vl lo->IsPart vu hi->r x lo hi H Q ->
  ∃ T id,typeLookup (.type T) "__getitem__"=pure (some (.builtin id))/\s.TypeIs v T/\wpAny (model X.prog X.w) X.A (getItem v (.ref sl)) (EP X pins σ Q) X.xe s
def vM (r:V->Option Int->Option Int->Hp->VK->Prop) (te:TE) (tl th:TO):TE:=λσ H Q=>te σ H λx H1=>tl σ H1 λl H2=>th σ H2 λu H3=>r x l u H3 Q
theorem bt {r:V->Option Int->Option Int->Hp->VK->Prop} (hr:uF X r) (he:PE X e te) (hl:PO X lo tl) (hu:PO X hi th):PE X (.Subscript e (.Slice lo hi none p2) pos) (vM r te tl th):=by
 intro pins s σ H Q I h
 refine Subscript_ (bz (he pins s σ H _ I h) λv s1 ⟨x,H1,I1,r1,q1⟩=>?_)
 refine wpAny_Slice (bz (hl pins s1 σ H1 _ I1 q1) λvl s2 ⟨l,H2,I2,pl,q2⟩=>bz (hu pins s2 σ H2 _ I2 q2) λvu s3 ⟨u,H3,I3,pu,q3⟩=>?_)
 rw [evalPart_none]
 refine wpAny_pure ?_
 have I4:Inv X pins σ H3 { s3 with heap:=s3.heap.push { cls:=.type "slice",data:=.fields #[vl,vu,.none] } }:=I3.kept (t':=s3.toks) λb ob q=>Heap.get?_push_of_some _ q
 obtain⟨T,id,hT,ht,hg⟩:=hr pins { s3 with heap:=s3.heap.push { cls:=.type "slice",data:=.fields #[vl,vu,.none] } } σ H3 x v vl vu l u s3.heap.objs.size Q I4 r1 (Heap.IsSliceOf.new ..) pl pu q3
 show wpAny (model X.prog X.w) X.A (subscriptTail e (.Slice lo hi none p2) v (.ref s3.heap.objs.size)) (EP X pins σ Q) X.xe { s3 with heap:=s3.heap.push { cls:=.type "slice",data:=.fields #[vl,vu,.none] } }
 exact tail_any (ops:=[.ref s3.heap.objs.size,v]) ht hT hg (by with_unfolding_all rfl)
def eI (xs:List V) (lo hi:Option Int):List V:=(xs.drop (HT.bV xs.length 0 lo)).take (HT.bV xs.length xs.length hi-HT.bV xs.length 0 lo)
theorem fP (xs:List V) (lo hi:Option Int):(eI xs lo hi).length<=xs.length:=by
 unfold eI
 rw [List.length_take,List.length_drop]
 omega
def vi (K:PySem.W.Frag):V->Option Int->Option Int->Hp->VK->Prop:=λx lo hi H Q=>∃ a xs,x=.ref a/\aT K H a xs /\
 ¬(HT.bV xs.length 0 lo=0/\HT.bV xs.length xs.length hi=xs.length)/\∀ p,H p=none->Q (.ref p) (upd H p (.tup (eI xs lo hi)))
theorem si:uF X (vi X.K):=by
 intro pins s σ H x v vl vu lo hi sl Q I rx hs pl pu h
 obtain⟨a,xs,rfl,hx,hw,q⟩:=h
 cases rx
 obtain⟨its,r,ht,hz⟩:=I.tuple hx
 have hlen:its.toArray.size=xs.length:=by rw [List.size_toArray];exact r.length.symm
 refine⟨"tuple",_,PyProof.Rows.slot_tuple_getitem.lookup,ht.typeIs,?_⟩
 refine HT.fm ht hs pl pu (by rw [hlen];exact hw) ?_ (by rw [hlen];exact hz)
 rw [hlen]
 refine⟨.ref s.heap.objs.size,_,I.laid (t':=s.toks) (o:=.tup (eI xs lo hi)) (λb ob q=>Heap.get?_push_of_some _ q) (Nat.le_refl _) ?_,rfl,q _ (I.hok.fresh (Nat.le_refl _))⟩
 exact⟨Nat.le_trans (fP xs lo hi) hz,_,(r.drop (HT.bV xs.length 0 lo)).take (HT.bV xs.length xs.length hi-HT.bV xs.length 0 lo),IsTup.new _ _⟩
def tZ (K:PySem.W.Frag):R2:=λx y H Q=>∃ a b xs ys,x=.ref a/\y=.ref b/\aT K H a xs/\aT K H b ys/\xs≠[]/\xs.length+ys.length<=sizeLine /\
 (ys=[]->Q (.ref a) H)/\(ys≠[]->∀ p,H p=none->Q (.ref p) (upd H p (.tup (xs++ys))))
theorem Vals.gc {xs:List V} {us:List Value} (r:Vals xs us):us=[]↔xs=[]:=by
 cases r with
 | nil=>simp
 | cons _ _=>simp
theorem pM:eO X (binaryOp .Add) (tZ X.K):=by
 intro pins s σ H x y v u Q I rx ry h
 obtain⟨a,b,xs,ys,rfl,rfl,ha,hb,hx,hz,q1,q2⟩:=h
 cases rx
 cases ry
 obtain⟨its,r1,p1,_⟩:=I.tuple ha
 obtain⟨its2,r2,p2,_⟩:=I.tuple hb
 refine HT.oI p1 p2 (λz=>hx (r1.gc.mp z)) (λz=>⟨.ref a,H,I,rfl,q1 (r2.gc.mp z)⟩) (λz=>?_) (by rw [<- r1.length,<- r2.length];exact hz)
 refine⟨.ref s.heap.objs.size,_,I.laid (t':=s.toks) (o:=.tup (xs++ys)) (λb ob q=>Heap.get?_push_of_some _ q) (Nat.le_refl _) ?_,rfl,q2 (λw=>z (r2.gc.mpr w)) _ (I.hok.fresh (Nat.le_refl _))⟩
 exact⟨by rw [List.length_append];exact hz,_,r1.append r2,IsTup.new _ _⟩
end
def oX (n:Nat) (i:Int):Option Nat:=if 0<=i then (if i<n then some i.toNat else none) else if -(n:Int)<=i then some (i+n).toNat else none
def ka {α:Type} (xs:List α) (i:Int):Option α:=(oX xs.length i).bind λj=>xs[j]?
theorem oY {n:Nat} {i:Int} {j:Nat} (h:oX n i=some j):seqIndex? i n=some j/\j<n /\ -(n:Int)<=i/\i<n:=by
 unfold oX at h
 by_cases h0:0<=i
 ·rw [if_pos h0] at h
  by_cases h1:i<n
  ·rw [if_pos h1] at h
   have e:i.toNat=j:=Option.some.inj h
   exact⟨by rw [seqIndex_of h0 h1,e],by omega,by omega,h1⟩
  ·rw [if_neg h1] at h;cases h
 ·rw [if_neg h0] at h
  by_cases h1:-(n:Int)<=i
  ·rw [if_pos h1] at h
   have e:(i+n).toNat=j:=Option.some.inj h
   exact⟨by rw [seqIndex_neg (by omega) h1,e],by omega,h1,by omega⟩
  ·rw [if_neg h1] at h;cases h
theorem kX {α:Type} {xs:List α} {i:Int} {v:α} (h:ka xs i=some v):∃ j,seqIndex? i xs.length=some j/\xs[j]?=some v/\j<xs.length /\ -(xs.length:Int)<=i/\i<xs.length:=by
 unfold ka at h
 cases e:oX xs.length i with
 | none=>rw [e] at h;cases h
 | some j =>
  rw [e] at h
  obtain⟨h1,h2,h3,h4⟩:=oY e
  exact⟨j,h1,h,h2,h3,h4⟩
theorem cH {α:Type} {xs:List α} {j:Nat} {v:α} (h:xs[j]?=some v):ka xs (j:Int)=some v:=by
 have hj:j<xs.length:=(List.getElem?_eq_some_iff.mp h).1
 have e:oX xs.length (j:Int)=some j:=by
  unfold oX
  rw [if_pos (by omega),if_pos (by omega)];simp
 unfold ka;rw [e];exact h
def oB (b:Expr):Prop:=∀ o i,subscripted b false o i=operate [o,i] (getItem o i)
def uC (X:Cx) (r:R2):Prop :=
 ∀(value slice:Expr) (pins:List (Addr × Obj)) (s:Shared) (σ:St) (H:Hp) (x y:V) (v u:Value) (Q:VK),Inv X pins σ H s->RelV x v->RelV y u->r x y H Q ->
  subscripted slice false v u=operate [v,u] (getItem v u)->wpAny (model X.prog X.w) X.A (subscriptTail value slice v u) (EP X pins σ Q) X.xe s
def uQ (X:Cx) (id:String) (r:V->List V->Hp->VK->Prop):Prop :=
 ∀(pins:List (Addr × Obj)) (s:Shared) (σ:St) (H:Hp) (x:V) (xs:List V) (v:Value) (us:List Value) (Q:VK),Inv X pins σ H s->RelV x v->Vals xs us->r x xs H Q ->
  wpAny (model X.prog X.w) X.A (call (.builtin id) (v::us)) (EP X pins σ Q) X.xe s
section
variable {X:Cx} {a b:Expr} {ta tb:TE} {pos:Pos}
theorem aB {r:R2} (hr:uC X r) (ha:PE X a ta) (hb:PE X b tb) (hs:oB b):PE X (.Subscript a b pos) (sF r ta tb):=by
 intro pins s σ H Q I h
 exact Subscript_ (ri ha hb I h λv u s2 x y H2 I2 rx ry q=>hr a b pins s2 σ H2 x y v u Q I2 rx ry q (hs _ _))
def ml (K:PySem.W.Frag):R2:=λx y H Q=>∃ p xs i v,x=.ref p/\y=.int i/\bf K H p xs/\ka xs i=some v/\Q v H
def sd (K:PySem.W.Frag):R2:=λx y H Q=>∃ p xs i v,x=.ref p/\y=.int i/\aT K H p xs/\ka xs i=some v/\Q v H
theorem aK:uC X (ml X.K):=by
 intro value slice pins s σ H x y v u Q I rx ry h hs
 obtain⟨p,xs,i,z,rfl,rfl,hq,he,q⟩:=h
 cases rx
 obtain⟨t,rfl⟩:=ry
 obtain⟨its,r,pl,hz⟩:=I.list hq
 obtain⟨j,h1,h2,h3,h4,h5⟩:=kX he
 obtain⟨w,ew,rw'⟩:=r.get h2
 have hl:=r.length
 have hn:=i5
 have fin:EP X pins σ Q w s:=⟨z,H,I,rw',q⟩
 by_cases h0:0<=i
 ·have hj:i.toNat=j:=by
   rw [seqIndex_of h0 h5] at h1
   exact Option.some.inj h1
  exact item_listR pl.isList h0 (by omega) (by rw [hj];simpa using ew) fin hs
 ·have hj:(i+(its.toArray.size:Int)).toNat=j:=by
   rw [seqIndex_neg (by omega) h4] at h1
   rw [List.size_toArray,<- hl]
   exact Option.some.inj h1
  exact subscriptTail_builtinR (x:=w) pl.isList.typeIs slot_list_getitem.lookup
   (wpAny_getItem_list_neg (Q:=λr s'=>r=w/\EP X pins σ Q r s') pl.isList (by omega) (by rw [List.size_toArray]<;>omega) (by omega) (by rw [hj];simpa using ew) ⟨rfl,fin⟩) hs
theorem aO:uC X (sd X.K):=by
 intro value slice pins s σ H x y v u Q I rx ry h hs
 obtain⟨p,xs,i,z,rfl,rfl,hq,he,q⟩:=h
 cases rx
 obtain⟨t,rfl⟩:=ry
 obtain⟨its,r,pl,hz⟩:=I.tuple hq
 obtain⟨j,h1,h2,h3,h4,h5⟩:=kX he
 obtain⟨w,ew,rw'⟩:=r.get h2
 have hl:=r.length
 have hn:=i5
 have fin:EP X pins σ Q w s:=⟨z,H,I,rw',q⟩
 exact subscriptTail_builtinR (x:=w) pl.typeIs slot_tuple_getitem.lookup
  (getItem_tuple (j:=j) (Q:=λr s'=>r=w/\EP X pins σ Q r s') pl (by omega) (by omega) (by rw [List.size_toArray,<- hl];exact h1) (by simpa using ew) ⟨rfl,fin⟩) hs
theorem Inv.lst {pins:List (Addr × Obj)} {σ:St} {H:Hp} {s:Shared} {p:Addr} {xs:List V} (I:Inv X pins σ H s) (h:H p=some (.lst xs)) :
  ∃(its:List Value) (n:Nat),Vals xs its/\s.heap.get? p=some { cls:=.type "list",data:=.seq its.toArray n }/\xs.length<=sizeLine:=by
 obtain⟨z,its,n,r,e⟩:=I.hok p _ h
 exact⟨its,n,r,e,z⟩
theorem jj (lo hi:Option Int) (n:Nat):(sliceBounds lo hi none n).1=((HT.bV n 0 lo:Nat):Int)/\(sliceBounds lo hi none n).2.1=((HT.bV n n hi:Nat):Int)/\(sliceBounds lo hi none n).2.2=1:=by
 refine⟨?_,?_,rfl⟩
 ·cases lo with
  | none=>simp [sliceBounds,HT.bV]
  | some i =>
   simp only [sliceBounds,HT.bV,Option.getD_none,show (1:Int) > 0 by decide,if_true]
   by_cases h:i<0
   ·simp only [h,if_true]<;>omega
   ·simp only [h,if_false]<;>omega
 ·cases hi with
  | none=>simp [sliceBounds,HT.bV]
  | some i =>
   simp only [sliceBounds,HT.bV,Option.getD_none,show (1:Int) > 0 by decide,if_true]
   by_cases h:i<0
   ·simp only [h,if_true]<;>omega
   ·simp only [h,if_false]<;>omega
theorem ic (its:List Value) (lo hi:Option Int):slicePick its.toArray lo hi none=((its.drop (HT.bV its.length 0 lo)).take (HT.bV its.length its.length hi-HT.bV its.length 0 lo)).toArray:=by
 obtain⟨h1,h2,h3⟩:=jj lo hi its.toArray.size
 unfold slicePick
 rw [h1,h2,h3]
 simp only [sliceRange_one,pick_run,List.size_toArray]<;>rfl
def vh (K:PySem.W.Frag):V->Option Int->Option Int->Hp->VK->Prop:=λx lo hi H Q=>∃ a xs,x=.ref a/\bf K H a xs/\∀ p,H p=none->Q (.ref p) (upd H p (.lst (eI xs lo hi)))
theorem qb:uF X (vh X.K):=by
 intro pins s σ H x v vl vu lo hi sl Q I rx hs pl pu h
 obtain⟨a,xs,rfl,hx,q⟩:=h
 cases rx
 obtain⟨its,r,ht,hz⟩:=I.list hx
 have hlen:=r.length
 refine⟨"list",_,slot_list_getitem.lookup,ht.isList.typeIs,?_⟩
 refine wpAny_getItem_list_slice ht.isList hs pl pu .none (by simp) ?_ (by rw [List.size_toArray]<;>omega)
 rw [ic,<- hlen]
 refine⟨.ref s.heap.objs.size,_,I.laid (t':=s.toks) (o:=.lst (eI xs lo hi)) (λb ob q=>Heap.get?_push_of_some _ q) (Nat.le_refl _) ?_,rfl,q _ (I.hok.fresh (Nat.le_refl _))⟩
 exact⟨Nat.le_trans (fP xs lo hi) hz,_,0,(r.drop (HT.bV xs.length 0 lo)).take (HT.bV xs.length xs.length hi-HT.bV xs.length 0 lo),Heap.get?_push_size _ rfl⟩
def eP:V->Bool
 | .non=>true
 | .bl _=>true
 | .int _=>true
 | .str _=>true
 | _=>false
def oK:V->V->Bool
 | .non,.non=>true
 | .bl a,.bl b=>a==b
 | .bl a,.int b=>(if a then 1 else 0)==b
 | .int a,.bl b=>a==(if b then 1 else 0)
 | .int a,.int b=>a==b
 | .str a,.str b=>a==b
 | _,_=>false
theorem rB {A:Around} {s:Shared} {y x:V} {u v:Value} (ry:RelV y u) (rx:RelV x v) (fy:eP y=true) (fx:eP x=true):SeqAt.EqAt A s u v (oK y x):=by
 cases y with
 | non =>
  cases ry
  cases x with
  | non=>cases rx;exact SeqAt.EqAt.same _
  | bl b=>cases rx;exact SeqAt.EqAt.none_bool b
  | int b=>obtain⟨t,rfl⟩:=rx;exact SeqAt.EqAt.none_int b t
  | str b=>obtain⟨t,rfl⟩:=rx;exact SeqAt.EqAt.none_str b t
  | _=>exact absurd (show false=true from fx) Bool.false_ne_true
 | bl a =>
  cases ry
  cases x with
  | non=>cases rx;exact SeqAt.EqAt.bool_none a
  | bl b=>cases rx;exact SeqAt.EqAt.bool_bool a b
  | int b=>obtain⟨t,rfl⟩:=rx;exact SeqAt.EqAt.bool_int a b t
  | str b=>obtain⟨t,rfl⟩:=rx;exact SeqAt.EqAt.bool_str a b t
  | _=>exact absurd (show false=true from fx) Bool.false_ne_true
 | int a =>
  obtain⟨t',rfl⟩:=ry
  cases x with
  | non=>cases rx;exact SeqAt.EqAt.int_none a t'
  | bl b=>cases rx;exact SeqAt.EqAt.int_bool a t' b
  | int b=>obtain⟨t,rfl⟩:=rx;exact SeqAt.EqAt.int_int a t' b t
  | str b=>obtain⟨t,rfl⟩:=rx;exact SeqAt.EqAt.int_str a t' b t
  | _=>exact absurd (show false=true from fx) Bool.false_ne_true
 | str a =>
  obtain⟨t',rfl⟩:=ry
  cases x with
  | non=>cases rx;exact SeqAt.EqAt.str_none a t'
  | bl b=>cases rx;exact SeqAt.EqAt.str_bool a t' b
  | int b=>obtain⟨t,rfl⟩:=rx;exact SeqAt.EqAt.str_int a t' b t
  | str b=>obtain⟨t,rfl⟩:=rx;exact SeqAt.EqAt.str_str a t' b t
  | _=>exact absurd (show false=true from fx) Bool.false_ne_true
 | _=>exact absurd (show false=true from fy) Bool.false_ne_true
def oJ (x:V) (u:Value):Bool:=match u with
 | .none=>oK .non x
 | .bool b=>oK (.bl b) x
 | .int i _=>oK (.int i) x
 | .str z _=>oK (.str z) x
 | _=>false
theorem mV {x y:V} {u:Value} (r:RelV y u) (f:eP y=true):oJ x u=oK y x:=by
 cases y with
 | non=>cases r;rfl
 | bl b=>cases r;rfl
 | int i=>obtain⟨t,rfl⟩:=r;rfl
 | str z=>obtain⟨t,rfl⟩:=r;rfl
 | _=>exact absurd (show false=true from f) Bool.false_ne_true
theorem iO {x:V}:∀{xs:List V} {us:List Value},Vals xs us->xs.all eP=true->us.any (oJ x)=xs.any λy=>oK y x
 | _,_,.nil,_=>rfl
 | y::xs,u::us,.cons r t,f=>by
  rw [List.all_cons,Bool.and_eq_true] at f
  rw [List.any_cons,List.any_cons,mV r f.1,iO t f.2]
theorem gE {A:Around} {s:Shared} {x:V} {v:Value} (rx:RelV x v) (fx:eP x=true):∀{xs:List V} {us:List Value},Vals xs us->xs.all eP=true->∀ u∈us,SeqAt.EqAt A s u v (oJ x u)
 | _,_,.nil,_=>λu hu=>by cases hu
 | y::xs,u::us,.cons r t,f=>λu' hu=>by
  rw [List.all_cons,Bool.and_eq_true] at f
  rcases List.mem_cons.mp hu with rfl | hu
  ·rw [mV r f.1];exact rB r rx f.1 fx
  ·exact gE rx fx t f.2 u' hu
def qw (x:V) (xs:List V):Bool:=xs.any λy=>oK y x
def vG (K:PySem.W.Frag) (neg:Bool):R2:=λx y H Q=>∃ p xs,y=.ref p/\(bf K H p xs∨aT K H p xs)/\eP x=true/\xs.all eP=true/\Q (.bl (if neg then !qw x xs else qw x xs)) H
theorem mf:eO X (compareOp .In) (vG X.K false):=by
 intro pins s σ H x y v u Q I rx ry h
 obtain⟨p,xs,rfl,hq,fx,fs,q⟩:=h
 cases ry
 rcases hq with hq | hq
 ·obtain⟨its,r,pl,hz⟩:=I.list hq
  refine SeqAt.in_listAt (oJ x) pl.isList (λw hw=>gE rx fx r fs w (by simpa using hw)) ⟨.bl _,H,I,rfl,?_⟩
  rw [show its.toArray.any (oJ x)=its.any (oJ x) by simp,iO r fs]
  exact q
 ·obtain⟨its,r,pl,hz⟩:=I.tuple hq
  refine SeqAt.in_tupleAt (oJ x) pl (λw hw=>gE rx fx r fs w (by simpa using hw)) ⟨.bl _,H,I,rfl,?_⟩
  rw [show its.toArray.any (oJ x)=its.any (oJ x) by simp,iO r fs]
  exact q
theorem iP:cG X (.builtin "len") (λxs H Q=>∃ p ys,xs=[.ref p]/\(bf X.K H p ys∨aT X.K H p ys)/\Q (.int ys.length) H):=by
 intro pins s σ H xs us Q I r h
 obtain⟨p,ys,rfl,hq,q⟩:=h
 obtain⟨u,rfl,rx⟩:=vals1 r
 cases rx
 have hn:=i5
 rcases hq with hq | hq
 ·obtain⟨its,r',pl,hz⟩:=I.list hq
  have hlen:=r'.length
  exact Calls.call_len_list pl.isList (by simp only [List.size_toArray]<;>omega) ⟨.int ys.length,H,I.tok _,⟨s.toks+1,by rw [List.size_toArray,hlen]⟩,q⟩
 ·obtain⟨its,r',pl,hz⟩:=I.tuple hq
  have hlen:=r'.length
  exact len_tuple pl (by simp only [List.size_toArray]<;>omega) ⟨.int ys.length,H,I.tok _,⟨s.toks+1,by rw [List.size_toArray,hlen]⟩,q⟩
theorem fj:cG X (.type "list") (λxs H Q=>∃ p ys,xs=[.ref p]/\(bf X.K H p ys∨aT X.K H p ys)/\∀ l,H l=none->Q (.ref l) (upd H l (.lst ys))):=by
 intro pins s σ H xs us Q I r h
 obtain⟨p,ys,rfl,hq,q⟩:=h
 obtain⟨u,rfl,rx⟩:=vals1 r
 cases rx
 have fin:∀(its:List Value),Vals ys its->ys.length<=sizeLine->∀(h':Heap) (c':Nat),(∀ b o',s.heap.get? b=some o'->h'.get? b=some o') ->
   h'.get? s.heap.objs.size=some { cls:=.type "list",dict:=none,data:=.seq its.toArray c',slots:=#[] }->EP X pins σ Q (.ref s.heap.objs.size) { s with heap:=h' }:=λits r' hz h' c' kp e =>
  ⟨.ref s.heap.objs.size,_,I.laid (t':=s.toks) kp (Nat.le_refl _) (show bC X.prog X.w _ h' _ (.lst ys) from ⟨hz,its,c',r',e⟩),rfl,q _ (I.hok.fresh (Nat.le_refl _))⟩
 rcases hq with hq | hq
 ·obtain⟨its,r',pl,hz⟩:=I.list hq
  have hlen:=r'.length
  obtain⟨o,ho,hc,n,hd⟩:=pl.isList
  exact call_list_seq p (.inl rfl) ho hc hd (λh' c' kp e=>fin its r' hz h' c' kp e) (by simp only [List.size_toArray]<;>omega)
 ·obtain⟨its,r',pl,hz⟩:=I.tuple hq
  have hlen:=r'.length
  obtain⟨o,ho,hc,n,hd⟩:=pl
  exact call_list_seq p (.inr rfl) ho hc hd (λh' c' kp e=>fin its r' hz h' c' kp e) (by simp only [List.size_toArray]<;>omega)
theorem b5:cG X (.type "tuple") (λxs H Q=>∃ p ys,xs=[.ref p]/\((bf X.K H p ys/\∀ l,H l=none->Q (.ref l) (upd H l (.tup ys)))∨(aT X.K H p ys/\Q (.ref p) H))):=by
 intro pins s σ H xs us Q I r h
 obtain⟨p,ys,rfl,h⟩:=h
 obtain⟨u,rfl,rx⟩:=vals1 r
 cases rx
 rcases h with⟨hq,q⟩|⟨hq,q⟩
 ·obtain⟨its,r',pl,hz⟩:=I.list hq
  have hlen:=r'.length
  refine call_tuple_list pl.isList (λh' kp=>?_) (by simp only [List.size_toArray]<;>omega)
  have I1:Inv X pins σ H { s with heap:=h' }:=I.kept (t':=s.toks) kp
  have I2:Inv X pins σ (upd H h'.objs.size (.tup ys)) { s with heap:=h'.push { cls:=.type "tuple",data:=.seq its.toArray } } :=
   I1.laid (t':=s.toks) (λb o e=>Heap.get?_push_of_some _ e) (Nat.le_refl _) (show bC X.prog X.w _ _ _ (.tup ys) from ⟨hz,its,r',IsTup.new _ _⟩)
  exact⟨.ref h'.objs.size,_,I2,rfl,q _ (I1.hok.fresh (Nat.le_refl _))⟩
 ·obtain⟨its,r',pl,hz⟩:=I.tuple hq
  exact call_tuple_same pl ⟨.ref p,H,I,rfl,q⟩
def vq (K:PySem.W.Frag) (T:String) (x:V) (H:Hp):Prop:=match x with
 | .str _=>T = "str"
 | .int _=>T = "int"
 | .ref p=>(T = "list"/\∃ xs,bf K H p xs)∨(T = "tuple"/\∃ o,K.lookup p=some o/\o.cls=.type "tuple"/\o.dict=none) ∨
   (T = "dict"/\((∃ kvs,H p=some (.dK kvs))∨∃ kvs,H p=some (.dT kvs)))∨(T = "set"/\∃ S n,H p=some (.set S n))
 | _=>False
theorem oq {pins:List (Addr × Obj)} {σ:St} {H:Hp} {s:Shared} {T:String} {x:V} {v:Value} (I:Inv X pins σ H s) (r:RelV x v) (ty:vq X.K T x H) :
  s.TypeIs v T/\∀ a,v=.ref a->∃ ob,s.heap.get? a=some ob/\ob.dict=none:=by
 cases x with
 | str z =>
  obtain⟨t,rfl⟩:=r
  cases (show T = "str" from ty)
  exact⟨typeIs_str s z t,λ_ e=>nomatch e⟩
 | int i =>
  obtain⟨t,rfl⟩:=r
  cases (show T = "int" from ty)
  exact⟨typeIs_int s i t,λ_ e=>nomatch e⟩
 | ref p =>
  cases r
  rcases ty with⟨rfl,xs,hq⟩|⟨rfl,o,hk,hc,hd⟩|⟨rfl,hk⟩|⟨rfl,S,n,hk⟩
  ·obtain⟨its,_,pl,_⟩:=I.list hq
   refine⟨pl.isList.typeIs,λa e=>?_⟩
   cases e
   obtain⟨o,n,e,c,hd,_⟩:=pl
   exact⟨o,e,hd⟩
  ·refine⟨⟨o,I.fq p o hk,hc⟩,λa e=>?_⟩
   cases e
   exact⟨o,I.fq _ o hk,hd⟩
  ·have z:∃ o,s.heap.get? p=some o/\o.ExactDict:=by
    rcases hk with⟨kvs,hk⟩|⟨kvs,hk⟩
    ·obtain⟨_,_,_,_,o,_,_,e,ex,_⟩:=I.hok p _ hk
     exact⟨o,e,ex⟩
    ·obtain⟨_,_,_,_,o,_,_,e,ex,_⟩:=I.hok p _ hk
     exact⟨o,e,ex⟩
   obtain⟨o,e,ex⟩:=z
   refine⟨⟨o,e,ex.1⟩,λa e2=>?_⟩
   cases e2
   exact⟨o,e,ex.2.1⟩
  ·obtain⟨o,_,_,_,e,ex,_⟩:=I.hok p _ hk
   refine⟨⟨o,e,ex.1⟩,λa e2=>?_⟩
   cases e2
   exact⟨o,e,ex.2.1⟩
 | _=>exact False.elim ty
def uo (K:PySem.W.Frag) (T:String) (r:V->List V->Hp->VK->Prop) (to:TE):TE:=λσ H Q=>to σ H λx H1=>vq K T x H1/\r x [] H1 Q
def vI (K:PySem.W.Frag) (T:String) (r:V->List V->Hp->VK->Prop) (to:TE) (t:TA):TE:=λσ H Q=>to σ H λx H1=>vq K T x H1/\t σ H1 λxs H2=>r x xs H2 Q
variable {o e:Expr} {es:List Expr} {to:TE} {t:TA} {name:Str} {apos cpos:Pos} {T id:String} {r:V->List V->Hp->VK->Prop}
theorem r8 (pa:PlainAttrs T) (slot:Slot T name id) (hty:typeOf (.builtin id)=pure (.type "method_descriptor")) (hm:uQ X id r) (ho:PE X o to)
  (hbase:attributeBase o name X.env (eval o X.env)=eval o X.env:=by rfl) (hline:(apos.endLine==cpos.line)=true:=by rfl):PE X (.Call (.Attribute o name apos) [] [] cpos) (uo X.K T r to):=by
 intro pins s σ H Q I h
 refine wpAny_Call_method0_late hbase hline (bz (ho pins s σ H _ I h) λv s1 ⟨x,H1,I1,r1,ty,q1⟩=>?_)
 obtain⟨h1,h2⟩:=oq I1 r1 ty
 exact⟨T,id,pa,slot,hty,h1,h2,Calls.callWith_builtin rfl (PySem.evalArgs_none (hm pins s1 σ H1 x [] v [] Q I1 r1 .nil q1))⟩
theorem iG (pa:PlainAttrs T) (slot:Slot T name id) (hty:typeOf (.builtin id)=pure (.type "method_descriptor")) (hm:uQ X id r) (ho:PE X o to) (ha:PA X (e::es) t)
  (hbase:attributeBase o name X.env (eval o X.env)=eval o X.env:=by rfl)
  (hfew:((backTo cpos (starEach (e::es) X.env)).all (λx=>!x.1) && (backToKw cpos (keywordEach [] X.env)).all (λx=>x.1.isSome)
   && decide ((e::es).length+([]:List Keyword).length+(if ([]:List Keyword).isEmpty then 0 else 1)<30))=true:=by rfl)
  (hline:(apos.endLine==cpos.line)=true:=by rfl) (hs:starEach (e::es) X.env=(false,eval e X.env)::starEach es X.env:=by rfl) (hplain:(backTo cpos (starEach es X.env)).any (·.1)=false:=by rfl) :
  PE X (.Call (.Attribute o name apos) (e::es) [] cpos) (vI X.K T r to t):=by
 intro pins s σ H Q I h
 refine wpAny_Call_method_late hbase hfew hline rfl (bz (ho pins s σ H _ I h) λv s1 ⟨x,H1,I1,r1,ty,q1⟩=>?_)
 obtain⟨h1,h2⟩:=oq I1 r1 ty
 refine⟨T,id,pa,slot,hty,h1,h2,?_⟩
 have hA:=ha cpos pins s1 σ H1 _ I1 q1
 rw [hs] at hA ⊢
 refine Calls.callWith_builtin (by show (false || (backTo cpos (starEach es X.env)).any (·.1))=false;rw [hplain]<;>rfl) (Calls.evalArgs_plain ?_)
 exact bz hA λus s2 ⟨vs,H2,I2,r2,q2⟩=>hm pins s2 σ H2 x vs v us Q I2 r1 r2 q2
/- xs.append(e),list.index on a module's tuple .. are uQ facts of 06m -/
end
def uP (X:Cx) (id:String) (r:V->List V->Hp->VK->Prop):Prop :=
 ∀(pins:List (Addr × Obj)) (s:Shared) (σ:St) (H:Hp) (x:V) (xs:List V) (v:Value) (us:List Value) (Q:VK),Inv X pins σ H s->RelV x v->Vals xs us->r x xs H Q ->
  wpAny (model X.prog X.w) X.A (call (.builtin id) (v::us)) (EP X pins σ Q) X.xe s
theorem Vals.one:∀{x:V} {us:List Value},Vals [x] us->∃ u,us=[u]/\RelV x u
 | _,_,.cons r .nil=>⟨_,rfl,r⟩
theorem Vals.two:∀{x y:V} {us:List Value},Vals [x,y] us->∃ u v,us=[u,v]/\RelV x u/\RelV y v
 | _,_,_,.cons r (.cons q .nil)=>⟨_,_,rfl,r,q⟩
theorem Vals.zero:∀{us:List Value},Vals [] us->us=[]
 | _,.nil=>rfl
theorem Vals.dropLast {xs:List V} {us:List Value} (h:Vals xs us):Vals xs.dropLast us.dropLast:=by
 induction h with
 | nil=>exact .nil
 | cons r t ih =>
  cases t with
  | nil=>exact .nil
  | cons q t'=>exact .cons r ih
theorem Vals.reverse {xs:List V} {us:List Value} (h:Vals xs us):Vals xs.reverse us.reverse:=by
 induction h with
 | nil=>exact .nil
 | cons r t ih=>rw [List.reverse_cons,List.reverse_cons];exact Vals.append ih (.cons r .nil)
theorem kj {α:Type} (l:List α):l.eraseIdx (l.length-1)=l.dropLast:=by
 induction l with
 | nil=>rfl
 | cons a r ih =>
  cases r with
  | nil=>rfl
  | cons b r =>
   have e:(a::b::r).length-1=((b::r).length-1)+1:=by
    have h1:(a::b::r).length=r.length+2:=rfl
    have h2:(b::r).length=r.length+1:=rfl
    omega
   rw [e,List.eraseIdx_cons_succ,ih]
   all_goals rfl
section
variable {X:Cx} {pins:List (Addr × Obj)} {σ:St} {H:Hp} {s:Shared} {l b:Addr} {xs ys zs:List V}
theorem Inv.rO {its its':List Value} {n:Nat} {f:Array Value->Array Value} {t':Nat} (I:Inv X pins σ H s) (hH:H l=some (.lst xs))
  (e:s.heap.get? l=some { cls:=.type "list",data:=.seq its.toArray n }) (hf:f its.toArray=its'.toArray) (hv:Vals ys its') (hz:ys.length<=sizeLine) :
  Inv X pins σ (upd H l (.lst ys)) { s with heap:=s.heap.update l (Obj.mapSeq f),toks:=t' }:=by
 have q:=PySem.IsL.update e f
 rw [hf] at q
 refine I.write (x:=l) (e:=l) (by rw [hH];exact trivial) (.inl rfl) (λb' u hb hu=>(Heap.get?_update_other s.heap (Obj.mapSeq f) (Ne.symm hb)).trans hu) ⟨_,q⟩ ?_
 exact⟨hz,its',_,hv,q⟩
theorem Inv.u5 {its:List Value} {t':Nat} (I:Inv X pins σ H s) (hv:Vals ys its) (hz:ys.length<=sizeLine) :
  Inv X pins σ (upd H s.heap.objs.size (.lst ys)) { s with heap:=s.heap.push { cls:=.type "list",data:=.seq its.toArray },toks:=t' } :=
 I.laid (λ_ _ q=>Heap.get?_push_of_some _ q) (Nat.le_refl _) ⟨hz,its,0,hv,Heap.get?_push_size _ rfl⟩
theorem Inv.fresh (I:Inv X pins σ H s):H s.heap.objs.size=none:=I.hok.fresh (Nat.le_refl _)
theorem Inv.l5 (I:Inv X pins σ H s) (hH:H l=some (.lst xs)):xs.length<=sizeLine/\∃(its:List Value) (n:Nat),Vals xs its/\xs.length=its.length/\s.heap.get? l=some { cls:=.type "list",data:=.seq its.toArray n }:=by
 obtain⟨z,its,n,r,e⟩:=I.hok l _ hH
 exact⟨z,its,n,r,r.length,e⟩
theorem nk {n:Nat} (h:n<=sizeLine):Builtin.List.listTooLong n=false:=by
 unfold Builtin.List.listTooLong
 exact decide_eq_false (by omega)
end
section
variable {X:Cx}
def lB:V->List V->Hp->VK->Prop:=λx vs H Q=>∃ l xs y,x=.ref l/\vs=[y]/\H l=some (.lst xs)/\xs.length<sizeLine/\Q .non (upd H l (.lst (xs++[y])))
theorem cS:uP X "list.append" lB:=by
 intro pins s σ H x vs v us Q I rx rv h
 obtain⟨l,xs,y,rfl,rfl,hH,hz,q⟩:=h
 cases rx
 obtain⟨u,rfl,ru⟩:=rv.one
 obtain⟨z,its,n,r,hl,e⟩:=I.l5 hH
 refine call_meets F.slot_list_append ⟨_,e,rfl⟩ F.entry_list_append (F.args_list_append_2 _ _) (PySem.list_append l its.toArray n u (by rw [List.size_toArray];omega)) ⟨e,?_⟩
 refine⟨.non,_,I.rO (its':=its++[u]) hH e (by simp) (r.append (.cons ru .nil)) ?_,rfl,q⟩
 rw [List.length_append,List.length_singleton]
 omega
def pV:V->List V->Hp->VK->Prop:=λx vs H Q=>∃ l b xs zs,x=.ref l/\vs=[.ref b]/\H l=some (.lst xs)/\H b=some (.lst zs)/\xs.length+zs.length<=sizeLine/\Q .non (upd H l (.lst (xs++zs)))
theorem l6:uP X "list.extend" pV:=by
 intro pins s σ H x vs v us Q I rx rv h
 obtain⟨l,b,xs,zs,rfl,rfl,hH,hB,hz,q⟩:=h
 cases rx
 obtain⟨u,rfl,ru⟩:=rv.one
 cases ru
 obtain⟨z,its,n,r,hl,e⟩:=I.l5 hH
 obtain⟨z2,its2,n2,r2,hl2,e2⟩:=I.l5 hB
 have hsz:its.toArray.size+its2.toArray.size<=sizeLine:=by rw [List.size_toArray,List.size_toArray];omega
 have hlong:¬(!its.toArray.isEmpty && Builtin.List.listTooLong (its.toArray.size+its2.toArray.size))=true:=by
  rw [nk hsz,Bool.and_false]
  exact Bool.false_ne_true
 refine call_meets F.slot_list_extend ⟨_,e,rfl⟩ F.entry_list_extend (F.args_list_extend_2 _ _)
  (AutoSeq1.list_extend_list_list_0 l its.toArray n b its2.toArray n2 hlong (by rw [List.size_toArray];omega) (by omega)) ⟨e,e2,?_⟩
 refine⟨.non,_,I.rO (its':=its++its2) hH e (by simp) (r.append r2) ?_,rfl,q⟩
 rw [List.length_append]
 omega
def vg:V->List V->Hp->VK->Prop:=λx vs H Q=>∃ l xs y,x=.ref l/\vs=[]/\H l=some (.lst xs)/\xs[xs.length-1]?=some y/\Q y (upd H l (.lst xs.dropLast))
theorem rQ:uP X "list.pop" vg:=by
 intro pins s σ H x vs v us Q I rx rv h
 obtain⟨l,xs,y,rfl,rfl,hH,hy,q⟩:=h
 cases rx
 have hus:=rv.zero
 subst hus
 obtain⟨z,its,n,r,hl,e⟩:=I.l5 hH
 obtain⟨u,hu,ru⟩:=r.get hy
 have hy':its.toArray[its.toArray.size-1]?=some u:=by
  show its.toArray[its.length-1]?=some u
  rw [<- Array.getElem?_toList,<- hl]
  exact hu
 refine call_meets F.slot_list_pop ⟨_,e,rfl⟩ F.entry_list_pop (F.args_list_pop_1 _) (MeetsSeq.list_pop_last l its.toArray n u hy' (by rw [List.size_toArray];omega)) ⟨e,?_⟩
 refine⟨y,_,I.rO (its':=its.dropLast) hH e ?_ r.dropLast ?_,ru,q⟩
 ·show its.toArray.eraseIdxIfInBounds (its.toArray.size-1)=its.dropLast.toArray
  rw [List.size_toArray,List.eraseIdxIfInBounds_toArray,kj]
 ·rw [List.length_dropLast]
  omega
def vf:R2:=λx y H Q=>∃ l b xs zs,x=.ref l/\y=.ref b/\H l=some (.lst xs)/\H b=some (.lst zs)/\xs.length+zs.length<=sizeLine/\∀ p,H p=none->Q (.ref p) (upd H p (.lst (xs++zs)))
theorem dP:eO X (binaryOp .Add) vf:=by
 intro pins s σ H x y v u Q I rx ry h
 obtain⟨l,b,xs,zs,rfl,rfl,hH,hB,hz,q⟩:=h
 cases rx
 cases ry
 obtain⟨z,its,n,r,hl,e⟩:=I.l5 hH
 obtain⟨z2,its2,n2,r2,hl2,e2⟩:=I.l5 hB
 refine PySem.P.add_list e e2 ?_ (by rw [List.size_toArray,List.size_toArray];omega)
 have ea:its.toArray++its2.toArray=(its++its2).toArray:=by simp
 rw [ea]
 exact⟨.ref _,_,I.u5 (t':=s.toks) (r.append r2) (by rw [List.length_append];omega),rfl,q _ I.fresh⟩
end
section
variable {prog:Program} {w:World} {A:Around} {E:Value->Shared->Prop} {s:Shared}
end
section
variable {X:Cx}
end
end L2
namespace Att
open PySem PySem.W PySem.Calls PyProof.Rows
theorem fY {P:Params} {h:Heap}:∀(ns:List Int) (vs:List Value),WellAll P h vs (ns.map WData.int)->IntsAre vs ns:=by
 intro ns
 induction ns with
 | nil =>
  intro vs w
  rw [List.map_nil] at w
  cases w
  exact .nil
 | cons n ns ih =>
  intro vs w
  rw [List.map_cons] at w
  cases w with
  | cons a b =>
   cases a
   exact .cons _ _ (ih _ b)
theorem mq {l:OpenLaw} {n:Nat} (hn:l.most=some n) {P:Params} {h:Heap} {args:List WData} {vals:List Value}
  (hpre:l.row.toRowW.claim.pre args=true) (hwl:WellAll P h vals args) :
  ∃ a vs ns,vals=[Value.ref a]/\args=[WData.list (ns.map WData.int)]/\h.get? a=some { cls:=.type "list",data:=.seq vs.toArray }/\IntsAre vs ns/\ns.length<=n:=by
 have hsh:WShape.hasAll [] args [.list .int]=true:=(pre_splitW hpre).1
 have hc:l.pre.holds [] { args:=args }=true:=(pre_splitW hpre).2
 obtain⟨d,r,rfl,h1,h2⟩:=hasAllW_cons hsh
 obtain rfl:=hasAllW_nil h2
 obtain⟨xs,rfl,h3⟩:=hasW_list h1
 obtain⟨ns,rfl⟩:=items_int h3
 have hlen:ns.length<=n:=by
  unfold OpenLaw.pre at hc
  have h4:(WTm.not (.lt (.lit (.int (n:Int))) (.len (.arg 0)))).holds [] { args:=[.list (ns.map .int)] }=true:=by
   have h4:=(holds_andW hc).1
   rw [hn] at h4
   exact h4
  have h5:=condW_of h4 (w_not (w_lt w_lit (w_len_list (w_arg rfl))))
  rw [List.length_map] at h5
  refine Nat.le_of_not_lt λq=>?_
  have q':(n:Int)<((ns.length:Nat):Int):=by omega
  first
   | (rw [decide_eq_true q'] at h5;exact absurd h5 (by decide))
   | (simp at h5;omega)
 cases hwl with
 | cons w1 w2 =>
  cases w2
  cases w1 with
  | list ho hall=>exact⟨_,_,ns,rfl,rfl,ho,fY ns _ hall,hlen⟩
theorem mj (l:OpenLaw) (args:List WData):l.row.toRowW.claim.post args (.bool true) args=true :=
 postW_of (r:=l.row.toRowW) (X:=(true==true))
  (show WShape.has [] (.bool true) .bool=true by first | rfl | decide | simp [WShape.has,WShape.arms,WShape.armsAll])
  (show (WTm.eq .res (.lit (.bool true))).value [] { args:=args,res:=some (.bool true),after:=args }=some (.bool (true==true)) from w_eq_bool (w_res rfl) w_lit) rfl
theorem jz {l:OpenLaw} {n:Nat} {q:Program} {loose:List Str} {XP:(Str->Option Value)->Heap->Prop} {YP:World->Heap->Prop} {d:DefRec}
  (hn:l.most=some n) (hdf:d.params.defaults=[])
  (call:∀(w:World) (s₀ s₁:Shared) (mg mb:Str->Option Value) (fa:Addr) (o:Obj) (pm cd doc:Value) (a:Addr) (vs:List Value) (ns:List Int),
   Ground q loose [] XP w s₀ mg mb s₁.heap->YP w s₁.heap ->
   s₁.heap.get? fa=some o->o.data=.func (docDef d.name d.params d.body d.scope pm cd doc)->s₁.heap.CodeRec cd d.name->mg d.name=some (.ref fa) ->
   s₁.heap.get? a=some { cls:=.type "list",data:=.seq vs.toArray }->IntsAre vs ns->ns.length<=n->s₁.gens=#[] ->
   codeAny (model l.prog w) callerA (.call (.ref fa) ⟨[.ref a],[]⟩) (λr s'=>r=.ok (.ret (.bool true))/\OldK s₁.heap s'.heap/\s'.os=s₁.os/\AllBare s'.gens) s₁) :
  WalkO q loose XP YP l.row.toRowW d [] (λf vs=>PySem.call f vs):=by
 intro w s₀ s₁ mg mb G Y fa o pm cd doc dV kV ho hd hcd hD hmg hg args vals as hpre hlay hrd hwl hlo
 obtain rfl:dV=.none:=Dflts.none hD hdf
 obtain rfl:kV=.none:=Dflts.noKw hD
 obtain⟨a,vs,ns,rfl,rfl,hobj,hints,hlen⟩:=mq hn hpre hwl
 refine enter_call (codeAny_mono (call w s₀ s₁ mg mb fa o pm cd doc a vs ns G Y ho (fd_plain hd) hcd hmg hobj hints hlen hg) λr s' hq=>?_)
 obtain⟨rfl,h2,h3,h4⟩:=hq
 exact⟨.inl ⟨.bool true,.bool true,[],rfl,λ_=>rfl,.bool true,mj l _,λ_=>⟨List.Pairwise.nil,λ_ hm=>(nomatch hm)⟩⟩,h2,h3,h4⟩
section
variable {prog:Program} {w:World} {A:Around} {E:Value->Shared->Prop} {s:Shared} {K:Frag}
end
end Att
namespace L2
open PySem PySem.Spec PyProof.Rows
theorem iM:∀{vs:List Value} {ns:List Int},IntsAre vs ns->Vals (ns.map V.int) vs
 | _,_,.nil=>.nil
 | _,_,.cons n t h=>.cons ⟨t,rfl⟩ (iM h)
def oA (H:Hp):Prop:=∀ b,H b=none∨∃ o xs,H b=some (.frz o (.lst xs))
theorem m8 {P:Program} {w:World} {K:PySem.W.Frag} {mg mb:Str->Option Value} {CX:h7} {k:Nat} {fa a:Addr} {fd:FuncData} {x:Str} {sp:Sp} {s₁:Shared} {vs:List Value} {ns:List Int}
  (KX:K.In s₁.heap) (hns:s₁.heap.Ns mainGlobals mg) (hb:s₁.heap.Ns builtinsNs mb) (hbb:∀ x:Str,x ≠ "__name__"->mb x=bootBuiltins x) (hlim:s₁.heap.NoLimit) (hg:s₁.gens=#[])
  (ha:s₁.heap.get? a=some { cls:=.type "list",data:=.seq vs.toArray }) (hi:IntsAre vs ns) (hl:ns.length<=sizeLine) (hr:bX k callerA)
  (F:∀ base:Heap,K.In base->base.Ns mainGlobals mg->cj P w K mg base CX k fa fd [x] sp) (hbind:∀(s:Shared) (u:Value),BindsTo s fd ⟨[u],[]⟩ [(x,u)])
  (hsp:∀ H:Hp,oA H->bf K H a (ns.map V.int)->sp [.ref a] H (λv _=>v=.bl true) λ_ _ _=>False)
  (hCX:∀ H e s',CX [] H s₁ (λ_ _ _=>False) e s'->False) :
  codeAny (model P w) callerA (.call (.ref fa) ⟨[.ref a],[]⟩) (λr s'=>r=.ok (.ret (.bool true))/\OldK s₁.heap s'.heap/\s'.os=s₁.os/\AllBare s'.gens) s₁:=by
 have rv:=iM hi
 have lenV:=hi.length
 -- from an abstract heap in which nothing but the script may be tracked
 have core:∀ H:Hp,oA H->bf K H a (ns.map V.int)->ff P w H s₁.heap->(∀ b,H b≠none->b=a)->(H a≠none->K.lookup a=none) ->
   codeAny (model P w) callerA (.call (.ref fa) ⟨[.ref a],[]⟩) (λr s'=>r=.ok (.ret (.bool true))/\OldK s₁.heap s'.heap/\s'.os=s₁.os/\AllBare s'.gens) s₁:=by
  intro H hO hS hok hA hK
  have base_of:∀{b:Addr} {o:Obj},s₁.heap.get? b=some o->H b=none->(iX s₁.heap H).get? b=some o:=λe n=>m6 e n
  have noA:∀{b:Addr} {o:Obj} {es:Array DictEntry} {ep:Nat},s₁.heap.get? b=some o->o.data=.dict es ep->H b=none:=λ{b o es ep} e d=>by
   cases q:H b with
   | none=>rfl
   | some u =>
    have e':b=a:=hA b (by rw [q];simp)
    subst e'
    rw [ha] at e;cases e
    have d':Data.seq vs.toArray _=Data.dict es ep:=d
    cases d'
  have nsK:∀{b:Addr} {m:Str->Option Value},s₁.heap.Ns b m->(iX s₁.heap H).Ns b m:=λ{b m} ⟨o,es,ep,e,d,r⟩=>⟨o,es,ep,base_of e (noA e d),d,r⟩
  have hKb:K.In (iX s₁.heap H):=λb o e=>base_of (KX b o e) (by
   cases q:H b with
   | none=>rfl
   | some u =>
    have e':b=a:=hA b (by rw [q];simp)
    subst e'
    rw [hK (by rw [q];simp)] at e;cases e)
  have hM:Mod K mg (iX s₁.heap H):=⟨hKb,nsK hns,⟨mb,nsK hb,hbb⟩,let ⟨mc,h1,h2⟩:=hlim;⟨mc,nsK h1,h2⟩⟩
  have e0:j3 P w K mg (iX s₁.heap H) callerA [] s₁ H:=⟨rfl,hM,λb o e=>pC e,Nat.le_of_eq (lV _ _),trivial,λb hb=>absurd (show b∈([]:List Addr) from hb) (by simp),hok,.of_eq hg⟩
  refine codeAny_mono ((F _ hKb (nsK hns)).run callerA [] s₁ H ⟨[.ref a],[]⟩ [.ref a] [.ref a] _ _ hr e0 (hbind s₁ (.ref a)) (.cons rfl .nil) (hsp H hO hS)) λr s' h=>?_
  cases r with
  | error e=>exact (hCX H e s' h).elim
  | ok fl =>
   cases fl with
   | next=>exact False.elim h
   | brk=>exact False.elim h
   | cont=>exact False.elim h
   | ret u =>
    obtain⟨v,H',os,bare,un,hok',r',q⟩:=h
    have q':v=.bl true:=q
    subst q'
    obtain rfl:u=Value.bool true:=r'
    refine⟨rfl,OldK.of_keep λb o e=>?_,os,bare⟩
    cases q:H b with
    | none=>exact un.keep b o e q (by intro z;exact absurd (show b∈([]:List Addr) from z) (by simp)) (by simp)
    | some u =>
     rcases hO b with z | ⟨ob,xs,z⟩
     ·rw [q] at z;cases z
     ·have z2:=un.frzs b ob _ z
      obtain⟨e1,_⟩:=hok b _ z
      obtain⟨e2,_⟩:=hok' b _ z2
      rw [e] at e1;cases e1
      exact e2
 cases hk:K.lookup a with
 | some o =>
  -- the script is one of the module's own objects
  have e:=KX a o hk
  rw [ha] at e
  cases e
  refine core (λ_=>none) (λ_=>.inl rfl) (.inr ⟨_,vs.toArray,_,hk,rfl,rfl,rfl,by rw [List.size_toArray,lenV];exact hl,by simpa using rv⟩) (λb u z=>by have z':(none:Option HO)=some u:=z;cases z') (λb z=>absurd rfl z) λz=>absurd rfl z
 | none =>
  refine core (λb=>if b=a then some (.frz { cls:=.type "list",data:=.seq vs.toArray } (.lst (ns.map V.int))) else none) (λb=>?_) (.inl (.inr ⟨{ cls:=.type "list",data:=.seq vs.toArray },if_pos rfl⟩)) (λb u z=>?_) (λb z=>?_) λ_=>hk
  ·by_cases hb:b=a
   ·exact .inr ⟨_,_,if_pos hb⟩
   ·exact .inl (if_neg hb)
  ·by_cases hb:b=a
   ·have z':=(if_pos hb).symm.trans z
    cases z'
    subst hb
    exact⟨ha,by rw [List.length_map];exact hl,vs,_,rv,ha⟩
   ·have z':=(if_neg hb).symm.trans z
    cases z'
  ·by_cases hb:b=a
   ·exact hb
   ·exact absurd (if_neg hb) z
abbrev ef {K:PySem.W.Frag} {h:Heap} (_:K.In h):PySem.W.Frag:=K
theorem lO {l:PySem.W.OpenLaw} {n k:Nat} {q:Program} {loose:List Str} {XP:(Str->Option Value)->Heap->Prop} {YP:World->Heap->Prop} {d:DefRec} {K:Params->PySem.W.Frag} {CX:World->h7} {sp:World->Sp} {x:Str}
  (hn:l.most=some n) (hn2:n<=sizeLine) (hdf:d.params.defaults=[]) (hr:bX k callerA)
  (hY:∀(w:World) (h:Heap),YP w h->(K w.params).In h)
  (F:∀(w:World) (mg:Str->Option Value) (fa:Addr) (h:Heap),(K w.params).In h->h.Ns mainGlobals mg->mg d.name=some (.ref fa) ->
   ∃ fd:FuncData,(∀(s:Shared) (u:Value),BindsTo s fd ⟨[u],[]⟩ [(x,u)]) /\
    ∀ base:Heap,(K w.params).In base->base.Ns mainGlobals mg->cj l.prog w (K w.params) mg base (CX w) k fa fd [x] (sp w))
  (hsp:∀(w:World) (H:Hp) (a:Addr) (ns:List Int),ns.length<=n->oA H->bf (K w.params) H a (ns.map V.int)->sp w [.ref a] H (λv _=>v=.bl true) λ_ _ _=>False)
  (hCX:∀(w:World) (H:Hp) (s:Shared) (e:Value) (s':Shared),CX w [] H s (λ_ _ _=>False) e s'->False) :
  PySem.W.WalkO q loose XP YP l.row.toRowW d [] (λf vs=>PySem.call f vs):=by
 refine Att.jz hn hdf λw s₀ s₁ mg mb fa o pm cd doc a vs ns G Y ho hd hcd hmg hobj hints hlen hg=>?_
 have KX:=hY w _ Y
 obtain⟨fd,hb,hF⟩:=F w mg fa _ KX G.T.g hmg
 exact m8 KX G.T.g G.T.b G.T.builtins G.T.nolimit hg hobj hints (Nat.le_trans hlen hn2) hr hF hb (λH hO hS=>hsp w H a ns hlen hO hS) λH e s'=>hCX w H s₁ e s'
theorem ot {l:PySem.W.OpenLaw} {n k:Nat} {q:Program} {loose:List Str} {XP:(Str->Option Value)->Heap->Prop} {YP:World->Heap->Prop} {d:DefRec} {K:Params->PySem.W.Frag} {CX:h7} {sp:PySem.W.Frag->Sp} {x:Str}
  (hn:l.most=some n) (hn2:n<=sizeLine) (hdf:d.params.defaults=[]) (hr:bX k callerA)
  (hY:∀(w:World) (h:Heap),YP w h->(K w.params).In h)
  (F:∀(w:World) (mg:Str->Option Value) (fa:Addr) (h:Heap),(K w.params).In h->h.Ns mainGlobals mg->mg d.name=some (.ref fa) ->
   ∃ fd:FuncData,(∀(s:Shared) (u:Value),BindsTo s fd ⟨[u],[]⟩ [(x,u)]) /\
    ∀ base:Heap,(K w.params).In base->base.Ns mainGlobals mg->cj l.prog w (K w.params) mg base CX k fa fd [x] (sp (K w.params)))
  (hsp:∀(K:PySem.W.Frag) (H:Hp) (a:Addr) (ns:List Int),ns.length<=n->oA H->bf K H a (ns.map V.int)->sp K [.ref a] H (λv _=>v=.bl true) λ_ _ _=>False)
  (hCX:∀(H:Hp) (s:Shared) (e:Value) (s':Shared),CX [] H s (λ_ _ _=>False) e s'->False) :
  PySem.W.WalkO q loose XP YP l.row.toRowW d [] (λf vs=>PySem.call f vs) :=
 lO (K:=K) (CX:=λ_=>CX) (sp:=λw=>sp (K w.params)) hn hn2 hdf hr hY F (λw H a ns h1 h2 h3=>hsp (K w.params) H a ns h1 h2 h3) λ_ H s e s'=>hCX H s e s'
end L2
/- THE LAST THEOREM (shape;LID,My.* are yours):
   My.Adr: a structure of the addresses that your layer names (classes,functions);My.Txt K t: a structure (Prop) of the equations over K;
   My.txt_mk:{K} {implicit addresses ..} (e1:nsIn K mainGlobals "law"=some (some (.ref f))) (e2:K.lookup f=some ⟨oc,od,.func (fnOf "law" "law" params body scope dV kV doc pm an cdv ct),sl⟩) (e3:codeIn K cdv "law"=true) ..:∃ t,My.Txt K t
set_option maxRecDepth 100000 in
set_option maxHeartbeats 0 in
theorem PySem.Challenge.cw_LID_holds : PySem.Challenge.rw_LID.Holds := by
 w_on;o_law;k_head;(case hw=>w_witness2)
 k_fill
 refine L2.lO (l:=PySem.Challenge.rw_LID) (n:=63) (k:=40) (x := "script") (CX:=λw=>..) (sp:=λ_=>My.sp_law) rfl (by decide) rfl ⟨rfl,by decide,by decide⟩ (λw h Y=>PySem.W.kIn_of Y) ?F ?S ?C
 case F =>
  intro w mg fa h KX G hmg
  have T:∃ t,My.Txt (L2.ef KX) t:=by
   dsimp only [L2.ef]                          -- K must stand as «<heap const> w.params» for k_is
   refine' My.txt_mk ?e1 ?e2 ?e3 ..
   (case e1=>PySem.W.k_is)                    -- in the order: a name -> its address -> its object -> its parts
   (case e2=>PySem.W.k_is)
   ..
  obtain⟨t,T⟩:=T
  have e0:=hmg.symm.trans (PySem.W.mg_of KX G T.law)
  cases e0                                       -- fa is the law's own address
  exact⟨_,λs u=>.of_eq rfl,λbase kb nb=>My.law_fn T kb nb⟩     -- if «.of_eq rfl» comes too early: refine' ⟨_,?b,λbase kb nb=>My.law_fn T kb nb⟩;exact λs u=>.of_eq rfl
 case S=>exact λw H a ns hl hO hS=>..
 case C=>exact ..
(the tactic k_is has no namespace: write k_is) -/
namespace L2
open PySem PySem.Spec PyProof.Rows
def inClass (s:Stmt) (j:Nat):Stmt:=match s with
 | .ClassDef _ _ _ body _ _ _ _ _ _ _=>body.getD j (.Pass ⟨0,0,0,0⟩)
 | _=>.Pass ⟨0,0,0,0⟩
def bG (s:Stmt):Arguments:=match s with
 | .FunctionDef _ a _ _ _ _ _ _ _ _=>a
 | _=>{ posonlyargs:=[],args:=[],vararg:=none,kwonlyargs:=[],kw_defaults:=[],kwarg:=none,defaults:=[] }
def aV (s:Stmt):List Stmt:=match s with
 | .FunctionDef _ _ b _ _ _ _ _ _ _=>b
 | _=>[]
def ao (s:Stmt):Scope:=match s with
 | .FunctionDef _ _ _ _ _ _ sc _ _ _=>sc
 | _=>{ kind:=.function,names:=[],isGenerator:=false,isCoroutine:=false }
abbrev bc:h7:=λ_ _ _ _ _ _=>False
abbrev E0:XK:=λ_ _ _=>False
theorem aM {X:Cx}:Passes bc X E0:=λ_ _ _ _ _ _ _ h=>h.elim
structure ou (K:PySem.W.Frag) (x qual:Str) (st:Stmt) (f:Addr) (fd:FuncData):Prop where
 ex:∃(oc:Value) (od:Option Addr) (kV doc pm:Value) (an:Option Addr) (cdv ct:Value) (osl:Array (Option Value)),
  fd=PySem.W.fnOf x qual (bG st) (aV st) (ao st) .none kV doc pm an cdv ct/\K.lookup f=some ⟨oc,od,.func fd,osl⟩/\PySem.W.codeIn K cdv qual=true
 kp:PySem.W.keepIn K (.ref f)=true
section
variable {P:Program} {w:World} {K:PySem.W.Frag} {mg:Str->Option Value} {base:Heap}
theorem ou.ok {x qual:Str} {st:Stmt} {f:Addr} {fd:FuncData} {N ps:List Str} {k:Nat} {sp:Sp} (F:ou K x qual st f fd) (S:az N ps (ao st)) (len:∀ vs H Q E,sp vs H Q E->vs.length=ps.length)
  (hbody:∀(cdv:Value) (A:Around) (outer:List Env) (s:Shared) (H:Hp) (vs:List V) (Q:VK) (E:XK),bX k (A.deeper (envOfC qual (ao st) s.heap.objs.size f cdv))->sp vs H Q E ->
   ∃ t,gh (dk bc P w K mg base N qual (ao st) f cdv A outer s H E).j2 (aV st) t/\t { nx:=λ_ H'=>Q .non H',rt:=Q } (start N vs) H):cj P w K mg base bc (k+1) f fd ps sp:=by
 obtain⟨oc,od,kV,doc,pm,an,cdv,ct,osl,rfl,lk,hcd⟩:=F.ex
 refine qp lk hcd S len λA outer s H vs Q E hr hsp=>?_
 obtain⟨t,h,q⟩:=hbody cdv A outer s H vs Q E hr hsp
 exact⟨t,h.j2,q⟩
theorem ou.binds {x qual:Str} {st:Stmt} {f:Addr} {fd:FuncData} {ps:List Str} (F:ou K x qual st f fd)
  (h:∀(kV doc pm:Value) (an:Option Addr) (cdv ct:Value) (us:List Value),us.length=ps.length->bindArgs (PySem.W.fnOf x qual (bG st) (aV st) (ao st) .none kV doc pm an cdv ct) ⟨us,[]⟩=pure (ps.zip us)):Binds K fd ps []:=by
 obtain⟨oc,od,kV,doc,pm,an,cdv,ct,osl,rfl,lk,hcd⟩:=F.ex
 exact .all (h kV doc pm an cdv ct)
theorem mX {x qual:Str} {st:Stmt} {f:Addr} {oc:Value} {od an:Option Addr} {osl:Array (Option Value)} {kV doc pm cdv ct:Value} (l:K.lookup f=some ⟨oc,od,.func (PySem.W.fnOf x qual (bG st) (aV st) (ao st) .none kV doc pm an cdv ct),osl⟩)
  (c:PySem.W.codeIn K cdv qual=true) (k:PySem.W.keepIn K (.ref f)=true):ou K x qual st f (PySem.W.fnOf x qual (bG st) (aV st) (ao st) .none kV doc pm an cdv ct):=⟨⟨oc,od,kV,doc,pm,an,cdv,ct,osl,rfl,l,c⟩,k⟩
end
theorem mr {n:Nat} (h:n<=1000):n<sizeLine:=Nat.lt_of_le_of_lt h (by decide)
section
variable {X:Cx}
theorem pv (i:Nat) {x:Str} {pos:Pos} (hN:X.N[i]?=some x:=by rfl) (hv:sE X.env.scope x:=by first | exact Or.inl rfl | exact Or.inr (Or.inl rfl) | exact Or.inr (Or.inr rfl)) (hd:(x==("__debug__":Str))=false:=by decide)
  (hcd:(x==("__classdict__":Str))=false:=by decide):PE X (.Name x pos) (mw i):=kG hN hv hd hcd
end
theorem aH {c A B:Prop} [Decidable c] (h1:c->A) (h2:¬c->B):if c then A else B:=by
 by_cases h:c
 ·rw [if_pos h]
  exact h1 h
 ·rw [if_neg h]
  exact h2 h
def au (H H':Hp):Prop:=∀ b o,H b=some o->H' b=some o
theorem au.refl (H:Hp):au H H:=λ_ _ h=>h
theorem au.trans {H H1 H2:Hp} (a:au H H1) (b:au H1 H2):au H H2:=λc o h=>b c o (a c o h)
theorem au.free {H H':Hp} (e:au H H') {l:Addr} (h:H' l=Option.none):H l=Option.none:=by
 cases q:H l with
 | none=>rfl
 | some o =>
  rw [e l o q] at h
  cases h
theorem au.seq {K:PySem.W.Frag} {H H':Hp} {a:Addr} {xs:List V} (e:au H H') (h:bf K H a xs):bf K H' a xs:=by
 rcases h with (h | ⟨o,h⟩) | h
 ·exact .inl (.inl (e _ _ h))
 ·exact .inl (.inr ⟨o,e _ _ h⟩)
 ·exact .inr h
end L2
set_option maxHeartbeats 1000000
namespace L2
open PySem PySem.Spec PyProof.Rows
theorem iU {Ex:Value->Shared->Prop} {prog:Program} {w:World} {A:Around} {R:Result->Shared->Prop} {s:Shared} {elt target:Expr} {gens:List Comprehension} {scope:Scope} {pos ps:Pos} {ifs:List Expr} {d:Nat} {B:Sem Unit} {it acc:Value} {env:Env} (I:Nat->Shared->Prop)
  (ht:compTurn (.ListComp elt gens scope pos) d it acc env=(do
   standAt ps
   match <- pyNext it with
   | none=>pure (.done .next)
   | some v =>
    letOwnedTupleGo target it v
    assign target env v
    let mut ok:=true
    for c in ifs do
     if ok then ok <- isTrue c env (eval c env)
    if ok then B
    again (.compLoop (.ListComp elt gens scope pos) d it acc env)))
  (turn:∀ n s,I n s->wpAny (model prog w) A (pyNext it) (λr s₁=>match r with
   | none=>R (.ok .next) s₁
   | some v=>wpAny (model prog w) A (letOwnedTupleGo target it v) (λ_ s₁'=>wpAny (model prog w) A (assign target env v) (λ_ s₂ =>
     wpAny (model prog w) A (forIn ifs true λc r=>if r=true then do let ok <- isTrue c env (eval c env);pure (ForInStep.yield ok) else pure (ForInStep.yield r)) (λok s₃ =>
      if ok=true then wpAny (model prog w) A B (λ_ s₅=>∃ m,m<n/\I m s₅) Ex s₃
      else ∃ m,m<n/\I m s₃) Ex s₂) Ex s₁') Ex s₁) Ex s)
  (n:Nat) (h:I n s) (hE:∀ e s',Ex e s'->notedBy (model prog w) A env (λe s''=>R (.error e) s'') e s') :
  codeAny (model prog w) A (.compLoop (.ListComp elt gens scope pos) d it acc env) R s:=by
 refine codeAny_loop rfl I (λn s hI=>?_) n h
 show wpAny _ A ((compTurn (.ListComp elt gens scope pos) d it acc env).onRaise (λx=>do noteFrame x env;theTreesLotGoes x)) _ _ s
 refine wpAny_noted ?_
 rw [ht]
 refine wpAny_bind (wpAny_standAt (wpAny_bind (wpAny_mono (turn n s hI) (λr s₁ h₁=>?_) λ_ _ h'=>hE _ _ h')))
 cases r with
 | none=>exact wpAny_pure h₁
 | some v =>
  refine wpAny_bind (wpAny_mono h₁ (λ_ s₁' h₁'=>?_) λ_ _ h'=>hE _ _ h')
  refine wpAny_bind (wpAny_mono h₁' (λ_ s₂ h₂=>wpAny_bind (wpAny_mono h₂ (λok s₃ h₃=>?_) λ_ _ h'=>hE _ _ h')) λ_ _ h'=>hE _ _ h')
  cases ok with
  | false=>exact wpAny_pure ⟨rfl,h₃⟩
  | true=>exact wpAny_bind (wpAny_mono h₃ (λ_ s₅ h₅=>wpAny_pure ⟨rfl,h₅⟩) λ_ _ h'=>hE _ _ h')
def kY (elt:Expr) (acc:Value) (env:Env):Sem Unit:=do let _ <- call (.builtin "list.append") [acc,<- eval elt env]
theorem oo (elt target iter:Expr) (ifs:List Expr) (scope:Scope) (pos:Pos) (it acc:Value) (env:Env) :
  compTurn (.ListComp elt [⟨target,iter,ifs,0⟩] scope pos) 0 it acc env=(do
   standAt iter.pos
   match <- pyNext it with
   | none=>pure (.done .next)
   | some v =>
    letOwnedTupleGo target it v
    assign target env v
    let mut ok:=true
    for c in ifs do
     if ok then ok <- isTrue c env (eval c env)
    if ok then kY elt acc env
    again (.compLoop (.ListComp elt [⟨target,iter,ifs,0⟩] scope pos) 0 it acc env)):=by rfl
def bQ (X:Cx) (Ex:Value->Shared->Prop) (N':List Str) (scope:Scope) (cl:List (Str × Addr)) (C:Addr) (s₂:Shared) (H₂:Hp) (fp:List Addr):Cx :=
 { X with N:=N',s₀:=s₂,H₀:=H₂,env:=compEnvC scope (cellsFrom (C+1) scope.names cl) C X.env,outer:=X.stack,stack:=X.stack,ex:=fp,fn:=λx=>scope.names.lookup x==some .cell,pn:=[],xe:=Ex }
abbrev iT (X:Cx):=bQ X λ_ _=>False
def AllIn (env:Env):List (Str × Addr)->Prop
 | []=>True
 | p::r=>env.cells.lookup p.1=some p.2/\AllIn env r
theorem AllIn.get {env:Env}:∀{l:List (Str × Addr)},AllIn env l->∀ y c,l.lookup y=some c->env.cells.lookup y=some c
 | [],_,_,_,h=>by simp at h
 | (z,d)::r,a,y,c,h=>by
  rw [List.lookup_cons] at h
  cases e:y==z with
  | true =>
   rw [e] at h
   have q:y=z:=by simpa using e
   subst q
   cases h
   exact a.1
  | false =>
   rw [e] at h
   exact AllIn.get a.2 y c h
def du (js:List (Option Nat)) (σ:St):St:=js.map λo=>match o with | none=>none | some j=>(σ[j]?).join
structure gg (X:Cx) (N':List Str) (js:List (Option Nat)) (scope:Scope) (cl:List (Str × Addr)):Prop where
 clos:closureFor scope X.env=pure cl
 kind:scope.kind=.function
 nocell:∀ y∈scope.names,y.2=.cell->scope.names.lookup y.1=some .cell/\∀ p∈js.zip N',p.1.isSome=true->p.2≠y.1
 names:∀ y∈scope.names,y.2=.local->scope.names.lookup y.1=some .local
 sub:AllIn X.env cl
 has:∀ y∈scope.names,y.2=.free->(cl.lookup y.1).isSome=true
 jlen:js.length=N'.length
 jok:∀(i j:Nat) x,js[i]?=some (some j)->N'[i]?=some x->X.N[j]?=some x/\(cl.lookup x).isSome=true/\sE X.env.scope x/\X.env.kindOf x≠some .local/\((relabel scope X.env).names.lookup x=some .cell∨(relabel scope X.env).names.lookup x=some .free)
theorem fQ {scope:Scope} {env:Env} {x:Str} {k:NameKind} (h:(relabel scope env).names.lookup x=some k) (hk:k=.cell∨k=.free):∃ y∈scope.names,y.1=x/\(y.2=.free∨y.2=.cell):=by
 have hm:=PySem.mem_of_lookup h
 obtain⟨⟨n,q⟩,hm',e⟩:=List.mem_map.mp hm
 dsimp only at e
 split at e
 ·rename_i hc
  have e1:n=x:=congrArg Prod.fst e
  refine⟨(n,q),hm',e1,.inl ?_⟩
  have:(q==NameKind.free)=true:=by
   simp only [Bool.and_eq_true] at hc
   exact hc.1.1
  simpa using this
 ·have e1:n=x:=congrArg Prod.fst e
  have e2:q=k:=congrArg Prod.snd e
  refine⟨(n,q),hm',e1,?_⟩
  rcases hk with hk | hk
  ·exact .inr (e2.trans hk)
  ·exact .inl (e2.trans hk)
theorem fk {x:Str} {c:Addr}:∀(ns:List (Str × NameKind)) (n:Nat) (acc:List (Str × Addr)),(cellsFrom n ns acc).lookup x=some c->acc.lookup x=some c∨n<=c
 | [],_,_,h=>.inl h
 | (y,k)::r,n,acc,h=>by
  unfold cellsFrom at h
  split at h
  ·rcases fk r _ _ h with z | z
   ·rw [List.lookup_cons] at z
    split at z
    ·cases z;exact .inr (Nat.le_refl _)
    ·exact .inl z
   ·exact .inr (Nat.le_of_succ_le z)
  ·exact fk r _ _ h
theorem kf {x:Str} {c:Addr}:∀(ns:List (Str × NameKind)) (n:Nat) (acc:List (Str × Addr)),ns.lookup x=some .cell->(cellsFrom n ns acc).lookup x=some c->n<=c
 | [],_,_,h,_=>by cases h
 | (y,k)::r,n,acc,h,e=>by
  rw [List.lookup_cons] at h
  unfold cellsFrom at e
  split at h
  ·rename_i hy
   cases h
   rcases fk r _ _ e with z | z
   ·rw [List.lookup_cons,hy] at z
    cases z;exact Nat.le_refl _
   ·exact Nat.le_of_succ_le z
  ·split at e
   ·exact Nat.le_of_succ_le (kf r _ _ h e)
   ·exact kf r _ _ h e
theorem iS {x:Str}:∀(ns:List (Str × NameKind)) (n:Nat) (acc:List (Str × Addr)),(∀ y∈ns,y.2=.cell->x≠y.1)->(cellsFrom n ns acc).lookup x=acc.lookup x
 | [],_,_,_=>rfl
 | (y,k)::r,n,acc,h=>by
  unfold cellsFrom
  split
  ·rename_i hk
   rw [iS r _ _ λz hz=>h z (List.mem_cons_of_mem _ hz),List.lookup_cons]
   have:(x==y)=false:=by simpa using h (y,k) List.mem_cons_self (by simpa using hk)
   rw [this]
  ·exact iS r _ _ λz hz=>h z (List.mem_cons_of_mem _ hz)
theorem ke:∀(ns:List (Str × NameKind)) (n:Nat) (acc:List (Str × Addr)),(∀ x c,acc.lookup x=some c->c<n)->(∀ x y c,acc.lookup x=some c->acc.lookup y=some c->x=y) ->
  ∀ x y c,(cellsFrom n ns acc).lookup x=some c->(cellsFrom n ns acc).lookup y=some c->x=y
 | [],_,_,_,h=>h
 | (z,k)::r,n,acc,hl,hi=>by
  unfold cellsFrom
  split
  ·refine ke r _ _ (λx c e=>?_) λx y c e1 e2=>?_
   ·rw [List.lookup_cons] at e
    split at e
    ·cases e;exact Nat.lt_succ_self _
    ·exact Nat.lt_succ_of_lt (hl x c e)
   ·rw [List.lookup_cons] at e1 e2
    split at e1<;>split at e2
    ·rename_i a _ b
     rw [eq_of_beq a,eq_of_beq b]
    ·cases e1;exact absurd (hl y _ e2) (Nat.lt_irrefl _)
    ·cases e2;exact absurd (hl x _ e1) (Nat.lt_irrefl _)
    ·exact hi x y c e1 e2
  ·exact ke r _ _ hl hi
theorem iR:∀(ns:List (Str × NameKind)) (h:Heap) (acc:List (Str × Addr)),(∀ x c,acc.lookup x=some c->∃ v,h.IsCell c v)->∀ x c,(cellsFrom h.objs.size ns acc).lookup x=some c->∃ v,(pushCells h ns).IsCell c v
 | [],_,_,h=>h
 | (z,k)::r,h,acc,hl=>by
  unfold cellsFrom pushCells
  split
  ·have:=iR r (h.push { cls:=.type "cell",data:=.cell none }) ((z,h.objs.size)::acc) λx c e=>by
    rw [List.lookup_cons] at e
    split at e
    ·cases e;exact⟨none,_,Heap.get?_push_size _ rfl,rfl⟩
    ·obtain⟨v,q⟩:=hl x c e
     exact⟨v,q.keeps λb o e=>Heap.get?_push_of_some _ e⟩
   rwa [Heap.size_push] at this
  ·exact iR r h acc hl
theorem ik {M:Model} {A:Around} {E:Value->Shared->Prop} {s:Shared} {scope:Scope} {g:Addr} {cl:List (Str × Addr)} {qual:Str} {env:Env} {Q:Env->Shared->Prop}
  (h:Q (newEnv scope s.heap.objs.size g (cellsFrom (s.heap.objs.size+1) scope.names cl) qual none .none (some env) builtinsNs) { s with heap:=pushCells (s.heap.push { cls:=.type "dict",data:=.dict #[] }) scope.names }) :
  wpAny M A (newFunctionEnv scope g cl [] qual none .none (some env)) Q E s:=by
 simp only [newFunctionEnv,Option.isSome_some,if_true]
 refine wpAny_bind (wpAny_alloc ?_)
 refine wpAny_bind (wpAny_layCells _ (λname kind cells=>by cases hkc:kind==NameKind.cell<;>simp [hkc]) _ _ _ _ ?_)
 rw [show ({ s with heap:=s.heap.push { cls:=.type "dict",data:=.dict #[] } }:Shared).heap.objs.size=s.heap.objs.size+1 from Heap.size_push ..]
 exact wpAny_bind (wpAny_pure (wpAny_pure h))
def lobj (ys:List Value):Obj:={ cls:=.type "list",data:=.seq ys.toArray ys.length }
def mJ (X:Cx) (ifs:List Expr) (t:TT):Prop :=
 ∀(pins:List (Addr × Obj)) (s:Shared) (σ:St) (H:Hp) (Q:Bool->Hp->Prop),Inv X pins σ H s->t σ H Q ->
  wpAny (model X.prog X.w) X.A (forIn ifs true λc r=>if r=true then do let ok <- isTrue c X.env (eval c X.env);pure (ForInStep.yield ok) else pure (ForInStep.yield r)) (TP X pins σ Q) X.xe s
def qQ:TT:=λ_ H Q=>Q true H
theorem cw {X:Cx}:mJ X [] qQ:=λpins s σ H Q I h=>wpAny_tests_nil ⟨H,I,h⟩
theorem nO {X:Cx} {c:Expr} {t:TT} (h:PT X c t):mJ X [c] t:=λpins s σ H Q I q=>wpAny_tests_one (h pins s σ H Q I q)
def bJ:List (Option V)->List (Option V)->Prop
 | [],[]=>True
 | none::r,_::r'=>bJ r r'
 | some v::r,some u::r'=>u=v/\bJ r r'
 | _,_=>False
theorem bJ.len:∀{a b:List (Option V)},bJ a b->a.length=b.length
 | [],[],_=>rfl
 | none::r,_::r',h=>by simp [bJ.len (a:=r) (b:=r') h]
 | some v::r,some u::r',h=>by simp [bJ.len (a:=r) (b:=r') h.2]
 | some v::r,none::r',h=>h.elim
 | some v::r,[],h=>h.elim
 | none::r,[],h=>h.elim
 | [],_::_,h=>h.elim
theorem bJ.get:∀{a b:List (Option V)},bJ a b->∀(i:Nat) v,a[i]?=some (some v)->b[i]?=some (some v)
 | [],[],_,i,v,h=>by simp at h
 | none::r,_::r',h,0,v,e=>by simp at e
 | none::r,_::r',h,i+1,v,e=>by
  have:=bJ.get (a:=r) (b:=r') h i v (by simpa using e)
  simpa using this
 | some v::r,some u::r',h,0,v',e=>by
  have q:v=v':=by simpa using e
  have:=h.1
  simp [this,q]
 | some v::r,some u::r',h,i+1,v',e=>by
  have:=bJ.get (a:=r) (b:=r') h.2 i v' (by simpa using e)
  simpa using this
 | some v::r,none::r',h,_,_,_=>h.elim
 | some v::r,[],h,_,_,_=>h.elim
 | none::r,[],h,_,_,_=>h.elim
 | [],_::_,h,_,_,_=>h.elim
def vK (js:List (Option Nat)) (wi:TI) (g:TG) (tt:TT) (te:TE):TE:=λσ H Q=>wi σ H λJ H1=>∃ W:Nat->Nat->List V->Hp->Prop,(∃ m,W 0 m [] H1)/\∀ i m ys H,W i m ys H ->
 (J.stop i H/\ys.length<=sizeLine/\∀ p,H p=none->Q (.ref p) (upd H p (.lst ys))) ∨
 (J.go i H/\ys.length<sizeLine/\∃ N:List V->Hp->Prop,(∀ ys' H',N ys' H'->∃ m',m'<m/\W (i+1) m' ys' H') /\
  ∀ x H',J.yld i H x H'->g x (du js σ) H' λσ2 H2=>bJ (du js σ) σ2/\tt σ2 H2 λb H3=>if b=true then te σ2 H3 λv H4=>N (ys++[v]) H4 else N ys H3)
structure j5 (X:Cx) (C:Addr) (s₂:Shared) (H₂:Hp) (fp:List Addr):Prop where
 inv:∃ pins σ,Inv X pins σ H₂ s₂
 new:∀ b∈fp,X.s₀.heap.objs.size<=b∨b∈X.ex
 nof:∀ b∈eK X.stack,b∉fp
 le:s₂.heap.objs.size<=C
def qY (X:Cx) (elt target:Expr) (gens:List Comprehension) (ifs:List Expr) (scope:Scope) (pos:Pos) (Bd:(Value->Shared->Prop)->Value->Env->(Shared->Prop)->Shared->Prop):Prop :=
 ∀(Ex:Value->Shared->Prop) (R:Result->Shared->Prop) (s:Shared) (it acc:Value) (env:Env) (I:Nat->Shared->Prop),
  (∀ n s,I n s->wpAny (model X.prog X.w) X.A (pyNext it) (λr s₁=>match r with
   | none=>R (.ok .next) s₁
   | some v=>wpAny (model X.prog X.w) X.A (letOwnedTupleGo target it v) (λ_ s₁'=>wpAny (model X.prog X.w) X.A (assign target env v) (λ_ s₂ =>
     wpAny (model X.prog X.w) X.A (forIn ifs true λc r=>if r=true then do let ok <- isTrue c env (eval c env);pure (ForInStep.yield ok) else pure (ForInStep.yield r)) (λok s₃ =>
      if ok=true then Bd Ex acc env (λs₅=>∃ m,m<n/\I m s₅) s₃ else ∃ m,m<n/\I m s₃) Ex s₂) Ex s₁') Ex s₁) Ex s) ->
  ∀ n,I n s->(∀ e s',Ex e s'->notedBy (model X.prog X.w) X.A env (λe s''=>R (.error e) s'') e s')->codeAny (model X.prog X.w) X.A (.compLoop (.ListComp elt gens scope pos) 0 it acc env) R s
structure kU (Y:Cx) (D:Addr) (P:List (Addr × Obj)):Prop where
 ne:∀ p∈P,p.1≠D
 new:Y.s₀.heap.objs.size<=D
 cell:∀ x c,Y.env.cells.lookup x=some c->c≠D
theorem rN {X:Cx} {Ex:Addr->Shared->Hp->List Addr->Value->Shared->Prop} {elt target iter:Expr} {rest:List Comprehension} {ifs:List Expr} {scope:Scope} {pos:Pos} {N':List Str} {js:List (Option Nat)} {cl:List (Str × Addr)} {g:TG} {tt:TT} {Cc:List V->Prop} {tb:List V->St->Hp->(List V->Hp->Prop)->Prop} {Bd:(Value->Shared->Prop)->Value->Env->(Shared->Prop)->Shared->Prop} (hcalm:X.calm=true) (hloop:qY X elt target (⟨target,iter,ifs,0⟩::rest) ifs scope pos Bd)
  (K:gg X N' js scope cl)
  (hg:∀ C s₂ H₂ fp,j5 X C s₂ H₂ fp->PG (bQ X (Ex C s₂ H₂ fp) N' scope cl C s₂ H₂ fp) target g) (ht:∀ C s₂ H₂ fp,j5 X C s₂ H₂ fp->mJ (bQ X (Ex C s₂ H₂ fp) N' scope cl C s₂ H₂ fp) ifs tt) (hB:∀ C s₂ H₂ fp,j5 X C s₂ H₂ fp->∀(D:Addr) ys vys P σ H s N Ps,Inv (bQ X (Ex C s₂ H₂ fp) N' scope cl C s₂ H₂ fp) ([(D,lobj ys)]++P) σ H s->Vals vys ys->kU (bQ X (Ex C s₂ H₂ fp) N' scope cl C s₂ H₂ fp) D P->Cc vys->tb vys σ H N ->
   (∀ ys' vys' H' s',Inv (bQ X (Ex C s₂ H₂ fp) N' scope cl C s₂ H₂ fp) ([(D,lobj ys')]++P) σ H' s'->Vals vys' ys'->N vys' H'->Ps s')->Bd (Ex C s₂ H₂ fp) (.ref D) (bQ X (Ex C s₂ H₂ fp) N' scope cl C s₂ H₂ fp).env Ps s)
  (herr:∀ C s₂ H₂ fp use Q' acc e s',Ex C s₂ H₂ fp e s'->notedBy (model X.prog X.w) X.A (compEnvC scope (cellsFrom (C+1) scope.names cl) C X.env) (λe s''=>compPost (model X.prog X.w) X.A X.xe use Q' acc C (.error e) s'') e s')
  {pins:List (Addr × Obj)} {σ:St} {Q:VK} {use:Option (Value->Sem Unit)} {Q':Value->Shared->Prop} {itv:Value} {s2:Shared}
  (h2:uE X pins σ target (λJ H1=>∃ W:Nat->Nat->List V->Hp->Prop,(∃ m,W 0 m [] H1)/\∀ i m ys H,W i m ys H ->
 (J.stop i H/\ys.length<=sizeLine/\∀ p,H p=none->Q (.ref p) (upd H p (.lst ys))) ∨
 (J.go i H/\Cc ys/\∃ N:List V->Hp->Prop,(∀ ys' H',N ys' H'->∃ m',m'<m/\W (i+1) m' ys' H') /\
  ∀ x H',J.yld i H x H'->g x (du js σ) H' λσ2 H2=>bJ (du js σ) σ2/\tt σ2 H2 λb H3=>if b=true then tb ys σ2 H3 N else N ys H3)) itv s2)
  (hok:∀ C D vys H4 s5,(∃ m,s5.heap.Ns C m)->s2.heap.objs.size<=D->D<=C->D≠C->H4 D=none->H4 C=none->(∀ h',Heap.SameBut C s5.heap h'->Inv X pins σ (upd H4 D (.lst vys)) { s5 with heap:=h' })->Q (.ref D) (upd H4 D (.lst vys))->compPost (model X.prog X.w) X.A X.xe use Q' (.ref D) C (.ok .next) s5) :
  wpAny (model X.prog X.w) X.A (newList []) (λacc s₃=>wpAny (model X.prog X.w) X.A (newFunctionEnv scope X.env.globals cl [] X.env.qual none .none (some X.env)) (λcenv s₄ =>
   codeAny (model X.prog X.w) X.A (.compStart (.ListComp elt (⟨target,iter,ifs,0⟩::rest) scope pos) 0 itv acc { cenv with scope:=relabel scope X.env }) (compPost (model X.prog X.w) X.A X.xe use Q' acc cenv.locals) s₄) X.xe s₃) X.xe s2:=by
 obtain⟨it,fp,tn,J,H2,e,I2,T,st2,f2,W,⟨m0,w0⟩,turn⟩:=h2
 subst e
 refine wpAny_newObj_type (ik ?_)
 dsimp only
 generalize hP2:s2.heap.push { cls:=.type "list",dict:=none,data:=.seq ([]:List Value).toArray }=P2
 generalize hh₁:pushCells (P2.push { cls:=.type "dict",data:=.dict #[] }) scope.names=h₁
 have hns₁:h₁.Ns P2.objs.size λ_=>none:=hh₁▸(Heap.Ns.new P2 (.type "dict")).keeps (pushCells_keeps _ _)
 have upP:∀ b o,P2.get? b=some o->h₁.get? b=some o:=λb o e=>hh₁▸pushCells_keeps _ _ b o (Heap.get?_push_of_some _ e)
 have hcel:∀ x c,(cellsFrom (P2.objs.size+1) scope.names cl).lookup x=some c->∃ v,h₁.IsCell c v:=by
  have:=iR scope.names (P2.push { cls:=.type "dict",data:=.dict #[] }) cl λx c e=>by
   obtain⟨v,q⟩:=I2.cell x c (K.sub.get x c e)
   exact⟨v,q.keeps λb o e=>Heap.get?_push_of_some _ (hP2▸Heap.get?_push_of_some _ e)⟩
  rw [Heap.size_push,hh₁] at this
  exact this
 have hC:P2.objs.size=s2.heap.objs.size+1:=by rw [<- hP2,Heap.size_push]
 have hDC:s2.heap.objs.size≠P2.objs.size:=by rw [hC];exact Nat.ne_of_lt (Nat.lt_succ_self _)
 have below:∀ b,b<s2.heap.objs.size->b≠P2.objs.size/\b≠s2.heap.objs.size:=λb hb=>⟨by rw [hC];exact Nat.ne_of_lt (Nat.lt_succ_of_lt hb),Nat.ne_of_lt hb⟩
 have old:∀ b o,s2.heap.get? b=some o->h₁.get? b=some o:=λb o e=>upP b o (hP2▸Heap.get?_push_of_some _ e)
 have hacc:h₁.get? s2.heap.objs.size=some (lobj []):=upP _ _ (hP2▸Heap.get?_push_size _ rfl)
 generalize hCe:P2.objs.size=C at *
 generalize hDe:s2.heap.objs.size=D at *
 let Y:Cx:=bQ X (Ex C s2 H2 fp) N' scope cl C s2 H2 fp
 have clLt:∀ y c,cl.lookup y=some c->c<D:=λy c e=>by
  obtain⟨v,q⟩:=I2.cell y c (K.sub.get y c e)
  rw [<- hDe]
  exact q.lt
 have cellsX:∀ y c,Y.env.cells.lookup y=some c->cl.lookup y=some c∨C+1<=c:=λy c e=>fk _ _ _ e
 have cellNe:∀ y c,Y.env.cells.lookup y=some c->c≠D:=λy c e=>by
  rcases cellsX y c e with z | z
  ·exact Nat.ne_of_lt (clLt y c z)
  ·exact Nat.ne_of_gt (by omega)
 have freshH:∀ a,D<=a->H2 a=none:=λa ha=>I2.hok.fresh (by rw [hDe];exact ha)
 have hDleC:D<=C:=by rw [hC];exact Nat.le_succ _
 have lc:j5 X C s2 H2 fp:=⟨⟨pins,σ,I2⟩,λb hb=>((f2 b hb).2.2.2.1).symm,λb hf hb=>by
   rcases List.mem_cons.mp (I2.d6 b hf) with z | z
   ·exact (f2 b hb).2.1 z
   ·exact (f2 b hb).2.2.1 z,by rw [hDe];exact hDleC⟩
 have hbelowfp:∀ b∈fp,b<D:=λb hb=>by
  obtain⟨o,e,_⟩:=T.obj _ _ st2 b hb
  rw [<- hDe]
  exact Heap.lt_size e
 have okY:Y.Ok:=by
  refine⟨I2.ok.mod,K.kind,I2.ok.glob,I2.ok.blt,?_,ke _ _ _ (λx c e=>Nat.lt_succ_of_lt (Nat.lt_of_lt_of_le (clLt x c e) hDleC)) (λx y c e1 e2=>I2.ok.inj x y c (K.sub.get x c e1) (K.sub.get y c e2)),λx hx=>?_,λx c hf hc=>?_,I2.ok.hd,I2.ok.frames,.inl rfl,λb hb=>?_,I2.bs,Nat.le_trans I2.ok.bsz I2.sz,λb o e hb=>?_,λb hb hf=>?_,I2.stack,I2.fA⟩
  ·show s2.heap.objs.size<=C
   rw [hDe];exact hDleC
  ·have hx':(relabel scope X.env).names.lookup x=some .cell∨(relabel scope X.env).names.lookup x=some .free:=hx
   have:∃ y∈scope.names,y.1=x/\(y.2=.free∨y.2=.cell):=by
    rcases hx' with q | q
    ·exact fQ q (.inl rfl)
    ·exact fQ q (.inr rfl)
   obtain⟨y,hm,e1,e2⟩:=this
   refine Option.isSome_iff_exists.mp (PySem.W.cellsFrom_some _ _ _ ?_)
   rcases e2 with e2 | e2
   ·have q:=K.has y hm e2
    rw [e1] at q
    exact .inr q
   ·exact .inl (e1▸(K.nocell y hm e2).1)
  ·have hf':scope.names.lookup x=some .cell:=by simpa using (show (scope.names.lookup x==some .cell)=true from hf)
   have:=kf _ _ _ hf' hc
   show s2.heap.objs.size<=c
   rw [hDe];exact Nat.le_trans hDleC (Nat.le_of_succ_le this)
  ·refine⟨Nat.ne_of_lt (Nat.lt_of_lt_of_le (hbelowfp b hb) hDleC),λx c e=>?_⟩
   rcases cellsX x c e with z | z
   ·exact (f2 b hb).2.2.2.2.1 x c (K.sub.get x c z)
   ·exact Nat.ne_of_gt (Nat.lt_of_lt_of_le (Nat.lt_of_lt_of_le (hbelowfp b hb) hDleC) (Nat.le_of_succ_le z))
  ·rcases (f2 b hb).2.2.2.1 with z | z
   ·exact I2.ok.noex b o e z
   ·exact absurd (Nat.lt_of_lt_of_le (Heap.lt_size e) (Nat.le_trans I2.ok.bsz z)) (Nat.lt_irrefl _)
  ·rcases List.mem_cons.mp (I2.d6 b hf) with z | z
   ·exact (f2 b hb).2.1 z
   ·exact (f2 b hb).2.2.1 z
 -- the block's names
 have locY:∀{s':Shared} {H':Hp} {σ':St},True:=λ{_ _ _}=>trivial
 have invY0:Inv Y [(D,lobj [])] (du js σ) H2 { s2 with heap:=h₁ }:=by
  refine⟨okY,rfl,I2.bare,Un.kept old,⟨_,hns₁,λi x v e1 e2 vis=>?_⟩,hcel,freshH C hDleC,λy c e=>?_,λp hp=>?_,I2.hok.kept old,?_⟩
  ·-- a name of the block that has a value stands outside in a cell
   have e2':(du js σ)[i]?=some (some v):=e2
   unfold du at e2'
   rw [List.getElem?_map] at e2'
   cases ej:js[i]? with
   | none=>rw [ej] at e2';cases e2'
   | some o =>
    rw [ej] at e2'
    cases o with
    | none=>cases e2'
    | some j =>
     obtain⟨n1,n2,n3,n4,n5⟩:=K.jok i j x ej e1
     have e3:(σ[j]?).join=some v:=by simpa using e2'
     have e4:σ[j]?=some (some v):=by
      cases q:σ[j]? with
      | none=>rw [q] at e3;cases e3
      | some z=>rw [q] at e3;simpa using e3
     obtain⟨m,hn,hl⟩:=I2.loc
     obtain⟨u,r,l⟩:=hl j x v n1 e4 n3
     refine⟨u,r,.inr ⟨n5,?_⟩⟩
     rcases l with⟨k,_⟩|⟨k,c,ec,z⟩
     ·exact absurd k n4
     ·obtain⟨c',ec'⟩:=Option.isSome_iff_exists.mp n2
      have ee:=K.sub.get x c' ec'
      rw [ec] at ee
      cases ee
      refine⟨c,(iS _ _ _ λy hy hk=>(K.nocell y hy hk).2 (some j,x) ?_ rfl).trans ec',?_⟩
      ·exact List.mem_of_getElem? (i:=i) (by rw [List.getElem?_zip_eq_some];exact⟨ej,e1⟩)
      obtain⟨o,ho,hd⟩:=z
      exact⟨o,old c o ho,hd⟩
  ·rcases cellsX y c e with z | z
   ·exact I2.freeC y c (K.sub.get y c z)
   ·exact freshH c (by omega)
  ·have hp':p∈[(D,lobj [])]:=hp
   have e:p=(D,lobj []):=by simpa using hp'
   subst e
   refine⟨hacc,freshH D (Nat.le_refl _),hDC,λz=>?_,λv z=>by cases z⟩
   rcases List.mem_cons.mp (I2.d6 D z) with q | q
   ·exact absurd (q▸I2.lt) (by rw [hDe];exact Nat.lt_irrefl _)
   ·exact I2.rR (by rw [hDe];exact Nat.le_refl _) q
  ·show (du js σ).length=N'.length
   unfold du
   rw [List.length_map]
   exact K.jlen
 have hDfs:D∉Y.fs:=λz=>by
  rcases List.mem_cons.mp (I2.d6 D z) with q | q
  ·exact absurd (q▸I2.lt) (by rw [hDe];exact Nat.lt_irrefl _)
  ·exact I2.rR (by rw [hDe];exact Nat.le_refl _) q
 have stat:∀{H':Hp} {ys:List Value},(∀ b∈fp,H' b=none)->∀ b∈fp,j4 Y [(D,lobj ys)] H' b:=λ{H' ys} hn b hb=>by
  refine⟨hn b hb,Nat.ne_of_lt (Nat.lt_of_lt_of_le (hbelowfp b hb) hDleC),okY.exfs b hb,.inl hb,okY.exf b hb |>.2,λp hp=>?_⟩
  have hp':p∈[(D,lobj ys)]:=hp
  have e:p=(D,lobj ys):=by simpa using hp'
  subst e
  exact Nat.ne_of_gt (hbelowfp b hb)
 have loop:∀ s3:Shared,s3={ s2 with heap:=h₁ } ->
   codeAny (model X.prog X.w) X.A (.compLoop (.ListComp elt (⟨target,iter,ifs,0⟩::rest) scope pos) 0 (.ref it) (.ref D) (compEnvC scope (cellsFrom (C+1) scope.names cl) C X.env)) (compPost (model X.prog X.w) X.A X.xe use Q' (.ref D) C) s3:=by
  rintro s3 rfl
  refine hloop _ _ _ _ _ _ (λn s'=>∃ i ys vys H',Inv Y [(D,lobj ys)] (du js σ) H' s'/\tn i s'.heap/\(∀ b∈fp,H' b=none)/\Vals vys ys/\W i n vys H') ?_ m0
   ⟨0,[],[],H2,invY0,T.keep _ _ _ st2 λb _ o e=>old b o e,λb hb=>(f2 b hb).1,.nil,w0⟩ λe s' z=>herr C s2 H2 fp use Q' (.ref D) e s' z
  rintro n s4 ⟨i,ys,vys,H4,I4,st4,fr4,rv,w4⟩
  rcases turn i n vys H4 w4 with⟨stop,hz,qn⟩|⟨go,hz,Nn,hN,step⟩
  ·refine bz (T.done Y rfl rfl rfl hcalm i _ s4 _ H4 (Ex C s2 H2 fp) I4 (stat fr4) st4 stop) λr s5 ⟨hr,I5⟩=>?_
   subst hr
   obtain⟨m5,hn5,_⟩:=I5.loc
   obtain⟨pD,nD,_,_,_⟩:=I5.pin (D,lobj ys) (by show _∈[(D,lobj ys)];simp)
   have nC:H4 C=none:=I5.free
   refine hok C D vys H4 s5 ⟨m5,hn5⟩ (Nat.le_refl _) hDleC hDC nD nC (λh' hsb=>?_) (qn D nD)
   have pD':h'.get? D=some (lobj ys):=hsb.extBut _ _ hDC pD
   refine I2.sQ (s':={ s5 with heap:=h' }) (ch:=fp) I5.os ?_ ?_ I5.bare (λb hb=>?_)
   ·-- kept
    have u:=I5.base
    have neC:∀ b o,s2.heap.get? b=some o->b≠C/\b≠D:=λb o e=>by
     have:=Heap.lt_size e
     rw [hDe] at this
     exact⟨Nat.ne_of_lt (Nat.lt_of_lt_of_le this hDleC),Nat.ne_of_lt this⟩
    refine⟨λb o e nn hb hx=>hsb.extBut b o (neC b o e).1 (u.keep b o e nn hb hx),λb o e nn hb hx=>?_,λb o e nn hx=>?_,λb o e hx=>?_,λb xs e=>?_,λb o xs e=>?_,λb ps e=>?_⟩
    ·obtain⟨sl,q⟩:=u.slot b o e nn hb hx
     exact⟨sl,hsb.extBut b _ (neC b o e).1 q⟩
    ·rw [ar (neC b o e).2]
     exact u.free b o e nn hx
    ·obtain⟨o',q⟩:=u.there b o e hx
     exact⟨o',hsb.extBut b _ (neC b o e).1 q⟩
    ·rw [ar (aY (u.tups b xs e) nD)]
     exact u.tups b xs e
    ·rw [ar (aY (u.frzs b o xs e) nD)]
     exact u.frzs b o xs e
    ·obtain⟨more,q⟩:=u.tbls b ps e
     exact⟨more,by rw [ar (aY q nD)];exact q⟩
   ·intro b o e
    by_cases hb:b=D
    ·subst hb
     rw [af] at e
     cases e
     exact⟨hz,ys,_,rv,pD'⟩
    ·rw [ar hb] at e
     refine (I5.hok b o e).jr (λc w' hc q=>hsb.extBut c w' ?_ q) (λc q=>by rw [ar (aY q nD)];exact q) λc xs q=>by rw [ar (aY q nD)];exact q
     rintro rfl
     rcases hc with rfl | hc
     ·rw [nC] at e;cases e
     ·rw [nC] at hc;cases hc
   ·exact⟨(f2 b hb).2.2.2.1,(f2 b hb).2.1,(f2 b hb).2.2.2.2.1,(f2 b hb).2.2.2.2.2⟩
  ·refine bz (T.item Y rfl rfl rfl hcalm i _ s4 _ H4 (Ex C s2 H2 fp) I4 (stat fr4) st4 go) λr s5 ⟨u,hr,h5⟩=>?_
   subst hr
   refine bz h5 λ_ s6 ⟨x,H6,I6,r6,y6,st6,fr6⟩=>?_
   have I6':=I6.pinned (stat fr6) (T.obj _ _ st6)
   refine bz (hg C s2 H2 fp lc _ s6 _ H6 x u _ I6' r6 (step x H6 y6)) λ_ s7 ⟨σ7,H7,I7,k7,q7⟩=>?_
   refine bz (ht C s2 H2 fp lc _ s7 σ7 H7 _ I7 q7) λb s8 ⟨H8,I8,q8⟩=>?_
   -- behind the tests and the element: the state goes back to what the next turn wants
   have again:∀{ys':List Value} {s9:Shared} {H9:Hp},Inv Y ([(D,lobj ys')]++fI fp s6.heap) σ7 H9 s9->Inv Y [(D,lobj ys')] (du js σ) H9 s9/\tn (i+1) s9.heap/\∀ b∈fp,H9 b=none:=λ{ys' s9 H9} I9=>by
    refine⟨(I9.fB).weak k7.len k7.get,T.keep _ _ _ st6 λb hb o e=>(I9.pin (b,o) (List.mem_append_right _ (List.mem_append_right _ (dA hb e)))).1,λb hb=>?_⟩
    obtain⟨o,e,d⟩:=T.obj _ _ st6 b hb
    exact (I9.pin (b,o) (List.mem_append_right _ (List.mem_append_right _ (dA hb e)))).2.1
   cases b with
   | false =>
    rw [if_neg Bool.false_ne_true] at q8 ⊢
    obtain⟨m',hm,w8⟩:=hN _ _ q8
    obtain⟨J8,t8,f8⟩:=again I8
    exact⟨m',hm,i+1,ys,vys,H8,J8,t8,f8,rv,w8⟩
   | true =>
    rw [if_pos rfl] at q8 ⊢
    have aok:kU Y D (fI fp s6.heap):=⟨λp hp z=>absurd (hbelowfp p.1 (iD hp).1) (by rw [z];exact Nat.lt_irrefl _),by show s2.heap.objs.size<=D;rw [hDe];exact Nat.le_refl _,λx c e=>cellNe x c e⟩
    refine hB C s2 H2 fp lc D ys vys _ σ7 H8 s8 Nn _ I8 rv aok hz q8 λys' vys' H9 s9 I9 rv' q9=>?_
    obtain⟨J9,t9,f9⟩:=again I9
    obtain⟨m',hm,w9⟩:=hN _ _ q9
    exact⟨m',hm,i+1,ys',vys',H9,J9,t9,f9,rv',w9⟩
 exact codeAny_compStart_list (loop _ rfl) (T.self _ 0 _ _ _ (T.keep _ _ _ st2 λb _ o e=>old b o e) (loop _ rfl))
theorem oH {Y:Cx} {D:Addr} {ys:List Value} {P:List (Addr × Obj)} {σ:St} {H:Hp} {s:Shared} {y:Value} {Q:Value->Shared->Prop} {E:Value->Shared->Prop} (hpn:Y.pn=[]) (I:Inv Y ([(D,lobj ys)]++P) σ H s) (ok:kU Y D P) (z:ys.length<sizeLine)
  (q:∀ s',Inv Y ([(D,lobj (ys++[y]))]++P) σ H s'->Q .none s'):wpAny (model Y.prog Y.w) Y.A (call (.builtin "list.append") [.ref D,y]) Q E s:=by
 obtain⟨pD,nD,neD,nfD,_⟩:=I.pin (D,lobj ys) (by rw [hpn];simp)
 refine append_at (hsz:=by show ys.toArray.size<=sizeLine;rw [List.size_toArray];exact Nat.le_of_lt z) (show s.heap.get? D=some { cls:=.type "list",data:=.seq ys.toArray ys.length } from pD) λh' hsb hD'=>q _ ?_
 have eD:h'.get? D=some (lobj (ys++[y])):=by
  rw [hD']
  unfold lobj
  rw [List.length_append,List.length_singleton,List.push_toArray]
 have J1:Inv Y P σ H s:=I.gd λp hp=>I.pin p (List.mem_append_right _ (List.mem_append_right _ hp))
 have J2:Inv Y P σ H { s with heap:=h' }:=J1.turned (t':=s.toks) (it:=D) (λb o hb e=>hsb.extBut b o hb e) nD neD (.inr ok.new) ok.cell λp hp=>ok.ne p (by rw [hpn] at hp;simpa using hp)
 refine J2.gd λp hp=>?_
 rcases List.mem_append.mp hp with hp | hp
 ·have e:p=(D,lobj (ys++[y])):=by simpa using hp
  subst e
  exact⟨eD,nD,neD,nfD,λv z=>by cases z⟩
 ·exact J2.pin p (List.mem_append_right _ hp)
theorem mN {Y:Cx} {D:Addr} {ys:List Value} {vys:List V} {P:List (Addr × Obj)} {σ:St} {H:Hp} {s:Shared} {elt:Expr} {te:TE} {N:List V->Hp->Prop} {Ps:Shared->Prop} (hpn:Y.pn=[]) (he:PE Y elt te) (I:Inv Y ([(D,lobj ys)]++P) σ H s) (rv:Vals vys ys) (ok:kU Y D P) (z:vys.length<sizeLine) (q:te σ H λv H4=>N (vys++[v]) H4)
  (k:∀ ys' vys' H' s',Inv Y ([(D,lobj ys')]++P) σ H' s'->Vals vys' ys'->N vys' H'->Ps s'):wpAny (model Y.prog Y.w) Y.A (kY elt (.ref D) Y.env) (λ_ s'=>Ps s') Y.xe s:=by
 unfold kY
 refine wpAny_bind (bz (he _ s σ H _ I q) λy s9 ⟨vy,H9,I9,r9,q9⟩=>?_)
 exact wpAny_bind (oH hpn I9 ok (by rw [<- rv.length];exact z) λs' I'=>wpAny_pure (k _ _ _ _ I' (rv.append (.cons r9 .nil)) q9))
theorem pA {X:Cx} {Ex:Addr->Shared->Hp->List Addr->Value->Shared->Prop} {elt target iter:Expr} {ifs:List Expr} {scope:Scope} {pos:Pos} {N':List Str} {js:List (Option Nat)} {cl:List (Str × Addr)} {g:TG} {tt:TT} {te:TE} (hcalm:X.calm=true)
  (K:gg X N' js scope cl)
  (hg:∀ C s₂ H₂ fp,j5 X C s₂ H₂ fp->PG (bQ X (Ex C s₂ H₂ fp) N' scope cl C s₂ H₂ fp) target g) (ht:∀ C s₂ H₂ fp,j5 X C s₂ H₂ fp->mJ (bQ X (Ex C s₂ H₂ fp) N' scope cl C s₂ H₂ fp) ifs tt) (he:∀ C s₂ H₂ fp,j5 X C s₂ H₂ fp->PE (bQ X (Ex C s₂ H₂ fp) N' scope cl C s₂ H₂ fp) elt te)
  (herr:∀ C s₂ H₂ fp use Q' acc e s',Ex C s₂ H₂ fp e s'->notedBy (model X.prog X.w) X.A (compEnvC scope (cellsFrom (C+1) scope.names cl) C X.env) (λe s''=>compPost (model X.prog X.w) X.A X.xe use Q' acc C (.error e) s'') e s')
  {pins:List (Addr × Obj)} {σ:St} {Q:VK} {use:Option (Value->Sem Unit)} {Q':Value->Shared->Prop} {itv:Value} {s2:Shared}
  (h2:uE X pins σ target (λJ H1=>∃ W:Nat->Nat->List V->Hp->Prop,(∃ m,W 0 m [] H1)/\∀ i m ys H,W i m ys H ->
 (J.stop i H/\ys.length<=sizeLine/\∀ p,H p=none->Q (.ref p) (upd H p (.lst ys))) ∨
 (J.go i H/\ys.length<sizeLine/\∃ N:List V->Hp->Prop,(∀ ys' H',N ys' H'->∃ m',m'<m/\W (i+1) m' ys' H') /\
  ∀ x H',J.yld i H x H'->g x (du js σ) H' λσ2 H2=>bJ (du js σ) σ2/\tt σ2 H2 λb H3=>if b=true then te σ2 H3 λv H4=>N (ys++[v]) H4 else N ys H3)) itv s2)
  (hok:∀ C D vys H4 s5,(∃ m,s5.heap.Ns C m)->s2.heap.objs.size<=D->D<=C->D≠C->H4 D=none->H4 C=none->(∀ h',Heap.SameBut C s5.heap h'->Inv X pins σ (upd H4 D (.lst vys)) { s5 with heap:=h' })->Q (.ref D) (upd H4 D (.lst vys))->compPost (model X.prog X.w) X.A X.xe use Q' (.ref D) C (.ok .next) s5) :
  wpAny (model X.prog X.w) X.A (newList []) (λacc s₃=>wpAny (model X.prog X.w) X.A (newFunctionEnv scope X.env.globals cl [] X.env.qual none .none (some X.env)) (λcenv s₄ =>
   codeAny (model X.prog X.w) X.A (.compStart (.ListComp elt [⟨target,iter,ifs,0⟩] scope pos) 0 itv acc { cenv with scope:=relabel scope X.env }) (compPost (model X.prog X.w) X.A X.xe use Q' acc cenv.locals) s₄) X.xe s₃) X.xe s2 :=
 rN (Bd:=λEx acc env Ps s=>wpAny (model X.prog X.w) X.A (kY elt acc env) (λ_ s'=>Ps s') Ex s) (Cc:=λys=>ys.length<sizeLine) (tb:=λys σ2 H3 N=>te σ2 H3 λv H4=>N (ys++[v]) H4) hcalm
  (λ_ _ _ it acc env I turn n h hE=>iU I (oo elt target iter ifs scope pos it acc env) turn n h hE) K hg ht
  (λC s₂ H₂ fp lc D ys vys P σ H s N Ps I rv ok z q k=>mN rfl (he C s₂ H₂ fp lc) I rv ok z q k) herr h2 hok
theorem fS {X:Cx} {elt target iter:Expr} {ifs:List Expr} {scope:Scope} {pos:Pos} {N':List Str} {js:List (Option Nat)} {cl:List (Str × Addr)} {wi:TI} {g:TG} {tt:TT} {te:TE} (hcalm:X.calm=true)
  (K:gg X N' js scope cl) (hi:PI X target iter wi)
  (hg:∀ C s₂ H₂ fp,PG (iT X N' scope cl C s₂ H₂ fp) target g) (ht:∀ C s₂ H₂ fp,mJ (iT X N' scope cl C s₂ H₂ fp) ifs tt) (he:∀ C s₂ H₂ fp,PE (iT X N' scope cl C s₂ H₂ fp) elt te)
  (hs:∀ x,foldedSetIterable iter X.env x=pure x:=by intro _;rfl):PE X (.ListComp elt [⟨target,iter,ifs,0⟩] scope pos) (vK js wi g tt te):=by
 intro pins s σ H Q I h
 rw [eval_ListComp]
 refine wpAny_comprehension_free (use:=none) rfl hs K.clos K.kind K.names (bz (hi pins s σ H _ I h) λv s1 h1=>bz h1 λitv s2 h2=>?_)
 exact pA (Ex:=λ_ _ _ _ _ _=>False) hcalm K (λC s H f _=>hg C s H f) (λC s H f _=>ht C s H f) (λC s H f _=>he C s H f) (λ_ _ _ _ _ _ _ _ _ z=>z.elim) h2 λC D vys H4 s5 ⟨m,hn⟩ _ _ _ _ _ hI q=>⟨m,hn,λh' hsb=>⟨.ref D,_,hI h' hsb,rfl,q⟩⟩
def Bd (i:Int):Prop:=i.natAbs<2^4000
theorem mM:(10:Nat)^250<=2^4000:=by decide +kernel
theorem Bd.of {i:Int} (h1:-(10^250)<i) (h2:i<10^250):Bd i:=by
 refine Nat.lt_of_lt_of_le ?_ mM
 have:((10:Nat)^250:Nat)=((10:Int)^250).toNat:=by decide +kernel
 rw [this]
 omega
theorem Bd.mono {i j:Int} (h:Bd j) (h':i.natAbs<=j.natAbs):Bd i:=Nat.lt_of_le_of_lt h' h
theorem Bd.bits {i:Int} (h:Bd i):Builtin.Int.intBits i<=2^20 :=
 Nat.le_trans (intBits_le h) (by decide)
theorem Bd.vE {i j:Int} (h:Bd j):Builtin.divisionGoesByPylong i j=false:=by
 refine PyProof.noPylong_of_log2 ?_
 by_cases z:j.natAbs=0
 ·rw [z];decide
 ·exact Nat.lt_of_lt_of_le ((Nat.log2_lt z).mpr h) (by decide)
section
variable {X:Cx}
theorem bb:eO X (binaryOp .Mult) (rI (λi j=>Bd i/\Bd j) λi j=>.int (i*j)):=tS λ_ _ _ _ _ _ _ hc q=>mul_int q (IntMulOk.of_bits hc.1.bits hc.2.bits)
theorem aL:eO X (binaryOp .FloorDiv) (rI (λ_ j=>0<j/\Bd j) λi j=>.int (i/j)):=tS λi j _ _ _ _ _ hc q=>by
 have h1:(0:Int)<j:=hc.1
 exact floordiv_int (by omega) (by rw [Int.fdiv_eq_ediv_of_nonneg i (by omega)];exact q) (.inl hc.2.vE)
theorem gm:eO X (inplaceOp .FloorDiv) (rI (λ_ j=>0<j/\Bd j) λi j=>.int (i/j)):=tS λi j _ _ _ _ _ hc q=>by
 have h1:(0:Int)<j:=hc.1
 exact ifloordiv_int (by omega) (by rw [Int.fdiv_eq_ediv_of_nonneg i (by omega)];exact q) (.inl hc.2.vE)
theorem gn {op:Operator} {r:R2} (ho:eO X (inplaceOp op) r):vB X op r:=λpins s σ H x y v u Q I r1 r2 h=>ho pins s σ H x y v u Q I r1 r2 h
def qS (i j k:Nat) (ta:TA):TS:=λD σ H=>ta σ H λvs H1=>∃ v w u,vs=[v,w,u]/\D.nx (((σ.set i (some v)).set j (some w)).set k (some u)) H1
theorem lA {i j k:Nat} {x y z:Str} {a b c:Expr} {ta:TA} {px py pz pt pos:Pos} {kt k2 pt2} (hc:X.calm=true) (hN:X.N.Nodup) (hi:X.N[i]?=some x) (hj:X.N[j]?=some y) (hk:X.N[k]?=some z) (hij:i≠j) (hik:i≠k) (hjk:j≠k)
  (hx:X.env.scope.names.lookup x=some .local) (hy:X.env.scope.names.lookup y=some .local) (hz:X.env.scope.names.lookup z=some .local) (ha:PA X [a,b,c] ta)
  (hw:swappedStores [.Tuple [.Name x px,.Name y py,.Name z pz] kt pt] (.Tuple [a,b,c] k2 pt2) X.env=pure (some [x,y,z]))
  (hs:swapsWithSole [.Tuple [.Name x px,.Name y py,.Name z pz] kt pt] (.Tuple [a,b,c] k2 pt2) pos.line X.env=pure false:=by rfl) :
  PS X (.Assign [.Tuple [.Name x px,.Name y py,.Name z pz] kt pt] (.Tuple [a,b,c] k2 pt2) pos) (qS i j k ta):=by
 intro pins s σ H D I h
 rw [exec_Assign_arm]
 refine wpAny_bind (wpAny_standAt ?_)
 rw [hs]
 refine wpAny_bind (wpAny_pure ?_)
 rw [if_neg (by decide)]
 refine wpAny_bind (Tuple_ (bz (ha _ pins s σ H _ I h) λus s1 ⟨vs,H1,I1,r1,q1⟩=>?_))
 obtain⟨v,w,u,e1,q1⟩:=q1
 subst e1
 obtain⟨u1,u2,u3,rfl,rv,rw',ru⟩:∃ u1 u2 u3,us=[u1,u2,u3]/\RelV v u1/\RelV w u2/\RelV u u3:=by
  cases r1 with
  | cons p q =>
   cases q with
   | cons p' q' =>
    cases q' with
    | cons p'' q'' =>
     cases q''
     exact⟨_,_,_,rfl,p,p',p''⟩
 refine wpAny_newObj_type ?_ (by show 3<=sizeLine;decide)
 have I2:Inv X pins σ H1 { s1 with heap:=s1.heap.push { cls:=.type "tuple",data:=.seq [u1,u2,u3].toArray } }:=I1.kept (t':=s1.toks) λb o e=>Heap.get?_push_of_some _ e
 rw [hw]
 refine wpAny_bind (wpAny_pure ?_)
 show wpAny (model X.prog X.w) X.A (do rule "assign.swapped-stores";let items <- unpackItems (.ref s1.heap.objs.size) 3 none;assignInOrder [λv=>bindName X.env z v,λv=>bindName X.env y v,λv=>bindName X.env x v] items.reverse;pure Flow.next) _ _ _
 refine wpAny_bind (wpAny_rule (wpAny_bind (unpackItems_tuple (items:=#[u1,u2,u3]) (I.ok.hd hc) (IsTup.new s1.heap _) λh' hx'=>?_)))
 have I3:=I2.kept (h':=h') (t':=s1.toks) λb o e=>hx' b o (Nat.ne_of_lt (Heap.lt_size e)) e
 show wpAny _ _ (assignInOrder [λv=>bindName X.env z v,λv=>bindName X.env y v,λv=>bindName X.env x v] [u3,u2,u1] >>= λ_=>pure Flow.next) _ _ _
 refine wpAny_bind (assignInOrder_cons (wpAny_bindName (b7 I3 hN hk (.inl hz) ru (λs2 I4=>?_) (.inr hz))))
 refine assignInOrder_cons (wpAny_bindName (b7 I4 hN hj (.inl hy) rw' (λs3 I5=>?_) (.inr hy)))
 refine assignInOrder_cons (wpAny_bindName (b7 I5 hN hi (.inl hx) rv (λs4 I6=>assignInOrder_nil (wpAny_pure ?_)) (.inr hx)))
 have e:((σ.set k (some u)).set j (some w)).set i (some v)=((σ.set i (some v)).set j (some w)).set k (some u):=by
  rw [List.set_comm _ _ (Ne.symm hij),List.set_comm _ _ (Ne.symm hik),List.set_comm _ _ (Ne.symm hjk)]
 rw [e] at I6
 exact⟨_,H1,I6,q1⟩
def tX (K:PySem.W.Frag):List V->Hp->VK->Prop:=λxs H Q=>∃(a:Addr) (bs:List Bool),xs=[.ref a]/\bf K H a (bs.map V.bl)/\Q (.bl (bs.all id)) H
theorem mO (hc:X.calm=true):cG X (.builtin "all") (tX X.K):=by
 intro pins s σ H xs us Q I r h
 obtain⟨a,bs,rfl,hq,q⟩:=h
 obtain⟨u,rfl,ru⟩:=vals1 r
 cases ru
 obtain⟨its,rv,p,hz⟩:=I.list hq
 have hl:=p.isList
 have hlt:a<s.heap.objs.size:=by obtain⟨_,e,_⟩:=hl;exact Heap.lt_size e
 have hb:∀(i:Nat) v,its[i]?=some v->∃ b,bs[i]?=some b/\v=.bool b:=λi v e=>by
  have hi:i<its.length:=(List.getElem?_eq_some_iff.mp e).1
  have hi2:i<bs.length:=by have:=rv.length;rw [List.length_map] at this;omega
  obtain⟨u,e1,e2⟩:=rv.get (i:=i) (x:=V.bl bs[i]) (by rw [List.getElem?_map,List.getElem?_eq_getElem hi2];rfl)
  rw [e] at e1
  cases e1
  exact⟨bs[i],List.getElem?_eq_getElem hi2,e2⟩
 have hln:its.length=bs.length:=by have:=rv.length;rw [List.length_map] at this;omega
 refine call_all_walk (wpAny_pyIter_list hl ?_)
 refine⟨s.heap.objs.size,[s.heap.objs.size,a],[s.heap.objs.size],its.toArray.size,_,_,λi=>(bs[i]?).getD true,rfl,Walks.list (A:=X.A.in1) (I.ok.hd hc) _ a (Nat.ne_of_lt hlt) its.toArray,
  ⟨⟨_,Heap.get?_push_size _ rfl,rfl,rfl⟩,hl.push _⟩,λi v s' Q' E' hP hQ=>?_,λh' tk hk=>?_⟩
 ·obtain⟨b,e,rfl⟩:=hb i v (by simpa using hP)
  simp only [e,Option.getD_some] at hQ
  exact wpAny_truthy_bool hQ
 ·have e:((List.range its.toArray.size).all λi=>(bs[i]?).getD true)=bs.all id:=by
   rw [List.size_toArray,hln,Bool.eq_iff_iff]
   simp only [List.all_eq_true,List.mem_range,id]
   constructor
   ·intro z b hb'
    obtain⟨i,hi,rfl⟩:=List.mem_iff_getElem.mp hb'
    have:=z i hi
    rwa [List.getElem?_eq_getElem hi,Option.getD_some] at this
   ·intro z i hi
    rw [List.getElem?_eq_getElem hi,Option.getD_some]
    exact z _ (List.getElem_mem hi)
  rw [e]
  exact⟨.bl _,H,I.kept λb o eb=>hk b o (λhm=>by rw [List.mem_singleton.mp hm] at eb;exact Nat.lt_irrefl _ (Heap.lt_size eb)) (Heap.get?_push_of_some _ eb),rfl,q⟩
end
def ax (K:PySem.W.Frag) (mg:Str->Option Value) (x:Str) (st:Stmt):Prop:=∃ f fd,ou K x x st f fd/\mg x=some (.ref f)
structure Callee (P:Program) (w:World) (K:PySem.W.Frag) (mg:Str->Option Value) (base:Heap) (CX:h7) (k:Nat) (x:Str) (ps:List Str) (sp:Sp):Prop where
 ex:∃ f fd,cj P w K mg base CX k f fd ps sp/\mg x=some (.ref f)/\PySem.W.keepIn K (.ref f)=true/\Binds K fd ps []
section
variable {P:Program} {w:World} {K:PySem.W.Frag} {mg:Str->Option Value} {base:Heap} {CX:h7} {k:Nat} {x:Str} {ps:List Str} {sp:Sp}
theorem Callee.imp {sp':Sp} (C:Callee P w K mg base CX k x ps sp) (h:∀ vs H Q E,sp' vs H Q E->sp vs H Q E):Callee P w K mg base CX k x ps sp':=by
 obtain⟨f,fd,F,a,b,c⟩:=C.ex
 exact⟨f,fd,F.imp h,a,b,c⟩
theorem Callee.mono {j:Nat} (C:Callee P w K mg base CX k x ps sp) (h:k<=j):Callee P w K mg base CX j x ps sp:=by
 obtain⟨f,fd,F,a,b,c⟩:=C.ex
 exact⟨f,fd,F.mono h,a,b,c⟩
theorem aG {X:Cx} {E:XK} {e:Expr} {es:List Expr} {t:TA} {p pos:Pos} (C:Callee X.prog X.w X.K X.mg X.base CX k x ps sp) (hr:bX k X.A) (hg:Gl X x) (hx:Passes CX X E)
  (ha:PA X (e::es) t) (hdb:(x==("__debug__":Str))=false:=by decide) (he:starEach (e::es) X.env=(false,eval e X.env)::starEach es X.env:=by rfl) (hpl:(backTo pos (starEach es X.env)).any (·.1)=false:=by rfl) :
  PE X (.Call (.Name x p) (e::es) [] pos) (lM sp [] E t):=by
 obtain⟨f,fd,F,hm,hk,hb⟩:=C.ex
 exact pQ F hr hg hm hk hb .nil hx ha hdb he hpl
theorem lS {st:Stmt} {N:List Str} (D:ax K mg x st)
  (hb:∀(kV doc pm:Value) (an:Option Addr) (cdv ct:Value) (us:List Value),us.length=ps.length->bindArgs (PySem.W.fnOf x x (bG st) (aV st) (ao st) .none kV doc pm an cdv ct) ⟨us,[]⟩=pure (ps.zip us))
  (S:az N ps (ao st)) (len:∀ vs H Q E,sp vs H Q E->vs.length=ps.length)
  (hbody:∀(f:Addr) (cdv:Value) (A:Around) (outer:List Env) (s:Shared) (H:Hp) (vs:List V) (Q:VK) (E:XK),bX k (A.deeper (envOfC x (ao st) s.heap.objs.size f cdv))->sp vs H Q E ->
   ∃ t,gh (dk bc P w K mg base N x (ao st) f cdv A outer s H E).j2 (aV st) t/\t { nx:=λ_ H'=>Q .non H',rt:=Q } (start N vs) H):Callee P w K mg base bc (k+1) x ps sp:=by
 obtain⟨f,fd,F,hm⟩:=D
 exact⟨f,fd,F.ok S len λcdv A outer s H vs Q E hr h=>hbody f cdv A outer s H vs Q E hr h,hm,F.kp,F.binds hb⟩
theorem mT {h:Heap} {f:Addr} {st:Stmt} {oc:Value} {od an:Option Addr} {osl:Array (Option Value)} {kV doc pm cdv ct:Value} (X:K.In h) (G:h.Ns mainGlobals mg)
  (a:PySem.W.nsIn K mainGlobals x=some (some (.ref f))) (l:K.lookup f=some ⟨oc,od,.func (PySem.W.fnOf x x (bG st) (aV st) (ao st) .none kV doc pm an cdv ct),osl⟩)
  (c:PySem.W.codeIn K cdv x=true) (kk:PySem.W.keepIn K (.ref f)=true):ax K mg x st:=⟨f,_,mX l c kk,PySem.W.mg_of X G a⟩
end
def fD (cl:List (Str × Addr)):List (Str × NameKind)->Prop
 | []=>True
 | y::r=>(match y.2 with | .free=>(cl.lookup y.1).isSome=true | _=>True)/\fD cl r
theorem fD.get {cl:List (Str × Addr)}:∀{l:List (Str × NameKind)},fD cl l->∀ y∈l,y.2=.free->(cl.lookup y.1).isSome=true
 | [],_,_,h,_=>nomatch h
 | z::r,a,y,h,e=>by
  rcases List.mem_cons.mp h with q | q
  ·subst q
   have:=a.1
   rw [e] at this
   exact this
  ·exact fD.get a.2 y q e
def fg (X:Cx) (scope:Scope) (cl:List (Str × Addr)):List (Option Nat)->List Str->Prop
 | none::r,_::n=>fg X scope cl r n
 | some j::r,x::n=>(X.N[j]?=some x/\(cl.lookup x).isSome=true/\(X.env.scope.names.lookup x=some .cell∨X.env.scope.names.lookup x=some .free)/\((relabel scope X.env).names.lookup x=some .cell∨(relabel scope X.env).names.lookup x=some .free))/\fg X scope cl r n
 | [],[]=>True
 | _,_=>False
theorem fg.len {X:Cx} {scope:Scope} {cl:List (Str × Addr)}:∀{js:List (Option Nat)} {N:List Str},fg X scope cl js N->js.length=N.length
 | [],[],_=>rfl
 | none::r,_::n,h=>by
  have h':fg X scope cl r n:=h
  simp [fg.len h']
 | some j::r,x::n,h=>by
  have h':fg X scope cl r n:=h.2
  simp [fg.len h']
 | [],_::_,h=>h.elim
 | none::_,[],h=>h.elim
 | some _::_,[],h=>h.elim
theorem fg.get {X:Cx} {scope:Scope} {cl:List (Str × Addr)}:∀{js:List (Option Nat)} {N:List Str},fg X scope cl js N->∀(i j:Nat) x,js[i]?=some (some j)->N[i]?=some x ->
  X.N[j]?=some x/\(cl.lookup x).isSome=true/\sE X.env.scope x/\X.env.kindOf x≠some .local/\((relabel scope X.env).names.lookup x=some .cell∨(relabel scope X.env).names.lookup x=some .free)
 | [],[],_,i,j,x,e,_=>by simp at e
 | none::r,y::n,h,0,j,x,e,_=>by simp at e
 | none::r,y::n,h,i+1,j,x,e,e2=>fg.get (js:=r) (N:=n) h i j x (by simpa using e) (by simpa using e2)
 | some k::r,y::n,h,0,j,x,e,e2=>by
  have q:k=j:=by simpa using e
  have q2:y=x:=by simpa using e2
  subst q;subst q2
  obtain⟨a,b,c,d⟩:=h.1
  refine⟨a,b,?_,?_,d⟩
  ·rcases c with c | c
   ·exact .inr (.inl c)
   ·exact .inr (.inr c)
  ·intro z
   have z':X.env.scope.names.lookup y=some .local:=z
   rcases c with c | c
   ·rw [c] at z';cases z'
   ·rw [c] at z';cases z'
 | some k::r,y::n,h,i+1,j,x,e,e2=>fg.get (js:=r) (N:=n) h.2 i j x (by simpa using e) (by simpa using e2)
 | [],_::_,h,_,_,_,_,_=>h.elim
 | none::_,[],h,_,_,_,_,_=>h.elim
 | some _::_,[],h,_,_,_,_,_=>h.elim
theorem rq {X:Cx} {N':List Str} {js:List (Option Nat)} {scope:Scope} {cl:List (Str × Addr)} (clos:closureFor scope X.env=pure cl) (kind:scope.kind=.function) (nocell:∀ y∈scope.names,y.2=.cell->scope.names.lookup y.1=some .cell/\∀ p∈js.zip N',p.1.isSome=true->p.2≠y.1)
  (names:∀ y∈scope.names,y.2=.local->scope.names.lookup y.1=some .local) (sub:AllIn X.env cl) (has:fD cl scope.names) (j:fg X scope cl js N'):gg X N' js scope cl :=
 ⟨clos,kind,nocell,names,sub,has.get,j.len,j.get⟩
theorem boot_int:bootBuiltins "int"=some (.type "int"):=by decide +kernel
theorem boot_bool:bootBuiltins "bool"=some (.type "bool"):=by decide +kernel
theorem boot_tuple:bootBuiltins "tuple"=some (.type "tuple"):=by decide +kernel
theorem boot_list:bootBuiltins "list"=some (.type "list"):=by decide +kernel
theorem boot_abs:bootBuiltins "abs"=some (.builtin "abs"):=by decide +kernel
theorem boot_all:bootBuiltins "all"=some (.builtin "all"):=by decide +kernel
theorem boot_max:bootBuiltins "max"=some (.builtin "max"):=by decide +kernel
theorem boot_min:bootBuiltins "min"=some (.builtin "min"):=by decide +kernel
theorem ai {H:Hp} {p:Addr} {o:HO} (h:H p=none):au H (upd H p o):=λb u q=>by rw [ar (aY q h)];exact q
theorem bF {α:Type} {c:TT} {tb:TS} {D:Ends} {σ:St} {H:Hp} (S:α->St) (Pv:α->Hp->Prop) (μ:α->Nat) (x₀:α) (hσ:σ=S x₀) (h0:Pv x₀ H)
  (hs:∀ x H,Pv x H->c (S x) H λb H1=>if b=true then (∃ N:St->Hp->Prop,(∀ σ' H',N σ' H'->∃ y,σ'=S y/\Pv y H'/\μ y<μ x)/\tb { D with nx:=N,ct:=N,bk:=D.nx } (S x) H1) else D.nx (S x) H1):kP c tb D σ H:=by
 subst hσ
 refine⟨λm σ H=>∃ x,σ=S x/\Pv x H/\m=μ x,⟨_,x₀,rfl,h0,rfl⟩,?_⟩
 rintro m σ H ⟨x,rfl,p,rfl⟩
 have q:=hs x H p
 have e:(λb H1=>if b=true then (∃ N:St->Hp->Prop,(∀ σ' H',N σ' H'->∃ y,σ'=S y/\Pv y H'/\μ y<μ x)/\tb { D with nx:=N,ct:=N,bk:=D.nx } (S x) H1) else D.nx (S x) H1) =
   (λb H1=>if b=true then (∃ N:St->Hp->Prop,(∀ σ' H',N σ' H'->∃ m',m'<μ x/\∃ y,σ'=S y/\Pv y H'/\m'=μ y)/\tb { D with nx:=N,ct:=N,bk:=D.nx } (S x) H1) else D.nx (S x) H1):=by
  funext b H1
  cases b with
  | false=>rfl
  | true =>
   simp only [if_true]
   refine propext ⟨fun⟨N,hN,z⟩=>⟨N,λσ' H' n=>?_,z⟩,fun⟨N,hN,z⟩=>⟨N,λσ' H' n=>?_,z⟩⟩
   ·obtain⟨y,e1,e2,e3⟩:=hN σ' H' n
    exact⟨_,e3,y,e1,e2,rfl⟩
   ·obtain⟨m',l,y,e1,e2,e3⟩:=hN σ' H' n
    exact⟨y,e1,e2,e3▸l⟩
 rw [e] at q
 exact q
end L2
namespace Gcd
structure J (A B g u v ng nu nv:Int):Prop where
 g0:0<=g
 n0:0<=ng
 e1:u*A+v*B=g
 e2:nu*A+nv*B=ng
 ex:∃ s U NU V NV:Int,(s=1∨s = -1)/\0<=U/\0<=NU/\0<=V/\0<=NV/\u=s*U/\nu = -s*NU/\v = -s*V/\nv=s*NV/\g*NU+ng*U=B/\g*NV+ng*V=A /\
  (U<=1∨U<=B)/\(NU<=1∨NU<=B)/\(V<=1∨V<=A)/\(NV<=1∨NV<=A)
theorem J.start {A B:Int} (ha:0<=A) (hb:0<=B):J A B A 1 0 B 0 1 :=
 ⟨ha,hb,by grind,by grind,1,1,0,0,1,.inl rfl,by decide,by decide,by decide,by decide,by grind,by grind,by grind,by grind,by grind,by grind,.inl (by decide),.inl (by decide),.inl (by decide),.inl (by decide)⟩
theorem iA {n x B:Int} (hn:0<n) (hx:0<=x) (h:n*x<=B):x<=B:=by
 have:1*x<=n*x:=Int.mul_le_mul_of_nonneg_right hn hx
 omega
theorem J.turn {A B g u v ng nu nv:Int} (j:J A B g u v ng nu nv) (hn:0<ng) :
  J A B ng nu nv (g-g/ng*ng) (u-g/ng*nu) (v-g/ng*nv)/\(g-g/ng*ng)<ng/\0<=g/ng/\g/ng<=g:=by
 have q0:0<=g/ng:=Int.ediv_nonneg j.g0 j.n0
 have r:=Int.emod_def g ng
 have r0:=Int.emod_nonneg g (show ng≠0 by omega)
 have r1:=Int.emod_lt_of_pos g hn
 have ql:g/ng<=g:=Int.ediv_le_self ng j.g0
 have e1:=j.e1
 have e2:=j.e2
 have hc:g/ng*ng=ng*(g/ng):=Int.mul_comm _ _
 generalize g/ng=q at *
 obtain⟨s,U,NU,V,NV,hs,hU,hNU,hV,hNV,eu,enu,ev,env,b1,b2,l1,l2,l3,l4⟩:=j.ex
 have hqNU:0<=q*NU:=Int.mul_nonneg q0 hNU
 have hqNV:0<=q*NV:=Int.mul_nonneg q0 hNV
 have rr:0<=g-q*ng:=by omega
 have i1:ng*(U+q*NU)+(g-q*ng)*NU=B:=by grind
 have i2:ng*(V+q*NV)+(g-q*ng)*NV=A:=by grind
 have n1:0<=(g-q*ng)*NU:=Int.mul_nonneg rr hNU
 have n2:0<=(g-q*ng)*NV:=Int.mul_nonneg rr hNV
 refine⟨⟨j.n0,rr,e2,by grind,-s,NU,U+q*NU,NV,V+q*NV,by omega,hNU,by omega,hNV,by omega,by grind,by grind,by grind,by grind,i1,i2,l2,.inr (iA hn (by omega) (by omega)),l4,.inr (iA hn (by omega) (by omega))⟩,by omega,q0,ql⟩
structure uB (a b g u v:Int):Prop where
 g0:0<=g
 lin:u*a+v*b=g
 da:g∣a
 db:g∣b
 bu:u.natAbs<=max 1 b.natAbs
 bv:v.natAbs<=max 1 a.natAbs
theorem J.done {a b g u v nu nv:Int} (j:J (if a<0 then -a else a) (if b<0 then -b else b) g u v 0 nu nv):uB a b g (if a<0 then -u else u) (if b<0 then -v else v):=by
 have e1:=j.e1
 obtain⟨s,U,NU,V,NV,hs,hU,hNU,hV,hNV,eu,enu,ev,env,b1,b2,l1,l2,l3,l4⟩:=j.ex
 have hu:u.natAbs=U.toNat:=by
  rcases hs with rfl | rfl
  ·omega
  ·omega
 have hv:v.natAbs=V.toNat:=by
  rcases hs with rfl | rfl
  ·omega
  ·omega
 refine⟨j.g0,?_,?_,?_,?_,?_⟩
 ·split<;>split<;>rename_i h1 h2<;>simp only [h1,h2,if_true,if_false] at e1<;>grind
 ·have:g∣(if a<0 then -a else a):=⟨NV,by omega⟩
  by_cases h:a<0
  ·rw [if_pos h] at this
   exact Int.dvd_neg.mp this
  ·rw [if_neg h] at this
   exact this
 ·have:g∣(if b<0 then -b else b):=⟨NU,by omega⟩
  by_cases h:b<0
  ·rw [if_pos h] at this
   exact Int.dvd_neg.mp this
  ·rw [if_neg h] at this
   exact this
 ·have:(if a<0 then -u else u).natAbs=u.natAbs:=by split<;>omega
  rw [this,hu]
  split at l1<;>omega
 ·have:(if b<0 then -v else v).natAbs=v.natAbs:=by split<;>omega
  rw [this,hv]
  split at l3<;>omega
theorem J.small {A B g u v ng nu nv M:Int} (j:J A B g u v ng nu nv) (hA:0<=A) (hB:0<=B) (hAM:A<=M) (hBM:B<=M) (hM:1<=M):(-M<=u/\u<=M)/\(-M<=v/\v<=M)/\(-M<=nu/\nu<=M)/\(-M<=nv/\nv<=M):=by
 obtain⟨s,U,NU,V,NV,hs,hU,hNU,hV,hNV,eu,enu,ev,env,b1,b2,l1,l2,l3,l4⟩:=j.ex
 rcases hs with rfl | rfl
 ·refine⟨⟨?_,?_⟩,⟨?_,?_⟩,⟨?_,?_⟩,⟨?_,?_⟩⟩<;>omega
 ·refine⟨⟨?_,?_⟩,⟨?_,?_⟩,⟨?_,?_⟩,⟨?_,?_⟩⟩<;>omega
end Gcd
namespace L2
open PySem PySem.Spec PyProof.Rows
theorem au.upd {H H1:Hp} {p:Addr} {o:HO} (h:au H H1) (hp:H p=none):au H (upd H1 p o):=λb u q=>by rw [ar (aY q hp)];exact h b u q
theorem au.vt {H H1:Hp} {p:Addr} {o:HO} (h:au H H1) (hp:H1 p=none):au H (L2.upd H1 p o):=h.upd (h.free hp)
theorem rh {α:Type} {xs:List α} {k:Int} (h0:0<=k) (h1:k<xs.length):∃ v,ka xs k=some v/\xs[k.toNat]?=some v:=by
 have hk:k.toNat<xs.length:=by omega
 refine⟨xs[k.toNat],?_,List.getElem?_eq_getElem hk⟩
 have:=cH (xs:=xs) (j:=k.toNat) (List.getElem?_eq_getElem hk)
 rwa [Int.toNat_of_nonneg h0] at this
theorem cm {K:PySem.W.Frag} {H:Hp} {p:Addr} {xs:List V} {k:Int} {Q:VK} (h:bf K H p xs) (h0:0<=k) (h1:k<xs.length) (q:∀ v∈xs,Q v H):ml K (.ref p) (.int k) H Q:=by
 obtain⟨v,e,e2⟩:=rh h0 h1
 exact⟨p,xs,k,v,rfl,rfl,h,e,q v (List.mem_of_getElem? e2)⟩
theorem oZ {K:PySem.W.Frag} {H:Hp} {p:Addr} {xs:List Int} {k:Int} {Q:VK} (h:H p=some (.lst (xs.map V.int))) (h0:0<=k) (h1:k<xs.length) (q:∀ v∈xs,Q (.int v) H):ml K (.ref p) (.int k) H Q :=
 cm (bf.of h) h0 (by rw [List.length_map];exact h1) λv hv=>by
  obtain⟨i,hi,rfl⟩:=List.mem_map.mp hv
  exact q i hi
theorem kW {H:Hp} {p:Addr} {xs:List Int} {i:Int} {Q:VK} (h:H p=some (.lst (xs.map V.int))) (hz:xs.length<sizeLine) (q:Q .non (upd H p (.lst ((xs++[i]).map V.int)))):lB (.ref p) [.int i] H Q :=
 ⟨p,xs.map V.int,.int i,rfl,rfl,h,by rw [List.length_map];exact hz,by rw [List.map_append] at q;exact q⟩
def Loop (J:It) (g:TG) (tb:TS) (D:Ends) (σ:St) (H:Hp):Prop:=∃ W:Nat->Nat->St->Hp->Prop,(∃ m,W 0 m σ H)/\∀ i m σ H,W i m σ H ->
 (J.stop i H/\D.nx σ H)∨(J.go i H/\∃ N:St->Hp->Prop,(∀ σ' H',N σ' H'->∃ m',m'<m/\W (i+1) m' σ' H')/\∀ x H',J.yld i H x H'->g x σ H' λσ2 H2=>tb { D with nx:=N,ct:=N,bk:=D.nx } σ2 H2)
theorem qc {wi:TI} {g:TG} {tb:TS} {D:Ends} {σ:St} {H:Hp}:uu wi g tb D σ H=wi σ H λJ H1=>Loop J g tb D σ H1:=rfl
theorem gD {lo:Int} {n:Nat} {g:TG} {tb:TS} {D:Ends} {σ:St} {H:Hp} (Pv:Nat->St->Hp->Prop) (h0:Pv 0 σ H)
  (hs:∀ i σ H,i<n->Pv i σ H->g (.int (lo+i)) σ H λσ2 H2=>tb { D with nx:=Pv (i+1),ct:=Pv (i+1),bk:=D.nx } σ2 H2) (hd:∀ σ H,Pv n σ H->D.nx σ H):Loop (qf lo n) g tb D σ H:=lU Pv h0 hs hd
theorem iB {K:PySem.W.Frag} {a:Addr} {xs:List V} {g:TG} {tb:TS} {D:Ends} {σ:St} {H:Hp} (Pv:Nat->St->Hp->Prop) (h0:Pv 0 σ H) (hl:∀ i σ H,i<=xs.length->Pv i σ H->bf K H a xs)
  (hs:∀ i x σ H,xs[i]?=some x->Pv i σ H->g x σ H λσ2 H2=>tb { D with nx:=Pv (i+1),ct:=Pv (i+1),bk:=D.nx } σ2 H2) (hd:∀ σ H,Pv xs.length σ H->D.nx σ H):Loop (qW K a) g tb D σ H:=mW Pv h0 hl hs hd
theorem jL {K:PySem.W.Frag} {a:Addr} {xs:List V} {g:TG} {tb:TS} {D:Ends} {σ:St} {H:Hp} (Pv:Nat->St->Hp->Prop) (h0:Pv 0 σ H) (hl:∀ i σ H,i<=xs.length->Pv i σ H->aT K H a xs)
  (hs:∀ i x σ H,xs[i]?=some x->Pv i σ H->g x σ H λσ2 H2=>tb { D with nx:=Pv (i+1),ct:=Pv (i+1),bk:=D.nx } σ2 H2) (hd:∀ σ H,Pv xs.length σ H->D.nx σ H):Loop (qX K a) g tb D σ H:=oQ Pv h0 hl hs hd
def mF (J:It) (js:List (Option Nat)) (g:TG) (tt:TT) (te:TE) (σ:St) (Q:VK) (H1:Hp):Prop:=∃ W:Nat->Nat->List V->Hp->Prop,(∃ m,W 0 m [] H1)/\∀ i m ys H,W i m ys H ->
 (J.stop i H/\ys.length<=sizeLine/\∀ p,H p=none->Q (.ref p) (upd H p (.lst ys))) ∨
 (J.go i H/\ys.length<sizeLine/\∃ N:List V->Hp->Prop,(∀ ys' H',N ys' H'->∃ m',m'<m/\W (i+1) m' ys' H') /\
  ∀ x H',J.yld i H x H'->g x (du js σ) H' λσ2 H2=>bJ (du js σ) σ2/\tt σ2 H2 λb H3=>if b=true then te σ2 H3 λv H4=>N (ys++[v]) H4 else N ys H3)
theorem sr {js:List (Option Nat)} {wi:TI} {g:TG} {tt:TT} {te:TE} {σ:St} {H:Hp} {Q:VK}:vK js wi g tt te σ H Q=wi σ H λJ H1=>mF J js g tt te σ Q H1:=rfl
theorem dj {K:PySem.W.Frag} {a:Addr} {xs:List V} {js:List (Option Nat)} {g:TG} {tt:TT} {te:TE} {σ:St} {Q:VK} {H1:Hp} (Pv:Nat->List V->Hp->Prop) (h0:Pv 0 [] H1) (hx:xs.length<=sizeLine) (hl:∀ i ys H,i<=xs.length->Pv i ys H->bf K H a xs/\ys.length<=i)
  (hs:∀ i x ys H,xs[i]?=some x->Pv i ys H->g x (du js σ) H λσ2 H2=>bJ (du js σ) σ2/\tt σ2 H2 λb H3=>if b=true then te σ2 H3 λv H4=>Pv (i+1) (ys++[v]) H4 else Pv (i+1) ys H3)
  (hd:∀ ys H p,Pv xs.length ys H->H p=none->Q (.ref p) (upd H p (.lst ys))):mF (qW K a) js g tt te σ Q H1:=by
 refine⟨λi m ys H=>m=xs.length-i/\i<=xs.length/\Pv i ys H,⟨xs.length,by simp,Nat.zero_le _,h0⟩,?_⟩
 rintro i m ys H ⟨rfl,hi,p⟩
 obtain⟨q,hy⟩:=hl i ys H hi p
 by_cases hlt:i<xs.length
 ·refine .inr ⟨⟨xs,xs[i],q,by simp [hlt]⟩,by omega,Pv (i+1),λys' H' p'=>⟨xs.length-(i+1),by omega,rfl,hlt,p'⟩,λx H' y=>?_⟩
  obtain⟨e,y⟩:=y
  subst e
  exact hs i x ys _ (y xs q) p
 ·have e:i=xs.length:=by omega
  subst e
  exact .inl ⟨⟨xs,q,Nat.le_refl _⟩,by omega,λp' hp'=>hd ys H p' p hp'⟩
theorem eh {K:PySem.W.Frag} {a:Addr} {xs:List V} {js:List (Option Nat)} {g:TG} {tt:TT} {te:TE} {σ:St} {Q:VK} {H1:Hp} (Pv:Nat->List V->Hp->Prop) (h0:Pv 0 [] H1) (hx:xs.length<=sizeLine) (hl:∀ i ys H,i<=xs.length->Pv i ys H->aT K H a xs/\ys.length<=i)
  (hs:∀ i x ys H,xs[i]?=some x->Pv i ys H->g x (du js σ) H λσ2 H2=>bJ (du js σ) σ2/\tt σ2 H2 λb H3=>if b=true then te σ2 H3 λv H4=>Pv (i+1) (ys++[v]) H4 else Pv (i+1) ys H3)
  (hd:∀ ys H p,Pv xs.length ys H->H p=none->Q (.ref p) (upd H p (.lst ys))):mF (qX K a) js g tt te σ Q H1:=by
 refine⟨λi m ys H=>m=xs.length-i/\i<=xs.length/\Pv i ys H,⟨xs.length,by simp,Nat.zero_le _,h0⟩,?_⟩
 rintro i m ys H ⟨rfl,hi,p⟩
 obtain⟨q,hy⟩:=hl i ys H hi p
 by_cases hlt:i<xs.length
 ·refine .inr ⟨⟨xs,xs[i],q,by simp [hlt]⟩,by omega,Pv (i+1),λys' H' p'=>⟨xs.length-(i+1),by omega,rfl,hlt,p'⟩,λx H' y=>?_⟩
  obtain⟨e,y⟩:=y
  subst e
  exact hs i x ys _ (y xs q) p
 ·have e:i=xs.length:=by omega
  subst e
  exact .inl ⟨⟨xs,q,Nat.le_refl _⟩,by omega,λp' hp'=>hd ys H p' p hp'⟩
theorem vZ {CX:h7} {P:Program} {w:World} {K:PySem.W.Frag} {mg:Str->Option Value} {base:Heap} {N:List Str} {qual:Str} {scope:Scope} {f:Addr} {cd:Value} {A:Around} {outer:List Env} {s:Shared} {H:Hp} {E:XK} :
  (dk CX P w K mg base N qual scope f cd A outer s H E).K=K:=rfl
theorem sR {X:Cx} {N':List Str} {scope:Scope} {cl:List (Str × Addr)} {C:Addr} {s₂:Shared} {H₂:Hp} {fp:List Addr}:(iT X N' scope cl C s₂ H₂ fp).K=X.K:=rfl
theorem bp {K:PySem.W.Frag} {b k:Bool} {H:Hp}:mK K (.bl b) H k=(k=b):=rfl
theorem oj {K:PySem.W.Frag} {i:Int} {k:Bool} {H:Hp}:mK K (.int i) H k=(k=(i != 0)):=rfl
def ua (K:PySem.W.Frag):List V->Hp->VK->Prop:=λxs H Q=>∃ p ys,xs=[.ref p]/\(bf K H p ys∨aT K H p ys)/\Q (.int ys.length) H
theorem bN {X:Cx}:cG X (.builtin "len") (ua X.K):=iP
theorem cI {K:PySem.W.Frag} {H:Hp} {p:Addr} {xs:List V} {Q:VK} (h:aT K H p xs) (q:Q (.int xs.length) H):ua K [.ref p] H Q:=⟨p,xs,rfl,.inr h,q⟩
theorem rf {K:PySem.W.Frag} {H:Hp} {p:Addr} {bs:List Bool} {Q:VK} (h:bf K H p (bs.map V.bl)) (q:Q (.bl (bs.all id)) H):tX K [.ref p] H Q:=⟨p,bs,rfl,h,q⟩
theorem cQ {a b:Int}:ji (.int a) (.int b)=true:=rfl
theorem lH {a b:Bool}:ji (.bl a) (.bl b)=true:=rfl
theorem pX {a:Int}:ji (.int a) .non=true:=rfl
theorem pY {a:Int}:ji .non (.int a)=true:=rfl
theorem pZ:ji .non .non=true:=rfl
theorem pW {a:Bool}:ji (.bl a) .non=true:=rfl
theorem qa {a b:Str}:ji (.str a) (.str b)=true:=rfl
def vm (t:TS):TS:=λD σ H=>∃ R:St->Hp->Prop,t { D with nx:=R } σ H/\∀ σ' H',R σ' H'->D.nx σ' H'
theorem bM {X:Cx} {st:Stmt} {t:TS} (h:PS X st t):PS X st (vm t):=by
 intro pins s σ H D I ⟨R,hw,hR⟩
 refine bz (h pins s σ H _ I hw) λf s' q=>?_
 cases f with
 | next=>obtain⟨σ',H',I',r⟩:=q;exact⟨σ',H',I',hR _ _ r⟩
 | brk=>exact q
 | cont=>exact q
 | ret u=>exact q
theorem oP {P:Program} {w:World} {K:PySem.W.Frag} {mg:Str->Option Value} {base:Heap} {k:Nat} {x:Str} {ps:List Str} {sp:Sp} {st:Stmt} {N:List Str} {f:Addr} {fd:FuncData} (F:ou K x x st f fd)
  (S:az N ps (ao st)) (len:∀ vs H Q E,sp vs H Q E->vs.length=ps.length)
  (hbody:∀(cdv:Value) (A:Around) (outer:List Env) (s:Shared) (H:Hp) (vs:List V) (Q:VK) (E:XK),bX k (A.deeper (envOfC x (ao st) s.heap.objs.size f cdv))->sp vs H Q E ->
   ∃ t,gh (dk bc P w K mg base N x (ao st) f cdv A outer s H E).j2 (aV st) t/\t { nx:=λ_ H'=>Q .non H',rt:=Q } (start N vs) H):cj P w K mg base bc (k+1) f fd ps sp :=
 F.ok S len λcdv A outer s H vs Q E hr h=>hbody cdv A outer s H vs Q E hr h
theorem ph {P:Program} {w:World} {K:PySem.W.Frag} {mg:Str->Option Value} {k:Nat} {x y:Str} {sp:Sp} {st:Stmt} {fa:Addr} (hfa:mg x=some (.ref fa)) (D:ax K mg x st)
  (hb:∀(kV doc pm:Value) (an:Option Addr) (cdv ct:Value) (u:Value),bindArgs (PySem.W.fnOf x x (bG st) (aV st) (ao st) .none kV doc pm an cdv ct) ⟨[u],[]⟩=pure [(y,u)])
  (ok:∀(base:Heap) (f:Addr) (fd:FuncData),K.In base->ou K x x st f fd->cj P w K mg base bc k f fd [y] sp) :
  ∃ fd:FuncData,(∀(s:Shared) (u:Value),BindsTo s fd ⟨[u],[]⟩ [(y,u)])/\∀ base:Heap,K.In base->base.Ns mainGlobals mg->cj P w K mg base bc k fa fd [y] sp:=by
 obtain⟨f,fd,F,hm⟩:=D
 have e:=hfa.symm.trans hm
 cases e
 refine⟨fd,λs u=>?_,λbase kb _=>ok base _ _ kb F⟩
 obtain⟨oc,od,kV,doc,pm,an,cdv,ct,osl,rfl,lk,hcd⟩:=F.ex
 exact .of_eq (hb kV doc pm an cdv ct u)
end L2
namespace L2
open PySem PySem.Spec PyProof.Rows PySem.W
def bK:List Value:=[.type "ValueError",.type "Exception",.type "BaseException",.type "object"]
def bD:List Value->Bool
 | .ref _::r=>bD r
 | l=>l==bK
theorem jS (self:Value):refuseLoop self "__setattr__" bK=pure ():=by kernel_rfl
theorem gO (self:Value):∀{l:List Value},bD l=true->refuseLoop self "__setattr__" l=pure ()
 | .ref c::r,e=>by rw [refuseLoop_ref];exact gO self (l:=r) e
 | [],e=>by cases e
 | .type n::r,e=>by
  have:Value.type n::r=bK:=by simpa [bD] using e
  rw [this];exact jS self
 | .none::r,e=>by simp [bD,bK] at e
 | .bool _::r,e=>by simp [bD,bK] at e
 | .int _ _::r,e=>by simp [bD,bK] at e
 | .str _ _::r,e=>by simp [bD,bK] at e
 | .bytes _ _::r,e=>by simp [bD,bK] at e
 | .float _ _::r,e=>by simp [bD,bK] at e
 | .builtin _::r,e=>by simp [bD,bK] at e
theorem iV {l:List Value}:bD l=true->l.contains (.type "object")=true/\l.contains (.type "BaseException")=true/\l.isEmpty=false:=by
 intro h
 induction l with
 | nil=>cases h
 | cons a r ih =>
  cases a with
  | ref c =>
   obtain⟨h1,h2,_⟩:=ih h
   exact⟨by rw [List.contains_cons,h1,Bool.or_true],by rw [List.contains_cons,h2,Bool.or_true],rfl⟩
  | type n =>
   have e:Value.type n::r=bK:=by simpa [bD] using h
   rw [e]
   exact⟨by decide,by decide,rfl⟩
  | _=>simp [bD,bK] at h
section
variable {prog:Program} {w:World} {A:Around} {E:Value->Shared->Prop} {s:Shared} {K:PySem.W.Frag} {x C:Addr} {name:Str} {v:Value} {cd:ClassData}
theorem oN {vs:Array Value} {sl:Array (Option Value)} {Q:Unit->Shared->Prop} (X:K.In s.heap) (hx:s.heap.get? x=some ⟨.ref C,none,.fields vs,sl⟩) (hc:clsIn K C=some cd) (hm:bD cd.mro=true) (hh:cd.hasDict=true)
  (hs:findIn K (.ref C) "__setattr__"=some (some (.builtin "object.__setattr__"))) (hn:findIn K (.ref C) name=some none)
  (h:∀ h',h'.get? x=some ⟨.ref C,some s.heap.objs.size,.fields vs,sl⟩->h'.Ns1 s.heap.objs.size (λy=>if y=name then some v else none)->(∀ b ob,b≠x->s.heap.get? b=some ob->h'.get? b=some ob)->Q () { s with heap:=h',toks:=s.toks+2 }) :
  wpAny (model prog w) A (setAttr (.ref x) name v) Q E s:=by
 have I:PySem.W.InstAt s.heap x ⟨.ref C,none,.fields vs,sl⟩ C none:=⟨hx,rfl,rfl,True.intro⟩
 obtain⟨m1,m2,m3⟩:=iV hm
 refine PySem.W.set_plain X I hs ?_
 have SF:=PySem.F.store_object
 have sub:Looks (model prog w) s.heap (isInstance (.ref x) (.type "object")) true:=I.type.andThen (looks_mroIn X (by unfold mroIn;rw [hc,Option.bind_some,if_neg (by rw [m3];decide),m1]))
 refine codeAny_call_builtin SF.slot.plain SF.entry (@check_slot (model prog w) _ _ { s with toks:=s.toks+1 } "object.__setattr__" "object" "__setattr__" (.ref x) [.str name s.toks,v] [] _ SF.kind SF.split sub (SF.args (.ref x) (.str name s.toks) v) ?_)
 have L1:Looks (model prog w) s.heap (mroOf (.ref C)) cd.mro:=(looks_clsIn X hc).andThen .now
 rw [osa_eq,refuse_eq]
 refine wpAny_bind (wpAny_bind (Looks.here (s:={ s with toks:=s.toks+1 }) I.type (wpAny_bind (Looks.here (s:={ s with toks:=s.toks+1 }) L1 ?_))))
 rw [gO _ hm]
 refine wpAny_pure (wpAny_bind (Looks.here (s:={ s with toks:=s.toks+1 }) I.type (wpAny_bind (Looks.here (s:={ s with toks:=s.toks+1 }) (looks_findIn X hn) (wpAny_bind (wpAny_pure ?_))))))
 show wpAny _ _ (Builtin.ObjectAttr.storeInOwnDict (.ref x) (.ref C) (.str name s.toks) name v false) _ _ _
 refine wpAny_bind (wpAny_pure (wpAny_bind (wpAny_bind (wpAny_loadPart hx (wpAny_bind (Looks.here (s:={ s with toks:=s.toks+1 }) (looks_clsIn X hc) ?_))))))
 rw [hh]
 refine wpAny_bind (wpAny_alloc ?_)
 have hlt:x≠s.heap.objs.size:=Nat.ne_of_lt (Heap.lt_size hx)
 have hp:(s.heap.push { cls:=.type "dict",data:=.dict #[] }).get? x=some ⟨.ref C,none,.fields vs,sl⟩:=Heap.get?_push_of_some _ hx
 refine wpAny_bind (wpAny_update (s:={ s with toks:=s.toks+1,heap:=s.heap.push { cls:=.type "dict",data:=.dict #[] } }) hp ?_)
 refine wpAny_pure ?_
 show wpAny _ _ (Builtin.ObjectAttr.storeInDict s.heap.objs.size (.str name s.toks) name v) _ _ _
 generalize hu:(s.heap.push { cls:=.type "dict",data:=.dict #[] }).update x (λo=>{ o with dict:=some s.heap.objs.size })=h1
 have g1:h1.get? x=some ⟨.ref C,some s.heap.objs.size,.fields vs,sl⟩:=by rw [<- hu];exact Heap.get?_update_self _ hp rfl
 have g2:∀ b,b≠x->h1.get? b=(s.heap.push { cls:=.type "dict",data:=.dict #[] }).get? b:=λb hb=>by rw [<- hu];exact Heap.get?_update_other _ _ (Ne.symm hb)
 have g3:h1.Ns1 s.heap.objs.size (λ_=>none):=by
  have e1:h1.get? s.heap.objs.size=some { cls:=.type "dict",data:=.dict #[] }:=by rw [g2 _ (Ne.symm hlt)];exact Heap.get?_push_size _ rfl
  have e3:h1.Ns s.heap.objs.size (λ_=>none):=⟨_,#[],_,e1,rfl,(λe he=>absurd he (by simp)),λ_=>rfl⟩
  exact Heap.Ns1.of_empty e3
 refine wpAny_bind (wpAny_pure (wpAny_bind ?_))
 refine wpAny_nsSet1 (s:={ s with toks:=s.toks+1,heap:=h1 }) g3 λh' hn2 hs2=>?_
 obtain⟨oD,esD,epD,hoD,hdD,hcD⟩:=hn2.count (ns:=[name]) (PySem.Within.cons name v (ns:=[]) (λy hy=>absurd rfl hy))
 refine wpAny_bind (wpAny_lookBehind hoD (by rw [hdD];exact pastItsLine_dict (Nat.le_trans hcD (by show 1<=sizeLine+1;decide))) ?_)
 refine wpAny_pure (h h' ((hs2.2 _ hlt).trans g1) hn2 λb ob hb e=>?_)
 have hb2:b≠s.heap.objs.size:=Nat.ne_of_lt (Heap.lt_size e)
 exact (hs2.2 b hb2).trans ((g2 b hb).trans (Heap.get?_push_of_some _ e))
structure cF (K:PySem.W.Frag) (C:Addr):Prop where
 cls:∃ cd,clsIn K C=some cd/\bD cd.mro=true/\cd.hasDict=true
 at_:∃ od cd sl,K.lookup C=some ⟨.type "type",od,.cls cd,sl⟩
 sa:findIn K (.ref C) "__setattr__"=some (some (.builtin "object.__setattr__"))
 ga:findIn K (.ref C) "__getattribute__"=some (some (.builtin "BaseException.__getattribute__"))
 gx:findIn K (.ref C) "__getattr__"=some none
 ca:findIn K (.ref C) "__class__"=some (some (.builtin "object.__class__"))
 gs:specialIn K (.builtin "object.__class__") "__get__"=some (some (.builtin "getset_descriptor.__get__"))
 tk:takesIn K (.builtin "object.__class__")=some true
theorem cF.there (c:cF K C) {h:Heap} (X:K.In h):∃ oc od cd sl,h.get? C=some ⟨oc,od,.cls cd,sl⟩:=by
 obtain⟨cd,hc,_⟩:=c.cls
 unfold clsIn at hc
 split at hc
 ·rename_i c' d' cd' sl' ho
  exact⟨_,_,_,_,X _ _ ho⟩
 ·cases hc
end
section
variable {prog:Program} {w:World} {A:Around} {E:Value->Shared->Prop} {h:Heap} {g:Array GenState} {d:Drawn} {t:Nat} {os:OsState}
variable {nm q:Str} {C N:Addr} {bs bm:List Value} {hdct:Bool} {sn:List Str} {sub:List Value} {ab:Bool} {col:Option Bool} {dd:Option Addr} {k0 k1 k2 k3 k5:Option Value}
abbrev ig:String := "ValueError.__new__"
abbrev newExc (C a:Addr):Obj:={ cls:=.ref C,data:=.fields #[.ref a,.none,.none,.none,.bool false,.none] }
theorem oM (hB:bm.contains (.type "ValueError")=true) (hA:bm.contains (.type "AttributeError")=false) (hN:bm.contains (.type "NameError")=false) {rest:List Value} {R:Result->Shared->Prop}
  (hC:h.get? C=some (excClassObj nm q C N bs bm hdct sn sub ab col dd k0 k1 k2 k3 k5 ig)) (hrest:rest.length<=sizeLine)
  (hq:R (.ok (.ret (.ref (h.objs.size+1)))) ⟨(h.push { cls:=.type "tuple",data:=.seq rest.toArray }).push (newExc C h.objs.size),g,d,t,os⟩) :
  codeAny (model prog w) A (.builtin ig ⟨.ref C::rest,[]⟩) R ⟨h,g,d,t,os⟩:=by
 have Fn:=PySem.F.excBase_ValueError
 have hends:=Fn.ends
 have cB:(Value.ref C::bm).contains (.type "ValueError")=true:=by rw [List.contains_cons,hB,Bool.or_true]
 have cA:(Value.ref C::bm).contains (.type "AttributeError")=false:=by rw [List.contains_cons,hA];rfl
 have cN:(Value.ref C::bm).contains (.type "NameError")=false:=by rw [List.contains_cons,hN];rfl
 refine codeAny_builtinAt Fn.entry ?_
 unfold Builtin.«BaseException.__new__»
 refine PySem.wpAt_bind ?_
 show PySem.wpAt _ _ _ (stack >>= _) _ _ _
 refine PySem.wpAt_bind (PySem.wpAt_stack λp below=>PySem.wpAt_of_wpAny ?_)
 wp_walk
 refine PySem.wpAt_of_wpAny ?_
 rw [Fn.owner]
 repeat (first | with_reducible refine wpAny_madeHere_exc Fn.canon hC ?_ | with_reducible refine wpAny_loadPart_at hC ?_ | (with_reducible refine wpAny_isSubtype_exc hC ?_;first | rw [cB] | rw [cA] | rw [cN]) | wp_step)
 show R _ _
 rw [Heap.size_push]
 exact hq
theorem ia (hB:bm.contains (.type "ValueError")=true) {rest:List Value} {M:Model} {Q:Unit->Shared->Prop} (hC:h.get? C=some (excClassObj nm q C N bs bm hdct sn sub ab col dd k0 k1 k2 k3 k5 ig))
  (hq:Q () ⟨h,g,d,t,os⟩):wpAny M A (checkBuiltinCall ig ⟨.ref C::rest,[]⟩) Q E ⟨h,g,d,t,os⟩:=by
 have Fn:=PySem.F.excBase_ValueError
 have cB:(Value.ref C::bm).contains (.type "ValueError")=true:=by rw [List.contains_cons,hB,Bool.or_true]
 have hstar:=Fn.noStar
 simp only [checkBuiltinCall,Fn.newKind,Fn.newSplit,Fn.newRow]
 repeat (first | refine wpAny_loadPart_at hC ?_ | (refine wpAny_isSubtype_exc hC ?_;rw [cB]) | refine wpAny_staticBase_exc hC ?_ | refine wpAny_madeBy_exc hC ?_ | simp only [bne_self_eq_false,Bool.false_eq_true,if_false] | wp_step)
 exact hq
theorem iW {K:PySem.W.Frag} {i:Value} {rest:List Value} {Q:Fin->Shared->Prop} (X:K.In h) (hB:bm.contains (.type "ValueError")=true) (hA:bm.contains (.type "AttributeError")=false) (hN:bm.contains (.type "NameError")=false)
  (hC:h.get? C=some (excClassObj nm q C N bs bm hdct sn sub ab col dd k0 k1 k2 k3 k5 ig)) (hrest:rest.length<=sizeLine) (hi:findIn K (.ref C) "__init__"=some (some i)) {j:Value}
  (hb:Looks (model prog w) h (bindSpecial i (.ref (h.objs.size+1))) (j,[.ref (h.objs.size+1)]))
  (hq:codeAny (model prog w) A (.call j ⟨.ref (h.objs.size+1)::rest,[]⟩) (λr s'=>match r with | .ok (.ret v)=>v=.none/\Q (.done (.ret (.ref (h.objs.size+1)))) s' | .ok _=>False | .error e=>E e s')
   ⟨(h.push { cls:=.type "tuple",data:=.seq rest.toArray }).push (newExc C h.objs.size),g,d,t,os⟩) :
  wpAny (model prog w) A (Builtin.«type.__call__» ⟨.ref C::rest,[]⟩) Q E ⟨h,g,d,t,os⟩:=by
 have Fn:=PySem.F.excBase_ValueError
 repeat (first | with_reducible refine wpAny_loadPart_at hC ?_ | with_reducible refine wpAny_madeBy_exc hC ?_ | wp_step)
 refine codeAny_call_builtin_code (Code.quiet_builtin _ Fn.quiet) (ia hB hC ?_)
 refine oM hB hA hN hC hrest ?_
 show wpAny _ _ _ _ _ _
 have kp:∀ b o,h.get? b=some o->((h.push { cls:=.type "tuple",data:=.seq rest.toArray }).push (newExc C h.objs.size)).get? b=some o:=λb o e=>Heap.get?_push_of_some _ (Heap.get?_push_of_some _ e)
 have hget:((h.push { cls:=.type "tuple",data:=.seq rest.toArray }).push (newExc C h.objs.size)).get? (h.objs.size+1)=some (newExc C h.objs.size):=by
  have:=Heap.get?_push_size (h.push { cls:=.type "tuple",data:=.seq rest.toArray }) (o:=newExc C h.objs.size) rfl
  rwa [Heap.size_push] at this
 have cC:(Value.ref C::bm).contains (.ref C)=true:=by simp
 have hC₁:=kp _ _ hC
 have L1:=(looks_findIn (M:=model prog w) X hi).keeps kp
 have L2:=hb.keeps kp
 unfold isInstance
 repeat (first | with_reducible refine wpAny_loadPart_at hget ?_ | (with_reducible refine wpAny_isSubtype_exc hC₁ ?_;rw [cC]) | wp_step)
 show wpAny _ _ (typeLookup (.ref C) _) _ _ _
 refine L1.at (wpAny_holding (wpAny_bind (L2.at (wpAny_bind (wpAny_call (codeAny_mono hq λr s' z=>?_))))))
 rcases r with e | (_ | _ | _ | v)
 ·exact z
 ·exact z.elim
 ·exact z.elim
 ·exact z.elim
 ·obtain⟨rfl,z⟩:=z
  exact wpAny_pure (wpAny_pure z)
theorem jG {K:PySem.W.Frag} {i:Value} {rest:List Value} {Q:Value->Shared->Prop} (X:K.In h) (hB:bm.contains (.type "ValueError")=true) (hA:bm.contains (.type "AttributeError")=false) (hN:bm.contains (.type "NameError")=false)
  (hC:h.get? C=some (excClassObj nm q C N bs bm hdct sn sub ab col dd k0 k1 k2 k3 k5 ig)) (hrest:rest.length<=sizeLine) (hi:findIn K (.ref C) "__init__"=some (some i)) {j:Value}
  (hb:Looks (model prog w) h (bindSpecial i (.ref (h.objs.size+1))) (j,[.ref (h.objs.size+1)]))
  (hq:codeAny (model prog w) (A.under (.builtin "type.__call__" ⟨.ref C::rest,[]⟩)) (.call j ⟨.ref (h.objs.size+1)::rest,[]⟩) (λr s'=>match r with | .ok (.ret v)=>v=.none/\Q (.ref (h.objs.size+1)) s' | .ok _=>False | .error e=>E e s')
   ⟨(h.push { cls:=.type "tuple",data:=.seq rest.toArray }).push (newExc C h.objs.size),g,d,t,os⟩) :
  wpAny (model prog w) A (call (.ref C) rest) Q E ⟨h,g,d,t,os⟩:=by
 have f1:=tc_lookup
 have f2:=tc_bind (.ref C)
 have hT:(⟨h,g,d,t,os⟩:Shared).TypeIs (.ref C) "type":=⟨_,hC,rfl⟩
 refine wpAny_call (codeAny_of_tree ?_)
 show wpAny _ _ (callAny (.ref C) _) _ _ _
 repeat (any_goals (first | assumption | with_reducible refine wpAny_loadPart_at hC ?_ | wp_step))
 refine⟨rfl,?_⟩
 refine codeAny_call_builtin_at (Code.quiet_builtin _ (by decide +kernel)) entry_typeCall (wpAny_check_type_call_sub hC ?_)
 exact iW X hB hA hN hC hrest hi hb hq
end
def Tr (h:Heap) (e:Addr) (C:Value) (dd:Option Addr) (T:Addr) (fl:Value):Prop :=
 ∃ vs sl oT ts,h.get? e=some ⟨C,dd,.fields vs,sl⟩/\vs[1]?=some (.ref T)/\T≠e/\h.get? T=some oT/\oT.data=.fields ts/\ts[3]?=some fl
structure Kp (fs ch:List Addr) (h h':Heap):Prop where
 keep:∀ b o,b∉ch->b∉fs->h.get? b=some o->h'.get? b=some o
 slot:∀ b o,b∉ch->h.get? b=some o->∃ sl,h'.get? b=some { o with slots:=sl }
theorem Kp.trans {fs ch:List Addr} {h h' h'':Heap} (a:Kp fs ch h h') (b:Kp fs ch h' h''):Kp fs ch h h'' :=
 ⟨λc o hc hf e=>b.keep c o hc hf (a.keep c o hc hf e),λc o hc e=>by
  obtain⟨sl,e1⟩:=a.slot c o hc e
  obtain⟨sl',e2⟩:=b.slot c _ hc e1
  exact⟨sl',e2⟩⟩
theorem Kp.mono {fs ch ch':List Addr} {h h':Heap} (a:Kp fs ch h h') (hs:∀ b∈ch,b∈ch'):Kp fs ch' h h' :=
 ⟨λc o hc hf e=>a.keep c o (λz=>hc (hs c z)) hf e,λc o hc e=>a.slot c o (λz=>hc (hs c z)) e⟩
section
variable {M:Model} {A:Around} {E:Value->Shared->Prop} {s:Shared} {base:Heap} {env:Env} {outer:List Env} {L e T:Addr} {C:Value} {dd:Option Addr} {fl:Value}
theorem jI {vs:Array Value} {sl:Array (Option Value)} {head:Value} {hadNext:Bool} {Q:Unit->Shared->Prop} (hfr:A.frames=some (env::outer)) (hl:s.heap.FunFrames base (env::outer)) (hf:env.frame=some L)
  (he:s.heap.get? e=some ⟨C,dd,.fields vs,sl⟩) (hsz:1<vs.size)
  (h:∀ h' T,Tr h' e C dd T (rawInt L)->s.heap.objs.size<=T->Kp (eK (env::outer)) [e] s.heap h'->Q () { s with heap:=h' }) :
  wpAny M A (do let a <- frameOf env;let pl <- entryPlaceOf L hadNext;let b <- EntryCells.newEntry head a .none (rawInt L) .none pl;setField (.ref e) 1 b) Q E s:=by
 have hne:e∉eK (env::outer):=λhm=>by
  obtain⟨_,o,ho,hnf⟩:=hl.mem hm
  rw [he] at ho
  cases ho
  exact hnf vs rfl
 refine wpAny_bind (wpAny_frameOf_fun hfr hl hf λh1 so=>?_)
 refine wpAny_bind (wpAny_entryPlaceOf λpl hpl=>?_)
 unfold EntryCells.newEntry newFields
 refine wpAny_bind (wpAny_newObj_type ?_ (hpl.sizeOk5 _ _ _ _ _))
 have e1:h1.get? e=some ⟨C,dd,.fields vs,sl⟩:=(so.2.1 e hne).trans he
 generalize hO:({ cls:=.type "traceback",dict:=none,data:=.fields ([head,.ref L,.none,rawInt L,.none]++(if pl.isEmpty then List.replicate 6 Value.none else pl)).toArray }:Obj)=oT
 have hTd:oT.data=.fields ([head,.ref L,.none,rawInt L,.none]++(if pl.isEmpty then List.replicate 6 Value.none else pl)).toArray:=by rw [<- hO]
 have hTf:oT.isFreed=false:=by rw [<- hO];rfl
 have e2:(h1.push oT).get? e=some ⟨C,dd,.fields vs,sl⟩:=Heap.get?_push_of_some oT e1
 refine wpAny_setField e2 rfl hsz (h _ h1.objs.size ?_ ?_ ?_)
 ·have ne:h1.objs.size≠e:=Nat.ne_of_gt (Heap.lt_size e1)
  refine⟨vs.setIfInBounds 1 (.ref h1.objs.size),sl,oT,_,Heap.get?_update_self _ e2 rfl,by simp [hsz],ne,?_,hTd,by simp⟩
  rw [Heap.get?_update_other _ _ (Ne.symm ne)]
  exact Heap.get?_push_size h1 hTf
 ·exact Nat.le_of_eq (Eq.symm so.1)
 ·refine⟨λb o hb hf' q=>?_,λb o hb q=>?_⟩
  ·have hb':b≠e:=λz=>hb (by simp [z])
   rw [Heap.get?_update_other _ _ (Ne.symm hb')]
   exact Heap.get?_push_of_some oT ((so.2.1 b hf').trans q)
  ·have hb':b≠e:=λz=>hb (by simp [z])
   obtain⟨sl',q'⟩:=so.2.2 b o q
   refine⟨sl',?_⟩
   rw [Heap.get?_update_other _ _ (Ne.symm hb')]
   exact Heap.get?_push_of_some oT q'
theorem ky {vs:Array Value} {sl:Array (Option Value)} {Q:Unit->Shared->Prop} (hfr:A.frames=some (env::outer)) (hl:s.heap.FunFrames base (env::outer)) (hf:env.frame=some L)
  (he:s.heap.get? e=some ⟨C,dd,.fields vs,sl⟩) (h1:vs[1]?=some .none)
  (h:∀ h' T,Tr h' e C dd T (rawInt L)->s.heap.objs.size<=T->Kp (eK (env::outer)) [e] s.heap h'->Q () { s with heap:=h' }):wpAny M A (noteFrame (.ref e) env) Q E s:=by
 unfold noteFrame
 simp only [hf]
 refine wpAny_bind (wpAny_field he rfl h1 ?_)
 rw [if_neg (by decide)]
 exact jI hfr hl hf he (Array.getElem?_eq_some_iff.mp h1).1 h
theorem l7 {Q:Unit->Shared->Prop} (hfr:A.frames=some (env::outer)) (hl:s.heap.FunFrames base (env::outer)) (hf:env.frame=some L) (ht:Tr s.heap e C dd T .none)
  (h:∀ h' T',Tr h' e C dd T' (rawInt L)->s.heap.objs.size<=T'->Kp (eK (env::outer)) [e,T] s.heap h'->Q () { s with heap:=h' }):wpAny M A (noteFrame (.ref e) env) Q E s:=by
 obtain⟨vs,sl,oT,ts,he,h1,hTe,hT,hdT,h3⟩:=ht
 unfold noteFrame
 simp only [hf]
 refine wpAny_bind (wpAny_field he rfl h1 ?_)
 rw [if_pos (show (Value.ref T != Value.none)=true from by simp)]
 refine wpAny_bind (wpAny_field hT hdT h3 ?_)
 rw [if_neg (show ¬((Value.none==rawInt L)=true) from by simp [rawInt])]
 refine wpAny_bind (wpAny_setField hT hdT (Array.getElem?_eq_some_iff.mp h3).1 ?_)
 generalize hu:s.heap.update T (Obj.mapFields (·.setIfInBounds 3 Value.none))=h1'
 have oth:∀ b,b≠T->h1'.get? b=s.heap.get? b:=λb hb=>by rw [<- hu];exact Heap.get?_update_other _ _ (Ne.symm hb)
 have hT1:∃ o,h1'.get? T=some o:=⟨_,by rw [<- hu];exact Heap.get?_update_self _ hT (Obj.isFreed_of_fields (Obj.data_mapFields hdT _))⟩
 have hl1:h1'.FunFrames base (env::outer):=hl.of_keeps λb o hb hnf=>⟨o,(oth b λq=>by rw [q,hT] at hb;cases hb;exact hnf ts hdT).trans hb,rfl⟩
 refine jI (s:={ s with heap:=h1' }) hfr hl1 hf ((oth e (Ne.symm hTe)).trans he) (Array.getElem?_eq_some_iff.mp h1).1 λh' T' t' n' k'=>h h' T' t' ?_ ?_
 ·have z:h1'.objs.size=s.heap.objs.size:=by rw [<- hu];exact Heap.size_update ..
  rw [<- z];exact n'
 ·refine⟨λb o hb hf' q=>k'.keep b o (λz=>hb (by simp at z;simp [z])) hf' ((oth b λz=>hb (by simp [z])).trans q),λb o hb q=>k'.slot b o (λz=>hb (by simp at z;simp [z])) ((oth b λz=>hb (by simp [z])).trans q)⟩
theorem land {Q:Unit->Shared->Prop} {fs:List Addr} (ht:Tr s.heap e C dd T fl) (h:∀ h',Tr h' e C dd T .none->Kp fs [T] s.heap h'->Q () { s with heap:=h' }):wpAny M A (setFlight (.ref e) none) Q E s:=by
 obtain⟨vs,sl,oT,ts,he,h1,hTe,hT,hdT,h3⟩:=ht
 unfold setFlight
 refine wpAny_bind (wpAny_field he rfl h1 ?_)
 rw [if_pos (show (Value.ref T != Value.none)=true from by simp)]
 have hsz:=(Array.getElem?_eq_some_iff.mp h3).1
 refine wpAny_setField hT hdT hsz (h _ ?_ ?_)
 ·refine⟨vs,sl,_,_,(Heap.get?_update_other _ _ hTe).trans he,h1,hTe,Heap.get?_update_self _ hT (Obj.isFreed_of_fields (Obj.data_mapFields hdT _)),Obj.data_mapFields hdT _,by simp [hsz]⟩
 ·refine⟨λb o hb _ q=>(Heap.get?_update_other _ _ λz=>hb (by simp [z])).trans q,λb o hb q=>⟨o.slots,(Heap.get?_update_other _ _ λz=>hb (by simp [z])).trans q⟩⟩
theorem jK {vs:Array Value} {sl:Array (Option Value)} {Q:Unit->Shared->Prop} (hfr:A.frames=some (env::outer)) (hl:s.heap.FunFrames base (env::outer)) (hf:env.frame=some L)
  (he:s.heap.get? e=some ⟨C,dd,.fields vs,sl⟩) (h1:vs[1]?=some .none)
  (h:∀ h' T,Tr h' e C dd T .none->s.heap.objs.size<=T->Kp (eK (env::outer)) [e] s.heap h'->Q () { s with heap:=h' }):wpAny M A (leaving env (.ref e)) Q E s:=by
 unfold leaving
 refine wpAny_bind (ky hfr hl hf he h1 λh1' T t1 n1 k1=>?_)
 refine land (fs:=eK (env::outer)) t1 λh2 t2 k2=>h h2 T t2 n1 ⟨λb o hb hf' q=>?_,λb o hb q=>?_⟩
 ·exact k2.keep b o (λz=>by simp at z;rw [z] at q;exact absurd (Heap.lt_size q) (Nat.not_lt.mpr n1)) hf' (k1.keep b o hb hf' q)
 ·obtain⟨s1,q1⟩:=k1.slot b o hb q
  obtain⟨s2,q2⟩:=k2.slot b _ (λz=>by simp at z;rw [z] at q;exact absurd (Heap.lt_size q) (Nat.not_lt.mpr n1)) q1
  exact⟨s2,q2⟩
theorem kr {Q:Unit->Shared->Prop} (hfr:A.frames=some (env::outer)) (hl:s.heap.FunFrames base (env::outer)) (hf:env.frame=some L) (ht:Tr s.heap e C dd T .none)
  (h:∀ h' T',Tr h' e C dd T' .none->s.heap.objs.size<=T'->Kp (eK (env::outer)) [e,T] s.heap h'->Q () { s with heap:=h' }):wpAny M A (leaving env (.ref e)) Q E s:=by
 unfold leaving
 refine wpAny_bind (l7 hfr hl hf ht λh1' T' t1 n1 k1=>?_)
 refine land (fs:=eK (env::outer)) t1 λh2 t2 k2=>h h2 T' t2 n1 ⟨λb o hb hf' q=>?_,λb o hb q=>?_⟩
 ·exact k2.keep b o (λz=>by simp at z;rw [z] at q;exact absurd (Heap.lt_size q) (Nat.not_lt.mpr n1)) hf' (k1.keep b o hb hf' q)
 ·obtain⟨s1,q1⟩:=k1.slot b o hb q
  obtain⟨s2,q2⟩:=k2.slot b _ (λz=>by simp at z;rw [z] at q;exact absurd (Heap.lt_size q) (Nat.not_lt.mpr n1)) q1
  exact⟨s2,q2⟩
end
def XO (x C:Addr) (dd:Option Addr):HO:=.ext λh=>∃ vs sl,h.get? x=some ⟨.ref C,dd,.fields vs,sl⟩
def XN (x C:Addr) (dd:Option Addr):HO:=.ext λh=>∃ t sl,h.get? x=some ⟨.ref C,dd,.fields #[.ref t,.none,.none,.none,.bool false,.none],sl⟩
section
variable {P:Program} {w:World} {H H':Hp} {h h':Heap} {x C:Addr} {dd:Option Addr}
theorem XO.ok {vs:Array Value} {sl:Array (Option Value)} (e:h.get? x=some ⟨.ref C,dd,.fields vs,sl⟩):bC P w H h x (XO x C dd) :=
 ⟨⟨vs,sl,e⟩,⟨_,e⟩,λ_ _ ⟨vs,sl,q⟩ k=>⟨vs,sl,k _ q⟩⟩
theorem XN.ok {t:Addr} {sl:Array (Option Value)} (e:h.get? x=some ⟨.ref C,dd,.fields #[.ref t,.none,.none,.none,.bool false,.none],sl⟩):bC P w H h x (XN x C dd) :=
 ⟨⟨t,sl,e⟩,⟨_,e⟩,λ_ _ ⟨vs,sl,q⟩ k=>⟨vs,sl,k _ q⟩⟩
theorem XN.get (hok:ff P w H h) (e:H x=some (XN x C dd)):∃ t sl,h.get? x=some ⟨.ref C,dd,.fields #[.ref t,.none,.none,.none,.bool false,.none],sl⟩:=by
 obtain⟨q,_⟩:=(show bC P w H h x (XN x C dd) from hok x _ e)
 exact q
end
def d7 (P:Program) (w:World):h7:=λouter H s E e s'=>∃(x C T:Addr) (dd:Option Addr) (H':Hp),e=.ref x/\s'.os=s.os/\AllBare s'.gens/\Un (eK outer) [] H H' s.heap s'.heap/\ff P w H' s'.heap /\
 Tr s'.heap x (.ref C) dd T .none/\s.heap.get? x=none/\s.heap.get? T=none/\H' T=none/\H' x=some (XO x C dd)/\E (.ref C) (some x) H'
theorem lj {base h h':Heap} {H H':Hp} {ex:List Addr}:∀{l:List Env} {fs:List Addr},h.FunFrames base l->Un fs ex H H' h h'->(∀ b∈eK l,H b=none)->(∀ b∈eK l,b∉ex)->h'.FunFrames base l
 | [],_,_,_,_,_=>trivial
 | env::r,fs,hl,u,hn,hx=>by
  obtain⟨hk,⟨L,o,hf,hb,ho,hd⟩,hr⟩:=hl
  have hL:L∈eK (env::r):=by unfold eK;rw [List.filterMap_cons,hf];exact List.mem_cons_self
  have sub:∀ b∈eK r,b∈eK (env::r):=λb hb'=>by unfold eK;rw [List.filterMap_cons,hf];exact List.mem_cons_of_mem _ hb'
  obtain⟨sl,e⟩:=u.any ho (hn L hL) (hx L hL)
  exact⟨hk,⟨L,_,hf,hb,e,hd⟩,lj hr u (λb hb'=>hn b (sub b hb')) λb hb'=>hx b (sub b hb')⟩
theorem lh {P:Program} {w:World} {H':Hp} {h h':Heap} {x C:Addr} {dd:Option Addr} {fs ch:List Addr} (hok:ff P w H' h) (k:Kp fs ch h h') (hch:∀ b∈ch,b=x∨H' b=none) (hfs:∀ b∈fs,H' b=none)
  (hx:H' x=some (XO x C dd)) {vs:Array Value} {sl:Array (Option Value)} (e:h'.get? x=some ⟨.ref C,dd,.fields vs,sl⟩):ff P w H' h':=by
 intro b o q
 by_cases hb:b=x
 ·subst hb
  rw [hx] at q
  cases q
  exact XO.ok e
 ·refine (hok b o q).jr (λc u hc r=>k.keep c u (λz=>?_) (λz=>?_) r) (λ_ r=>r) λ_ _ r=>r
  ·rcases hch c z with q1 | q1
   ·rcases hc with q2 | q2
    ·exact hb (q2.symm.trans q1)
    ·rw [q1,hx] at q2;cases q2
   ·rcases hc with q2 | q2
    ·rw [q2,q] at q1;cases q1
    ·rw [q2] at q1;cases q1
  ·have q1:=hfs c z
   rcases hc with q2 | q2
   ·rw [q2,q] at q1;cases q1
   ·rw [q2] at q1;cases q1
theorem nJ {P:Program} {w:World} {K:PySem.W.Frag} {mg:Str->Option Value} {base:Heap} {N:List Str} {qual:Str} {scope:Scope} {f:Addr} {cd:Value} {A:Around} {outer:List Env} {s:Shared} {H:Hp} {E:XK} :
  Passes (d7 P w) (dk (d7 P w) P w K mg base N qual scope f cd A outer s H E) E:=by
 intro pins σ H1 s1 e s' I hq
 obtain⟨x,C,T,dd,H',rfl,os,bare,un,hok,tr,nx,nT,hT,hx,hE⟩:=hq
 have hl:=lj I.stack un I.fA (λb _=>by simp)
 have frN:∀ b∈eK (envOfC qual scope s.heap.objs.size f cd::outer),H' b=none:=λb hb=>by
  obtain⟨_,o,ho,_⟩:=I.stack.mem hb
  exact un.free b o ho (I.fA b hb) (by simp)
 show wpAny (model P w) (A.deeper (envOfC qual scope s.heap.objs.size f cd)) (leaving (envOfC qual scope s.heap.objs.size f cd) (.ref x)) _ _ s'
 refine kr (L:=s.heap.objs.size) I.ok.frames hl rfl tr λh'' T' t' n' k'=>?_
 have old:∀ b o,s.heap.get? b=some o->b∉[x,T]:=λb o q hb=>by
  obtain⟨o1,q1⟩:=I.base.there b o q (by intro z;exact absurd (show b∈([]:List Addr) from z) (by simp))
  rcases List.mem_cons.mp hb with z | z
  ·rw [z,nx] at q1;cases q1
  ·rw [List.mem_singleton.mp z,nT] at q1;cases q1
 have nex:∀ b:Addr,b∉(dk (d7 P w) P w K mg base N qual scope f cd A outer s H E).ex:=λb z=>absurd (show b∈([]:List Addr) from z) (by simp)
 have nfr:∀ b o,s.heap.get? b=some o->b∉eK outer->b∉eK (envOfC qual scope s.heap.objs.size f cd::outer):=λb o q hb hm=>by
  rcases List.mem_cons.mp (I.d6 b hm) with z | z
  ·exact absurd (Heap.lt_size q) (by rw [z];exact Nat.lt_irrefl _)
  ·exact hb z
 obtain⟨vs,sl,oT,ts,he,r'⟩:=t'
 have tr':Tr h'' x (.ref C) dd T' .none:=⟨vs,sl,oT,ts,he,r'⟩
 refine⟨x,C,T',dd,H',rfl,os.trans I.os,bare,?_,?_,tr',?_,?_,hok.fresh n',hx,hE⟩
 ·refine⟨λb o q nn hb _=>?_,λb o q nn hb _=>?_,λb o q nn _=>?_,λb o q _=>?_,λb xs q=>un.tups b xs (I.base.tups b xs q),λb o xs q=>un.frzs b o xs (I.base.frzs b o xs q),λb ps q=>?_⟩
  ·have q1:=I.base.keep b o q nn hb (nex b)
   have q2:=un.keep b o q1 (I.base.free b o q nn (nex b)) (nfr b o q hb) (by simp)
   exact k'.keep b o (old b o q) (nfr b o q hb) q2
  ·obtain⟨s1',q1⟩:=I.base.slot b o q nn hb (nex b)
   obtain⟨s2',q2⟩:=un.any q1 (I.base.free b o q nn (nex b)) (by simp)
   obtain⟨s3',q3⟩:=k'.slot b _ (old b o q) q2
   exact⟨s3',q3⟩
  ·obtain⟨o1,q1⟩:=I.base.there b o q (nex b)
   exact un.free b o1 q1 (I.base.free b o q nn (nex b)) (by simp)
  ·obtain⟨o1,q1⟩:=I.base.there b o q (nex b)
   obtain⟨o2,q2⟩:=un.there b o1 q1 (by simp)
   obtain⟨s3',q3⟩:=k'.slot b _ (old b o q) q2
   exact⟨_,q3⟩
  ·obtain⟨m1,e1⟩:=I.base.tbls b ps q
   obtain⟨m2,e2⟩:=un.tbls b _ e1
   exact⟨m1++m2,by rw [e2,Array.append_assoc]⟩
 ·exact lh hok k' (λb hb=>by
   rcases List.mem_cons.mp hb with z | z
   ·exact .inl z
   ·exact .inr (by rw [List.mem_singleton.mp z];exact hT)) frN hx he
 ·cases q:s.heap.get? x with
  | none=>rfl
  | some o=>exact absurd (List.mem_cons_self) (old x o q)
 ·cases q:s.heap.get? T' with
  | none=>rfl
  | some o =>
   obtain⟨o1,q1⟩:=I.base.there T' o q (nex T')
   obtain⟨o2,q2⟩:=un.there T' o1 q1 (by simp)
   exact absurd (Heap.lt_size q2) (Nat.not_lt.mpr n')
section
variable {prog:Program} {w:World} {A:Around} {E:Value->Shared->Prop} {s:Shared} {K:PySem.W.Frag} {env:Env}
theorem ib {x:Sem Value} {Q:Flow->Shared->Prop} (hh:A.handled=none)
  (h:wpAny (model prog w) A x (λv s₁=>∃ e C t dd sl,v=.ref e/\K.In s₁.heap/\cF K C/\s₁.heap.get? e=some ⟨.ref C,dd,.fields #[.ref t,.none,.none,.none,.bool false,.none],sl⟩/\E (.ref e) s₁) E s) :
  wpAny (model prog w) A (raiseStmt env (some x) none) Q E s:=by
 unfold raiseStmt
 refine wpAny_bind (wpAny_mono h (λv s₁ h₁=>?_) λ_ _ z=>z)
 obtain⟨e,C,t,dd,sl,rfl,X,c,he,hE⟩:=h₁
 obtain⟨hp,g,d,tk,os⟩:=s₁
 have L1:Looks (model prog w) hp (isSubtype (.ref C) (.type "BaseException")) true:=by
  obtain⟨cd,hc,hm,_⟩:=c.cls
  obtain⟨m1,m2,m3⟩:=iV hm
  exact looks_mroIn X (by unfold mroIn;rw [hc,Option.bind_some,if_neg (by rw [m3];decide),m2])
 obtain⟨od,cd,sc,hk⟩:=c.at_
 have hC:=X _ _ hk
 repeat (first | with_reducible refine wpAny_loadPart_at he ?_ | with_reducible refine wpAny_loadPart_at hC ?_ | with_reducible refine Looks.at L1 ?_ | wp_step)
 exact wpAny_raiseNew_none hh hE
end
def oh (K:PySem.W.Frag) (H₀:Hp) (E:XK) (te:TE):TS:=λ_ σ H=>te σ H λv H1=>∃ x C dd,v=.ref x/\H1 x=some (XN x C dd)/\cF K C/\H₀ x=none/\E (.ref C) (some x) (upd H1 x (XO x C dd))
section
variable {P:Program} {w:World} {K:PySem.W.Frag} {mg:Str->Option Value} {base:Heap} {N:List Str} {qual:Str} {scope:Scope} {f:Addr} {cd:Value} {A:Around} {outer:List Env} {s:Shared} {H:Hp} {E:XK}
theorem mn {pins:List (Addr × Obj)} {σ:St} {H2:Hp} {s2:Shared} {x C:Addr} {dd:Option Addr} (I:Inv (dk (d7 P w) P w K mg base N qual scope f cd A outer s H E) pins σ H2 s2) (hx:H2 x=some (XN x C dd)) (hn:H x=none)
  (hE:E (.ref C) (some x) (upd H2 x (XO x C dd))):(dk (d7 P w) P w K mg base N qual scope f cd A outer s H E).xe (.ref x) s2:=by
 obtain⟨t,sl,he⟩:=XN.get I.hok hx
 have nex:∀ b:Addr,b∉(dk (d7 P w) P w K mg base N qual scope f cd A outer s H E).ex:=λb z=>absurd (show b∈([]:List Addr) from z) (by simp)
 have nx:s.heap.get? x=none:=by
  cases q:s.heap.get? x with
  | none=>rfl
  | some o =>
   have:=I.base.free x o q hn (nex x)
   rw [hx] at this
   cases this
 have old:∀ b o,s.heap.get? b=some o->b≠x:=λb o q z=>by rw [z,nx] at q;cases q
 have nfr:∀ b o,s.heap.get? b=some o->b∉eK outer->b∉eK (envOfC qual scope s.heap.objs.size f cd::outer):=λb o q hb hm=>by
  rcases List.mem_cons.mp (I.d6 b hm) with z | z
  ·exact absurd (Heap.lt_size q) (by rw [z];exact Nat.lt_irrefl _)
  ·exact hb z
 have hok':ff P w (upd H2 x (XO x C dd)) s2.heap:=λb o q=>by
  by_cases hb:b=x
  ·subst hb
   rw [af] at q
   cases q
   exact XO.ok he
  ·rw [ar hb] at q
   refine (I.hok b o q).jr (λ_ _ _ r=>r) (λc r=>?_) λc xs r=>?_
   ·rw [ar (λz=>by rw [z,hx] at r;cases r)];exact r
   ·rw [ar (λz=>by rw [z,hx] at r;cases r)];exact r
 show wpAny (model P w) (A.deeper (envOfC qual scope s.heap.objs.size f cd)) (leaving (envOfC qual scope s.heap.objs.size f cd) (.ref x)) _ _ s2
 refine jK (L:=s.heap.objs.size) I.ok.frames I.stack rfl he rfl λh'' T t' n' k'=>?_
 obtain⟨vs,sl',oT,ts,he',r'⟩:=t'
 have tr':Tr h'' x (.ref C) dd T .none:=⟨vs,sl',oT,ts,he',r'⟩
 have nT:T≠x:=r'.2.1
 refine⟨x,C,T,dd,upd H2 x (XO x C dd),rfl,I.os,I.bare,?_,?_,tr',nx,?_,?_,af,hE⟩
 ·refine⟨λb o q nn hb _=>?_,λb o q nn hb _=>?_,λb o q nn _=>?_,λb o q _=>?_,λb xs q=>?_,λb o xs q=>?_,λb ps q=>?_⟩
  ·exact k'.keep b o (by simp [old b o q]) (nfr b o q hb) (I.base.keep b o q nn hb (nex b))
  ·obtain⟨s1',q1⟩:=I.base.slot b o q nn hb (nex b)
   obtain⟨s3',q3⟩:=k'.slot b _ (by simp [old b o q]) q1
   exact⟨s3',q3⟩
  ·rw [ar (old b o q)]
   exact I.base.free b o q nn (nex b)
  ·obtain⟨o1,q1⟩:=I.base.there b o q (nex b)
   obtain⟨s3',q3⟩:=k'.slot b _ (by simp [old b o q]) q1
   exact⟨_,q3⟩
  ·have:=I.base.tups b xs q
   rw [ar (λz=>by rw [z,hx] at this;cases this)];exact this
  ·have:=I.base.frzs b o xs q
   rw [ar (λz=>by rw [z,hx] at this;cases this)];exact this
  ·obtain⟨m1,e1⟩:=I.base.tbls b ps q
   exact⟨m1,by rw [ar (λz=>by rw [z,hx] at e1;cases e1)];exact e1⟩
 ·exact lh hok' k' (λb hb=>.inl (by simpa using hb)) (λb hb=>by
   have z:=I.fA b hb
   rw [ar (λy=>by rw [y,hx] at z;cases z)];exact z) af he'
 ·cases q:s.heap.get? T with
  | none=>rfl
  | some o =>
   obtain⟨o1,q1⟩:=I.base.there T o q (nex T)
   exact absurd (Heap.lt_size q1) (Nat.not_lt.mpr n')
 ·rw [ar nT]
  exact I.hok.fresh n'
theorem cV {e:Expr} {te:TE} {pos:Pos} (he:PE (dk (d7 P w) P w K mg base N qual scope f cd A outer s H E) e te):PS (dk (d7 P w) P w K mg base N qual scope f cd A outer s H E) (.Raise (some e) none pos) (oh K H E te):=by
 intro pins s1 σ H1 D I h
 rw [arm_exec_Raise]
 refine wpAny_bind (wpAny_standAt (ib (K:=K) (I.ok.hd rfl) (wpAny_bind (bz (he pins s1 σ H1 _ I h) λv s2 ⟨y,H2,I2,r,x,C,dd,ey,hx,c,hn,hE⟩=>?_))))
 subst ey
 obtain rfl:v=Value.ref x:=r
 obtain⟨t,sl,hg⟩:=XN.get I2.hok hx
 exact wpAny_bind (wpAny_standAt (wpAny_pure ⟨x,C,t,dd,sl,rfl,I2.fq,c,hg,mn I2 hx hn hE⟩))
end
section
variable {prog:Program} {w:World} {A:Around} {E:Value->Shared->Prop} {h:Heap} {g:Array GenState} {d:Drawn} {t:Nat} {os:OsState}
variable {nm q:Str} {C N:Addr} {bs bm:List Value} {hdct:Bool} {sn:List Str} {sub:List Value} {ab:Bool} {col:Option Bool} {dd:Option Addr} {k0 k1 k2 k3 k5:Option Value}
theorem lT {R:Result->Shared->Prop} {e a:Addr} (hB:bm.contains (.type "ValueError")=true) (hC:h.get? C=some (excClassObj nm q C N bs bm hdct sn sub ab col dd k0 k1 k2 k3 k5 ig)) (he:h.get? e=some (newExc C a))
  (hq:∀ h',h'.get? e=some (newExc C h.objs.size)->(∀ b o,b≠e->h.get? b=some o->h'.get? b=some o)->R (.ok (.ret .none)) ⟨h',g,d,t,os⟩) :
  codeAny (model prog w) A (.call (.builtin "ValueError.__init__") ⟨[.ref e],[]⟩) R ⟨h,g,d,t,os⟩:=by
 have Fn:=PySem.F.excBase_ValueError
 have cB:(Value.ref C::bm).contains (.type "ValueError")=true:=by rw [List.contains_cons,hB,Bool.or_true]
 have hshort:=Fn.noStar
 refine codeAny_call_builtin Fn.init.plain Fn.initEntry ?_
 have chk:∀{Q:Unit->Shared->Prop} {E:Value->Shared->Prop} {A:Around},Q () ⟨h,g,d,t,os⟩->wpAny (model prog w) A (checkBuiltinCall "ValueError.__init__" ⟨[.ref e],[]⟩) Q E ⟨h,g,d,t,os⟩:=by
  intro Q E A hq
  simp only [checkBuiltinCall,Fn.initKind,Fn.initSplit,Fn.initRow]
  repeat (first | with_reducible refine wpAny_loadPart_at he ?_ | with_reducible refine wpAny_loadPart_at hC ?_ | (with_reducible refine wpAny_isSubtype_exc hC ?_;rw [cB]) | wp_step)
  exact hq
 refine chk ?_
 wp_walk
 have hp:=Heap.get?_push_of_some (h:=h) { cls:=.type "tuple",data:=.seq ([]:List Value).toArray } he
 refine hq _ ?_ λb o hb z=>?_
 ·exact Heap.get?_update_self _ hp rfl
 ·rw [Heap.get?_update_other _ _ (Ne.symm hb)]
  exact Heap.get?_push_of_some _ z
end
theorem cj.any {P:Program} {w:World} {K:PySem.W.Frag} {mg:Str->Option Value} {base:Heap} {CX:h7} {k:Nat} {f:Addr} {fd:FuncData} {ps:List Str} {sp:Sp} (F:cj P w K mg base bc k f fd ps sp):cj P w K mg base CX k f fd ps sp :=
 ⟨F.len,λA outer s H args us vs Q E hr he hb hv hs=>codeAny_mono (F.run A outer s H args us vs Q E hr he hb hv hs) λr s' q=>by
  cases r with
  | error e=>exact False.elim q
  | ok fl =>
   cases fl with
   | ret u=>exact q
   | next=>exact q
   | brk=>exact q
   | cont=>exact q⟩
def ue (K:PySem.W.Frag) (ta tv:TE) (f:Str):TS:=λD σ H=>tv σ H λy H1=>ta σ H1 λxv H2=>∃ x C,xv=.ref x/\H2 x=some (XN x C none)/\cF K C/\findIn K (.ref C) f=some none /\
 ∀ dx,H2 dx=none->dx≠x->D.nx σ (upd (upd H2 dx (.xd [(f,y)])) x (XN x C (some dx)))
section
variable {X:Cx} {o value:Expr} {f:Str} {pos pos':Pos} {ta tv:TE}
theorem pT (ha:PE X o ta) (hv:PE X value tv) (hs:swapsWith value (some (.Attribute o f pos')) pos.line X.env=pure false:=by rfl):PS X (.Assign [.Attribute o f pos'] value pos) (ue X.K ta tv f):=by
 intro pins s σ H D I h
 refine plainObj_wpAny_Assign_Attribute (bz (hv pins s σ H _ I h) λu s1 ⟨y,H1,I1,ry,q⟩=>bz (ha pins s1 σ H1 _ I1 q) λov s2 ⟨xv,H2,I2,rx,x,C,ex,hx,c,hf,q2⟩=>?_) hs
 subst ex
 obtain rfl:ov=Value.ref x:=rx
 obtain⟨t,sl,hg⟩:=XN.get I2.hok hx
 obtain⟨cd,hc,hm,hh⟩:=c.cls
 refine oN I2.fq hg hc hm hh c.sa hf λh' g1 g2 g3=>?_
 have hd0:H2 s2.heap.objs.size=none:=I2.hok.fresh (Nat.le_refl _)
 have hne:s2.heap.objs.size≠x:=λz=>by rw [z,hx] at hd0;cases hd0
 have bx:∀ b,H2 b=none->b≠x:=λb z y=>by rw [y,hx] at z;cases z
 have bd:∀ b o,s2.heap.get? b=some o->b≠s2.heap.objs.size:=λb o q=>Nat.ne_of_lt (Heap.lt_size q)
 have tb:∀ b u,H2 b=some u->b≠s2.heap.objs.size:=λb u q z=>by rw [z,hd0] at q;cases q
 refine⟨σ,upd (upd H2 s2.heap.objs.size (.xd [(f,y)])) x (XN x C (some s2.heap.objs.size)),I2.un ⟨λb o q n _ _=>g3 b o (bx b n) q,λb o q n _ _=>⟨o.slots,g3 b o (bx b n) q⟩,λb o q n _=>?_,λb o q _=>?_,λb xs q=>?_,λb o xs q=>?_,λb ps q=>?_⟩ ?_,q2 _ hd0 hne⟩
 ·rw [ar (bx b n),ar (bd b o q)];exact n
 ·by_cases z:b=x
  ·exact⟨_,by rw [z];exact g1⟩
  ·exact⟨o,g3 b o z q⟩
 ·rw [ar (λz=>by rw [z,hx] at q;cases q),ar (tb b _ q)];exact q
 ·rw [ar (λz=>by rw [z,hx] at q;cases q),ar (tb b _ q)];exact q
 ·exact⟨#[],by rw [ar (λz=>by rw [z,hx] at q;cases q),ar (tb b _ q),q];simp⟩
 ·intro b o q
  by_cases z:b=x
  ·subst z
   rw [af] at q
   cases q
   exact XN.ok g1
  ·rw [ar z] at q
   by_cases z2:b=s2.heap.objs.size
   ·subst z2
    rw [af] at q
    cases q
    refine⟨_,g2,λk=>?_⟩
    show h8 (List.lookup k [(f,y)]) (if k=f then some u else none)
    by_cases e:k=f
    ·subst e
     rw [if_pos rfl,List.lookup_cons,beq_self_eq_true]
     exact ry
    ·have e':(k==f)=false:=by simpa using e
     rw [if_neg e,List.lookup_cons,e']
     exact True.intro
   ·rw [ar z2] at q
    refine (I2.hok b o q).jr (λc' u' hc' r=>g3 c' u' (λz3=>?_) r) (λc' r=>?_) λc' xs r=>?_
    ·rcases hc' with e | e
     ·exact z (e.symm.trans z3)
     ·rw [z3,hx] at e;cases e
    ·rw [ar (λz3=>by rw [z3,hx] at r;cases r),ar (tb c' _ r)];exact r
    ·rw [ar (λz3=>by rw [z3,hx] at r;cases r),ar (tb c' _ r)];exact r
end
structure qh (K:PySem.W.Frag) (C:Addr):Prop where
 obj:∃ nm q N bs bm hdct sn sub ab col dd k0 k1 k2 k3 k5,K.lookup C=some (excClassObj nm q C N bs bm hdct sn sub ab col dd k0 k1 k2 k3 k5 ig)/\bm.contains (.type "ValueError")=true/\bm.contains (.type "AttributeError")=false/\bm.contains (.type "NameError")=false
 kp:keepIn K (.ref C)=true
def jk (K:PySem.W.Frag) (f:Str):Sp:=λvs H Q _=>∃ x C v,vs=[.ref x,v]/\H x=some (XN x C none)/\cF K C/\findIn K (.ref C) f=some none /\
 ∀ dx,H dx=none->dx≠x->Q .non (upd (upd H dx (.xd [(f,v)])) x (XN x C (some dx)))
def sA (C:Addr) (f:Str) (t:TA):TE:=λσ H Q=>t σ H λvs H1=>∃ v,vs=[v]/\∀ x dx,H1 x=none->H1 dx=none->dx≠x->Q (.ref x) (upd (upd (upd H1 x (XN x C none)) dx (.xd [(f,v)])) x (XN x C (some dx)))
def sy (C:Addr):TE:=λ_ H Q=>∀ x,H x=none->Q (.ref x) (upd H x (XN x C none))
section
variable {X:Cx} {C fi:Addr} {fd:FuncData} {p f x:Str} {k:Nat} {pos np:Pos} {e:Expr} {t:TA}
theorem Inv.newExc {pins:List (Addr × Obj)} {σ:St} {H:Hp} {s:Shared} (I:Inv X pins σ H s) (us:List Value):Inv X pins σ (upd H (s.heap.objs.size+1) (XN (s.heap.objs.size+1) C none))
  { s with heap:=(s.heap.push { cls:=.type "tuple",data:=.seq us.toArray }).push (L2.newExc C s.heap.objs.size) }:=by
 have I1:Inv X pins σ H { s with heap:=s.heap.push { cls:=.type "tuple",data:=.seq us.toArray } }:=I.kept (t':=s.toks) λb u q=>Heap.get?_push_of_some _ q
 refine I1.laid (a:=s.heap.objs.size+1) (t':=s.toks) (λb u q=>Heap.get?_push_of_some _ q) (Nat.le_of_eq (Heap.size_push _ _)) ?_
 refine XN.ok (t:=s.heap.objs.size) (sl:=#[]) ?_
 have:=Heap.get?_push_size (s.heap.push { cls:=.type "tuple",data:=.seq us.toArray }) (o:=L2.newExc C s.heap.objs.size) rfl
 rwa [Heap.size_push] at this
theorem mi (M:qh X.K C) (c:cF X.K C) (hi:findIn X.K (.ref C) "__init__"=some (some (.ref fi))) (fn:isFn X.K (.ref fi)=true) (hf:findIn X.K (.ref C) f=some none) (F:cj X.prog X.w X.K X.mg X.base bc k fi fd ["self",p] (jk X.K f)) (hr:bX (k+1) X.A) (hg:Gl X x)
  (hm:X.mg x=some (.ref C)) (hb:Binds X.K fd ["self",p] []) (ha:PA X [e] t) (hdb:(x==("__debug__":Str))=false:=by decide) (he:starEach [e] X.env=(false,eval e X.env)::starEach [] X.env:=by rfl) (hpl:(backTo pos (starEach [] X.env)).any (·.1)=false:=by rfl) :
  PE X (.Call (.Name x np) [e] [] pos) (sA C f t):=by
 intro pins s σ H Q I h
 refine wpAny_Call_Name_kw (gb I hg hm ?_ hdb)
 refine PySem.W.callWith_K (h₀:=X.base) I.ok.mod.kin M.kp (bz (ha pos pins s σ H _ I h) λus s1 ⟨vs,H1,I1,r,q⟩=>⟨I1.fq,?_⟩) he hpl
 obtain⟨v,rfl,q⟩:=q
 obtain⟨u,rfl,ru⟩:=vals1 r
 obtain⟨nm,qn,Nn,bs,bm,hdct,sn,sub,ab,col,dd,k0,k1,k2,k3,k5,hk,hB,hA,hN⟩:=M.obj
 have I2:=Inv.newExc (C:=C) I1 [u]
 have n1:H1 (s1.heap.objs.size+1)=none:=I1.hok.fresh (Nat.le_succ _)
 have r2:Vals [V.ref (s1.heap.objs.size+1),v] [Value.ref (s1.heap.objs.size+1),u]:=.cons rfl (.cons ru .nil)
 have hq:jk X.K f [V.ref (s1.heap.objs.size+1),v] (upd H1 (s1.heap.objs.size+1) (XN (s1.heap.objs.size+1) C none)) (λz H3=>z=.non/\Q (.ref (s1.heap.objs.size+1)) H3) E0 :=
  ⟨_,C,v,rfl,af,c,hf,λdx hd hne=>⟨rfl,q _ dx n1 (by rw [ar hne] at hd;exact hd) hne⟩⟩
 obtain⟨hh,g,d,tk,os⟩:=s1
 refine jG (K:=X.K) I1.fq hB hA hN (I1.fq _ _ hk) (by show 1<=sizeLine;decide) hi (bind_fn I1.fq _ (beq_iff_eq.mp fn)) ?_
 refine codeAny_mono (F.run _ X.stack _ _ ⟨[Value.ref (hh.objs.size+1),u],[]⟩ [Value.ref (hh.objs.size+1),u] _ _ E0 (hr.make C [u] []) (I2.sT.make C [u] []) (by have:=hb _ [Value.ref (hh.objs.size+1),u] I2.fq rfl;rwa [List.append_nil] at this) r2 hq) λr s' hq'=>?_
 cases r with
 | error e=>exact False.elim hq'
 | ok fl =>
  cases fl with
  | ret u' =>
   obtain⟨v',H',I3,rv,ev,q3⟩:=I2.after hq'
   subst ev
   exact⟨rv,⟨V.ref (hh.objs.size+1),H',I3,rfl,q3⟩⟩
  | next=>exact False.elim hq'
  | brk=>exact False.elim hq'
  | cont=>exact False.elim hq'
theorem mh (M:qh X.K C) (hi:findIn X.K (.ref C) "__init__"=some (some (.builtin "ValueError.__init__"))) (hg:Gl X x) (hm:X.mg x=some (.ref C)) (hdb:(x==("__debug__":Str))=false:=by decide) :
  PE X (.Call (.Name x np) [] [] pos) (sy C):=by
 intro pins s σ H Q I h
 refine wpAny_Call_Name_kw (gb I hg hm ?_ hdb)
 refine PySem.W.callWith_K0 I.fq M.kp ?_
 obtain⟨nm,qn,Nn,bs,bm,hdct,sn,sub,ab,col,dd,k0,k1,k2,k3,k5,hk,hB,hA,hN⟩:=M.obj
 have I2:=Inv.newExc (C:=C) I []
 have n1:H (s.heap.objs.size+1)=none:=I.hok.fresh (Nat.le_succ _)
 have Fn:=PySem.F.excBase_ValueError
 obtain⟨hh,g,d,tk,os⟩:=s
 have hC:=I.fq _ _ hk
 refine jG (K:=X.K) I.fq hB hA hN hC (by show 0<=sizeLine;decide) hi (j:=.builtin "ValueError.__init__") (Looks.of_pure (Fn.init.bind _)) ?_
 have hC2:((hh.push { cls:=.type "tuple",data:=.seq ([]:List Value).toArray }).push (L2.newExc C hh.objs.size)).get? C=some _:=Heap.get?_push_of_some _ (Heap.get?_push_of_some _ hC)
 have he2:((hh.push { cls:=.type "tuple",data:=.seq ([]:List Value).toArray }).push (L2.newExc C hh.objs.size)).get? (hh.objs.size+1)=some (L2.newExc C hh.objs.size):=by
  have:=Heap.get?_push_size (hh.push { cls:=.type "tuple",data:=.seq ([]:List Value).toArray }) (o:=L2.newExc C hh.objs.size) rfl
  rwa [Heap.size_push] at this
 refine lT hB hC2 he2 λh' g1 g3=>⟨rfl,.ref (hh.objs.size+1),_,?_,rfl,h _ n1⟩
 have e:upd (upd H (hh.objs.size+1) (XN (hh.objs.size+1) C none)) (hh.objs.size+1) (XN (hh.objs.size+1) C none)=upd H (hh.objs.size+1) (XN (hh.objs.size+1) C none):=by
  funext b
  by_cases z:b=hh.objs.size+1
  ·rw [z,af,af]
  ·rw [ar z]
 have W:=I2.write (x:=hh.objs.size+1) (e:=hh.objs.size+1) (o:=XN (hh.objs.size+1) C none) (h':=h') (t':=tk) (by rw [af];exact True.intro) (.inl rfl) (λb u hb q=>g3 b u hb q) ⟨_,g1⟩ (XN.ok g1)
 rw [e] at W
 exact W
end
def vX (H:Hp) (x C:Addr) (dd:Option Addr):Prop:=H x=some (XO x C dd)∨H x=some (XN x C dd)
def wa (K:PySem.W.Frag) (ta:TE) (f:Str):TE:=λσ H Q=>ta σ H λxv H1=>∃ x C dx fs v,xv=.ref x/\vX H1 x C (some dx)/\cF K C/\findIn K (.ref C) f=some none/\H1 dx=some (.xd fs)/\fs.lookup f=some v/\Q v H1
section
variable {X:Cx} {e:Expr} {f:Str} {pos:Pos} {ta:TE}
end
section
variable {prog:Program} {w:World} {A:Around} {E:Value->Shared->Prop} {K:PySem.W.Frag} {h:Heap} {g:Array GenState} {d:Drawn} {t:Nat} {os:OsState} {x C B:Addr}
theorem cF.base (c:cF K C):mroIn K C (.type "BaseException")=some true:=by
 obtain⟨cd,hc,hm,_⟩:=c.cls
 obtain⟨m1,m2,m3⟩:=iV hm
 unfold mroIn
 rw [hc,Option.bind_some,if_neg (by rw [m3];decide),m2]
end
section
variable {M:Model} {A:Around} {E:Value->Shared->Prop} {s:Shared}
end
section
variable {X:Cx} {pins:List (Addr × Obj)} {σ:St} {H:Hp} {s:Shared} {M:Model} {A:Around} {E:Value->Shared->Prop}
end
section
variable {X:Cx} {pins:List (Addr × Obj)} {σ:St} {H:Hp} {s:Shared} {x:Addr}
def oS (n:Option Nat) (x:Addr) (σ:St):St:=match n with | some i=>σ.set i (some (.ref x)) | none=>σ
def ll (n:Option Nat) (D:Ends):Ends:=match n with
 | some i=>{ nx:=λσ H=>D.nx (σ.set i none) H,rt:=D.rt,bk:=λσ H=>D.bk (σ.set i none) H,ct:=λσ H=>D.ct (σ.set i none) H }
 | none=>D
end
def vp (K:PySem.W.Frag) (B:Addr) (n:Option Nat) (sp:Sp) (ta:TA) (put:V->St->St) (ts:TS):TS:=λD σ H=>ta σ H λvs H1=>sp vs H1 (λv H2=>D.nx (put v σ) H2)
 (λcv xo H2=>∃ C x dd,cv=.ref C/\xo=some x/\H2 x=some (XO x C dd)/\cF K C/\mroIn K C (.ref B)=some true/\ts (ll n D) (oS n x σ) H2)
section
variable {X:Cx} {B:Addr} {n:Option Nat} {hd:ExceptHandler} {ts:TS}
variable {k:Nat} {f:Str} {ps:List Str} {sp:Sp} {e:Expr} {es:List Expr} {t:TA} {p cpos epos pos:Pos}
end
section
variable {P:Program} {w:World} {K:PySem.W.Frag} {mg:Str->Option Value} {base:Heap} {k:Nat} {x:Str} {ps:List Str} {sp:Sp}
theorem kc {st:Stmt} {N:List Str} (D:ax K mg x st)
  (hb:∀(kV doc pm:Value) (an:Option Addr) (cdv ct:Value) (us:List Value),us.length=ps.length->bindArgs (PySem.W.fnOf x x (bG st) (aV st) (ao st) .none kV doc pm an cdv ct) ⟨us,[]⟩=pure (ps.zip us))
  (S:az N ps (ao st)) (len:∀ vs H Q E,sp vs H Q E->vs.length=ps.length)
  (hbody:∀(f:Addr) (cdv:Value) (A:Around) (outer:List Env) (s:Shared) (H:Hp) (vs:List V) (Q:VK) (E:XK),bX k (A.deeper (envOfC x (ao st) s.heap.objs.size f cdv))->sp vs H Q E ->
   ∃ t,gh (dk (d7 P w) P w K mg base N x (ao st) f cdv A outer s H E) (aV st) t/\t { nx:=λ_ H'=>Q .non H',rt:=Q } (start N vs) H):Callee P w K mg base (d7 P w) (k+1) x ps sp:=by
 obtain⟨f,fd,F,hm⟩:=D
 obtain⟨oc,od,kV,doc,pm,an,cdv,ct,osl,rfl,lk,hcd⟩:=F.ex
 exact⟨f,_,qp lk hcd S len λA outer s H vs Q E hr h=>hbody f cdv A outer s H vs Q E hr h,hm,F.kp,F.binds hb⟩
theorem Callee.any {CX:h7} (C:Callee P w K mg base bc k x ps sp):Callee P w K mg base CX k x ps sp:=by
 obtain⟨f,fd,F,a,b,c⟩:=C.ex
 exact⟨f,fd,F.any,a,b,c⟩
end
theorem oU {P:Program} {w:World} {K:PySem.W.Frag} {mg:Str->Option Value} {base:Heap} {qual f p:Str} {st:Stmt} {fi:Addr} {fd:FuncData} {p1 p2 p3 p4:Pos} (F:ou K "__init__" qual st fi fd) (S:az ["self",p] ["self",p] (ao st))
  (hb:aV st=[.Assign [.Attribute (.Name "self" p1) f p2] (.Name p p3) p4]) (h1:(ao st).names.lookup ("self":Str)=some .local) (h2:(ao st).names.lookup p=some .local) (hd:(p==("__debug__":Str))=false) (hcd:(p==("__classdict__":Str))=false)
  (ab:∀ env:Env,attributeBase (.Name "self" p1) f env (eval (.Name "self" p1) env)=eval (.Name "self" p1) env) (sw:∀ env:Env,swapsWith (.Name p p3) (some (.Attribute (.Name "self" p1) f p2)) p4.line env=pure false):cj P w K mg base bc 1 fi fd ["self",p] (jk K f):=by
 refine F.ok S (λvs H Q E h=>?_) (λcdv A outer s H vs Q E hr h=>?_)
 ·obtain⟨x,C,v,rfl,_⟩:=h
  rfl
 ·obtain⟨x,C,v,rfl,hx,c,hf,q⟩:=h
  rw [hb]
  refine⟨_,ak (pT (kG (i:=0) rfl (.inl h1) (by decide) (by decide)) (kG (i:=1) rfl (.inl h2) hd hcd) (sw _)),?_⟩
  exact⟨v,rfl,.ref x,rfl,x,C,rfl,hx,c,hf,λdx n ne=>q dx n ne⟩
structure j7 (P:Program) (w:World) (K:PySem.W.Frag) (mg:Str->Option Value) (base:Heap) (x:Str) (C:Addr) (f:Str):Prop where
 mkd:qh K C
 cls:cF K C
 at_:mg x=some (.ref C)
 nof:findIn K (.ref C) f=some none
 ex:∃ fi fd p,findIn K (.ref C) "__init__"=some (some (.ref fi))/\isFn K (.ref fi)=true/\cj P w K mg base bc 1 fi fd ["self",p] (jk K f)/\Binds K fd ["self",p] []
structure oE (K:PySem.W.Frag) (mg:Str->Option Value) (x:Str) (C:Addr):Prop where
 mkd:qh K C
 cls:cF K C
 at_:mg x=some (.ref C)
 ini:findIn K (.ref C) "__init__"=some (some (.builtin "ValueError.__init__"))
section
variable {X:Cx} {C:Addr} {f x:Str} {pos np:Pos} {e:Expr} {t:TA}
theorem jc (c:j7 X.prog X.w X.K X.mg X.base x C f) (hr:bX 2 X.A) (hg:Gl X x) (ha:PA X [e] t) (hdb:(x==("__debug__":Str))=false:=by decide)
  (he:starEach [e] X.env=(false,eval e X.env)::starEach [] X.env:=by rfl) (hpl:(backTo pos (starEach [] X.env)).any (·.1)=false:=by rfl):PE X (.Call (.Name x np) [e] [] pos) (sA C f t):=by
 obtain⟨fi,fd,p,hi,fn,F,hb⟩:=c.ex
 exact mi c.mkd c.cls hi fn c.nof F hr hg c.at_ hb ha hdb he hpl
theorem nM (c:oE X.K X.mg x C) (hg:Gl X x) (hdb:(x==("__debug__":Str))=false:=by decide):PE X (.Call (.Name x np) [] [] pos) (sy C):=mh c.mkd c.ini hg c.at_ hdb
end
inductive qV (K:PySem.W.Frag) (H:Hp):Nat->V->V->Bool->Prop
 | flat {d:Nat} {y x:V}:eP y=true->eP x=true->qV K H d y x (oK y x)
 | same {d:Nat} {p:Addr}:qV K H d (.ref p) (.ref p) true
 | lists {d:Nat} {p q:Addr} {xs ys:List V} {e:Nat->Bool}:p≠q->bf K H p xs->bf K H q ys->xs.length=ys.length->(∀ j y x,xs[j]?=some y->ys[j]?=some x->qV K H d y x (e j))->qV K H (d+1) (.ref p) (.ref q) ((List.range xs.length).all e)
 | unlike {d:Nat} {p q:Addr} {xs ys:List V}:p≠q->bf K H p xs->bf K H q ys->xs.length≠ys.length->qV K H (d+1) (.ref p) (.ref q) false
 | tups {d:Nat} {p q:Addr} {xs ys:List V} {e:Nat->Bool}:p≠q->aT K H p xs->aT K H q ys->(∀ j y x,xs[j]?=some y->ys[j]?=some x->qV K H d y x (e j))->qV K H (d+1) (.ref p) (.ref q) ((List.range (min xs.length ys.length)).all e && xs.length==ys.length)
section
variable {X:Cx} {pins:List (Addr × Obj)} {σ:St} {H:Hp} {s:Shared}
theorem Vals.at {xs:List V} {us:List Value} (r:Vals xs us):∀{j:Nat} {u:Value},us[j]?=some u->∃ x,xs[j]?=some x/\RelV x u:=by
 induction r with
 | nil=>intro j u h;simp at h
 | cons r t ih =>
  intro j u h
  cases j with
  | zero=>simp only [List.getElem?_cons_zero,Option.some.injEq] at h;subst h;exact⟨_,rfl,r⟩
  | succ j=>simp only [List.getElem?_cons_succ] at h ⊢;exact ih h
theorem Vals.len {xs:List V} {us:List Value} (r:Vals xs us):us.length=xs.length:=by
 induction r with
 | nil=>rfl
 | cons r t ih=>simp only [List.length_cons,ih]
end
theorem eJ {A B:Prop} (a:A) (f:A->B):B:=f a
section
variable {K:PySem.W.Frag} {mg:Str->Option Value} {h:Heap} {x f p qual:Str} {C D fi N:Addr}
section
variable {nm q:Str} {bs bm:List Value} {hdct ab:Bool} {sn:Option Str} {od:Option Addr} {cd:ClassData} {sl:Array (Option Value)}
theorem sD {o:Obj} (l:K.lookup C=some o) (ob:∃ nm q N bs bm hdct sn sub ab col dd k0 k1 k2 k3 k5,o=excClassObj nm q C N bs bm hdct sn sub ab col dd k0 k1 k2 k3 k5 ig/\bm.contains (.type "ValueError")=true/\bm.contains (.type "AttributeError")=false/\bm.contains (.type "NameError")=false) (kp:keepIn K (.ref C)=true):qh K C:=by
 obtain⟨nm,q,N,bs,bm,hdct,sn,sub,ab,col,dd,k0,k1,k2,k3,k5,e,r⟩:=ob
 subst e
 exact⟨⟨nm,q,N,bs,bm,hdct,sn,sub,ab,col,dd,k0,k1,k2,k3,k5,l,r⟩,kp⟩
theorem qd (l:K.lookup C=some ⟨.type "type",od,.cls cd,sl⟩) (h2:bD cd.mro=true) (h3:cd.hasDict=true)
  (sa:findIn K (.ref C) "__setattr__"=some (some (.builtin "object.__setattr__"))) (ga:findIn K (.ref C) "__getattribute__"=some (some (.builtin "BaseException.__getattribute__"))) (gx:findIn K (.ref C) "__getattr__"=some none)
  (ca:findIn K (.ref C) "__class__"=some (some (.builtin "object.__class__"))) (gs:specialIn K (.builtin "object.__class__") "__get__"=some (some (.builtin "getset_descriptor.__get__"))) (tk:takesIn K (.builtin "object.__class__")=some true):L2.cF K C :=
 ⟨⟨cd,by unfold clsIn;rw [l],h2,h3⟩,⟨_,_,_,l⟩,sa,ga,gx,ca,gs,tk⟩
theorem lP (a:mg x=some (.ref C)) (M:qh K C) (c:cF K C) (ini:findIn K (.ref C) "__init__"=some (some (.builtin "ValueError.__init__"))):oE K mg x C:=⟨M,c,a,ini⟩
structure iN (qual f p:Str) (st:Stmt):Prop where
 S:az ["self",p] ["self",p] (ao st)
 hb:∃ p1 p2 p3 p4,aV st=[.Assign [.Attribute (.Name "self" p1) f p2] (.Name p p3) p4]/\(∀ env:Env,attributeBase (.Name "self" p1) f env (eval (.Name "self" p1) env)=eval (.Name "self" p1) env)/\(∀ env:Env,swapsWith (.Name p p3) (some (.Attribute (.Name "self" p1) f p2)) p4.line env=pure false)
 h1:(ao st).names.lookup ("self":Str)=some .local
 h2:(ao st).names.lookup p=some .local
 hd:(p==("__debug__":Str))=false
 hcd:(p==("__classdict__":Str))=false
 bd:∀(kV doc pm:Value) (an:Option Addr) (cdv ct:Value) (us:List Value),us.length=2->bindArgs (PySem.W.fnOf "__init__" qual (bG st) (aV st) (ao st) .none kV doc pm an cdv ct) ⟨us,[]⟩=pure ((["self",p]:List Str).zip us)
theorem jx {st:Stmt} {oc:Value} {od an:Option Addr} {osl:Array (Option Value)} {kV doc pm cdv ct:Value} (I:iN qual f p st) (a:mg x=some (.ref C)) (M:qh K C) (c:cF K C) (nof:findIn K (.ref C) f=some none)
  (ini:findIn K (.ref C) "__init__"=some (some (.ref fi))) (fn:isFn K (.ref fi)=true) (l:K.lookup fi=some ⟨oc,od,.func (PySem.W.fnOf "__init__" qual (bG st) (aV st) (ao st) .none kV doc pm an cdv ct),osl⟩) (cc:codeIn K cdv qual=true) (kk:keepIn K (.ref fi)=true) :
  ∀(P:Program) (w:World) (base:Heap),j7 P w K mg base x C f:=λP w base=>by
 obtain⟨p1,p2,p3,p4,hb,ab,sw⟩:=I.hb
 have F:=mX l cc kk
 exact⟨M,c,a,nof,fi,_,p,ini,fn,oU F I.S hb I.h1 I.h2 I.hd I.hcd ab sw,F.binds I.bd⟩
end
theorem fC {od:Option Addr} {cd:ClassData} {sl:Array (Option Value)} (_:K.In h) (_:mg x=some (.ref C)) (l:K.lookup C=some ⟨.type "type",od,.cls cd,sl⟩) (h2:bD cd.mro=true) (h3:cd.hasDict=true)
  (sa:findIn K (.ref C) "__setattr__"=some (some (.builtin "object.__setattr__"))) (ga:findIn K (.ref C) "__getattribute__"=some (some (.builtin "BaseException.__getattribute__"))) (gx:findIn K (.ref C) "__getattr__"=some none)
  (ca:findIn K (.ref C) "__class__"=some (some (.builtin "object.__class__"))) (gs:specialIn K (.builtin "object.__class__") "__get__"=some (some (.builtin "getset_descriptor.__get__"))) (tk:takesIn K (.builtin "object.__class__")=some true)
  (ob:∃ nm q N bs bm hdct sn sub ab col dd k0 k1 k2 k3 k5,(⟨.type "type",od,.cls cd,sl⟩:Obj)=excClassObj nm q C N bs bm hdct sn sub ab col dd k0 k1 k2 k3 k5 ig/\bm.contains (.type "ValueError")=true/\bm.contains (.type "AttributeError")=false/\bm.contains (.type "NameError")=false) (kp:keepIn K (.ref C)=true):cF K C/\qh K C :=
 ⟨qd l h2 h3 sa ga gx ca gs tk,sD l ob kp⟩
end
end L2
namespace Pw
theorem gJ (x n:Int):∀ k:Nat,(x%n)^k%n=x^k%n
 | 0=>by rw [Int.pow_zero,Int.pow_zero]
 | k+1=>by rw [Int.pow_succ,Int.pow_succ,Int.mul_emod,gJ x n k,Int.emod_emod,<- Int.mul_emod]
theorem n8 (b:Int):∀ k:Nat,(b*b)^k=b^(2*k)
 | 0=>by rw [Nat.mul_zero,Int.pow_zero,Int.pow_zero]
 | k+1=>by
  rw [Int.pow_succ,n8 b k,Nat.mul_add,Nat.mul_one,Int.pow_succ,Int.pow_succ,Int.mul_assoc]
theorem qH (x y n:Int):x%n*y%n=x*y%n:=by rw [Int.mul_emod,Int.emod_emod,<- Int.mul_emod]
theorem qG {x x' y y' n:Int} (h:x%n=x'%n) (h':y%n=y'%n):x*y%n=x'*y'%n:=by rw [Int.mul_emod,h,h',<- Int.mul_emod]
theorem step (r b n:Int) (l:Nat):(if l%2=1 then r*b%n else r)*(b*b%n)^(l/2)%n=r*b^l%n:=by
 have e:(b*b%n)^(l/2)%n=b^(2*(l/2))%n:=by rw [gJ,n8]
 by_cases c:l%2=1
 ·rw [if_pos c]
  have h:l=2*(l/2)+1:=by omega
  have e2:b^l=b^(2*(l/2))*b:=by rw [<- Int.pow_succ];exact congrArg _ h
  rw [qG (Int.emod_emod_of_dvd (r*b) (Int.dvd_refl n)) e,e2]
  congr 1
  rw [Int.mul_assoc,Int.mul_comm b]
 ·rw [if_neg c]
  have h:l=2*(l/2):=by omega
  rw [qG (rfl:r%n=r%n) e,<- h]
theorem pow_add (a:Int) (m:Nat):∀ k:Nat,a^(m+k)=a^m*a^k
 | 0=>by rw [Nat.add_zero,Int.pow_zero,Int.mul_one]
 | k+1=>by rw [<- Nat.add_assoc,Int.pow_succ,pow_add a m k,Int.pow_succ,Int.mul_assoc]
theorem mul_pow (a b:Int):∀ k:Nat,(a*b)^k=a^k*b^k
 | 0=>by rw [Int.pow_zero,Int.pow_zero,Int.pow_zero,Int.mul_one]
 | k+1=>by
  rw [Int.pow_succ,Int.pow_succ,Int.pow_succ,mul_pow a b k]
  grind
theorem pow_mul (a:Int) (m:Nat):∀ k:Nat,a^(m*k)=(a^m)^k
 | 0=>by rw [Nat.mul_zero,Int.pow_zero,Int.pow_zero]
 | k+1=>by rw [Nat.mul_add,Nat.mul_one,pow_add,pow_mul a m k,Int.pow_succ]
theorem one_pow:∀ k:Nat,(1:Int)^k=1
 | 0=>Int.pow_zero 1
 | k+1=>by rw [Int.pow_succ,one_pow k,Int.mul_one]
theorem rb {n x y:Int}:x%n=y%n↔n∣x-y:=by
 rw [Int.emod_eq_emod_iff_emod_sub_eq_zero,Int.dvd_iff_emod_eq_zero]
end Pw
namespace L2
open PySem PySem.Spec PyProof.Rows
end L2
namespace L2
open PySem PySem.Spec PyProof.Rows PySem.W
theorem Vals.rev:∀{xs:List V} {us:List Value},Vals xs us->Vals xs.reverse us.reverse
 | [],[],_=>.nil
 | x::xs,u::us,.cons r t=>by
  rw [List.reverse_cons,List.reverse_cons]
  exact (Vals.rev t).append (.cons r .nil)
def vo (K:PySem.W.Frag) (te:TE) (tk:TO):TE:=λσ H Q=>te σ H λx H1=>tk σ H1 λo H2=>o=some (-1)/\∃ a xs,x=.ref a/\bf K H2 a xs/\∀ p,H2 p=none->Q (.ref p) (upd H2 p (.lst xs.reverse))
section
variable {X:Cx} {e k:Expr} {te:TE} {tk:TO} {p2 pos:Pos}
end
mutual
def dv (K:PySem.W.Frag) (H:Hp):PyData->V->Prop
 | .none,v=>v=.non
 | .bool b,v=>v=.bl b
 | .int i,v=>v=.int i
 | .str x,v=>v=.str x
 | .list ds,v=>∃ p xs,v=.ref p/\bf K H p xs/\bo K H ds xs
 | .tuple ds,v=>∃ p xs,v=.ref p/\aT K H p xs/\bo K H ds xs
 | .dict _,_=>False
def bo (K:PySem.W.Frag) (H:Hp):List PyData->List V->Prop
 | [],xs=>xs=[]
 | d::ds,xs=>∃ x r,xs=x::r/\dv K H d x/\bo K H ds r
end
section
variable {K:PySem.W.Frag} {H H':Hp}
theorem Rd.same {a:Addr} {o:HO} (h:Rd H a o) (s:au H H'):Rd H' a o:=by
 rcases h with h | ⟨b,h⟩
 ·exact .inl (s _ _ h)
 ·exact .inr ⟨b,s _ _ h⟩
theorem bf.same {a:Addr} {xs:List V} (h:bf K H a xs) (s:au H H'):bf K H' a xs:=h.imp (λz=>z.same s) id
theorem aT.same {a:Addr} {xs:List V} (h:aT K H a xs) (s:au H H'):aT K H' a xs:=h.imp (λz=>z.same s) id
mutual
theorem dv.same (s:au H H'):∀(d:PyData) {v:V},dv K H d v->dv K H' d v
 | .none,_,h=>h
 | .bool _,_,h=>h
 | .int _,_,h=>h
 | .str _,_,h=>h
 | .list ds,_,⟨p,xs,e,h,t⟩=>⟨p,xs,e,h.same s,bo.same s ds t⟩
 | .tuple ds,_,⟨p,xs,e,h,t⟩=>⟨p,xs,e,h.same s,bo.same s ds t⟩
 | .dict _,_,h=>h.elim
theorem bo.same (s:au H H'):∀(ds:List PyData) {xs:List V},bo K H ds xs->bo K H' ds xs
 | [],_,h=>h
 | d::ds,_,⟨x,r,e,h,t⟩=>⟨x,r,e,dv.same s d h,bo.same s ds t⟩
end
theorem bo.length:∀{ds:List PyData} {xs:List V},bo K H ds xs->xs.length=ds.length
 | [],_,h=>by cases h;rfl
 | d::ds,_,⟨x,r,e,h,t⟩=>by subst e;rw [List.length_cons,List.length_cons,bo.length t]
theorem bo.get:∀{ds:List PyData} {xs:List V},bo K H ds xs->∀{i:Nat} {x:V},xs[i]?=some x->∃ d,ds[i]?=some d/\dv K H d x
 | [],_,h,i,x,e=>by cases h;simp at e
 | d::ds,_,⟨y,r,ey,h,t⟩,0,x,e=>by subst ey;simp at e;subst e;exact⟨d,rfl,h⟩
 | d::ds,_,⟨y,r,ey,h,t⟩,i+1,x,e=>by subst ey;simp at e;simpa using bo.get t e
theorem bo.append:∀{ds es:List PyData} {xs ys:List V},bo K H ds xs->bo K H es ys->bo K H (ds++es) (xs++ys)
 | [],_,_,_,h,h'=>by cases h;exact h'
 | d::ds,_,_,_,⟨x,r,e,h,t⟩,h'=>by subst e;exact⟨x,_,rfl,h,t.append h'⟩
theorem bo.one {d:PyData} {x:V} (h:dv K H d x):bo K H [d] [x]:=⟨x,[],rfl,h,rfl⟩
theorem dv.lst {p:Addr} {xs:List V} {ds:List PyData} (h:H p=some (.lst xs)) (t:bo K H ds xs):dv K H (.list ds) (.ref p):=⟨p,xs,rfl,bf.of h,t⟩
theorem dv.tup {p:Addr} {xs:List V} {ds:List PyData} (h:H p=some (.tup xs)) (t:bo K H ds xs):dv K H (.tuple ds) (.ref p):=⟨p,xs,rfl,aT.of h,t⟩
mutual
def mE:PyData->Bool
 | .list _=>false
 | .tuple ds=>dO ds
 | _=>true
def dO:List PyData->Bool
 | []=>true
 | d::ds=>mE d && dO ds
end
def SameBut (p:Addr) (H H':Hp):Prop:=∀ b o,b≠p->H b=some o->H' b=some o
theorem aT.but {p a:Addr} {us xs:List V} (hp:H p=some (.lst us)) (s:SameBut p H H') (h:aT K H a xs):aT K H' a xs:=by
 rcases h with (h | ⟨o,h⟩) | h
 ·exact .inl (.inl (s _ _ (λe=>by rw [e,hp] at h;cases h) h))
 ·exact .inl (.inr ⟨o,s _ _ (λe=>by rw [e,hp] at h;cases h) h⟩)
 ·exact .inr h
mutual
theorem dv.but {p:Addr} {us:List V} (hp:H p=some (.lst us)) (s:SameBut p H H'):∀(d:PyData) {v:V},mE d=true->dv K H d v->dv K H' d v
 | .none,_,_,h=>h
 | .bool _,_,_,h=>h
 | .int _,_,_,h=>h
 | .str _,_,_,h=>h
 | .list ds,_,z,_=>by cases z
 | .tuple ds,_,z,⟨q,xs,e,h,t⟩=>⟨q,xs,e,h.but hp s,bo.but hp s ds z t⟩
 | .dict _,_,_,h=>h.elim
theorem bo.but {p:Addr} {us:List V} (hp:H p=some (.lst us)) (s:SameBut p H H'):∀(ds:List PyData) {xs:List V},dO ds=true->bo K H ds xs->bo K H' ds xs
 | [],_,_,h=>h
 | d::ds,_,z,⟨x,r,e,h,t⟩=>by
  have z':mE d=true/\dO ds=true:=by simpa [dO] using z
  exact⟨x,r,e,dv.but hp s d z'.1 h,bo.but hp s ds z'.2 t⟩
end
theorem jM {α:Type} {f:α->PyData} (h:∀ x,mE (f x)=true):∀ xs:List α,dO (xs.map f)=true
 | []=>rfl
 | x::xs=>by rw [List.map_cons,dO,h,jM h xs];rfl
end
section
variable {X:Cx} {pins:List (Addr × Obj)} {σ:St} {H:Hp} {s:Shared}
mutual
theorem nW (I:Inv X pins σ H s):∀(d:PyData) {v:V} {u:Value},dv X.K H d v->RelV v u->∃ as,Reads s.heap u d as
 | .none,_,u,h,r=>by cases h;cases r;exact⟨_,.none⟩
 | .bool _,_,u,h,r=>by cases h;cases r;exact⟨_,.bool _⟩
 | .int _,_,u,h,r=>by cases h;obtain⟨t,rfl⟩:=r;exact⟨_,.int _ _⟩
 | .str _,_,u,h,r=>by cases h;obtain⟨t,rfl⟩:=r;exact⟨_,.str _ _⟩
 | .list ds,_,u,⟨p,xs,e,h,t⟩,r=>by
  subst e
  cases r
  obtain⟨its,rr,pl,_⟩:=I.list h
  obtain⟨o,h1,h2,n,h3⟩:=pl.isList
  obtain⟨as,ra⟩:=dS I ds t rr
  exact⟨_,.list h1 h2 h3 (by simpa using ra)⟩
 | .tuple ds,_,u,⟨p,xs,e,h,t⟩,r=>by
  subst e
  cases r
  obtain⟨its,rr,pl,_⟩:=I.tuple h
  obtain⟨o,h1,h2,n,h3⟩:=pl
  obtain⟨as,ra⟩:=dS I ds t rr
  exact⟨_,.tuple h1 h2 h3 (by simpa using ra)⟩
 | .dict _,_,_,h,_=>h.elim
theorem dS (I:Inv X pins σ H s):∀(ds:List PyData) {xs:List V} {us:List Value},bo X.K H ds xs->Vals xs us->∃ as,ReadsAll s.heap us ds as
 | [],_,us,h,r=>by cases h;cases r;exact⟨_,.nil⟩
 | d::ds,_,us,⟨x,r,e,h,t⟩,rr=>by
  subst e
  cases rr with
  | cons r1 r2 =>
   obtain⟨a1,q1⟩:=nW I d h r1
   obtain⟨a2,q2⟩:=dS I ds t r2
   exact⟨_,.cons q1 q2⟩
end
end
end L2
namespace Pw
def lst (xs:List Nat):Nat:=xs.getLast?.getD 0
end Pw
namespace L2
open PySem PySem.Spec PyProof.Rows PySem.W
def uK (C:Addr) (H:Hp) (E:XK):Prop:=∀ x H',au H H'->H x=none->H' x=some (XO x C none)->E (.ref C) (some x) H'
def uL (C:Addr) (f:Str) (v:V) (H:Hp) (E:XK):Prop:=∀ x dx H',au H H'->H x=none->H' x=some (XO x C (some dx))->H' dx=some (.xd [(f,v)])->E (.ref C) (some x) H'
theorem iy {K:PySem.W.Frag} {C x:Addr} {H H1:Hp} {E:XK} (c:cF K C) (hs:au H H1) (hx:H1 x=none) (e:uK C H E) :
  ∃(C':Addr) (dd:Option Addr),upd H1 x (XN x C none) x=some (XN x C' dd)/\cF K C'/\H x=none/\E (.ref C') (some x) (upd (upd H1 x (XN x C none)) x (XO x C' dd)):=by
 refine⟨C,none,af,c,hs.free hx,e x _ ?_ (hs.free hx) af⟩
 intro b o q
 have q1:=hs _ _ q
 have bx:b≠x:=λy=>by rw [y,hx] at q1;cases q1
 rw [ar bx,ar bx]
 exact q1
theorem iz {K:PySem.W.Frag} {C x dx:Addr} {f:Str} {v:V} {H H1:Hp} {E:XK} (c:cF K C) (hs:au H H1) (hx:H1 x=none) (hdx:H1 dx=none) (ne:dx≠x) (e:uL C f v H E) :
  ∃(C':Addr) (dd:Option Addr),upd (upd (upd H1 x (XN x C none)) dx (.xd [(f,v)])) x (XN x C (some dx)) x=some (XN x C' dd)/\cF K C'/\H x=none/\E (.ref C') (some x) (upd (upd (upd (upd H1 x (XN x C none)) dx (.xd [(f,v)])) x (XN x C (some dx))) x (XO x C' dd)):=by
 refine⟨C,some dx,af,c,hs.free hx,e x dx _ ?_ (hs.free hx) af ?_⟩
 ·intro b o q
  have q1:=hs _ _ q
  have bx:b≠x:=λy=>by rw [y,hx] at q1;cases q1
  have bd:b≠dx:=λy=>by rw [y,hdx] at q1;cases q1
  rw [ar bx,ar bx,ar bd,ar bx]
  exact q1
 ·rw [ar ne,ar ne,af]
end L2
namespace Ld
structure dH (n r:Int):Prop where
 two:2<=r
 dv:r∣n
 no:∀ d:Int,2<=d->d<r->¬d∣n
theorem dH.one {n r r':Int} (h:dH n r) (h':dH n r'):r=r':=by
 rcases Int.lt_trichotomy r r' with c | c | c
 ·exact absurd h.dv (h'.no r h.two c)
 ·exact c
 ·exact absurd h'.dv (h.no r' h'.two c)
theorem dH.le {n r:Int} (h:dH n r) (hn:0<n):r<=n:=Int.le_of_dvd hn h.dv
structure Inv (n k:Int):Prop where
 two:2<=k
 odd:k=2∨k%2=1
 no:∀ d:Int,2<=d->d<k->¬d∣n
theorem Inv.step {n k:Int} (h:Inv n k) (hk:¬k∣n):Inv n (k+if k=2 then 1 else 2):=by
 have h2:=h.two
 by_cases c:k=2
 ·rw [if_pos c]
  refine⟨by omega,.inr (by omega),λd d0 d1=>?_⟩
  have:d=k:=by omega
  rw [this];exact hk
 ·rw [if_neg c]
  have ho:k%2=1:=by rcases h.odd with z | z;exact absurd z c;exact z
  refine⟨by omega,.inr (by omega),λd d0 d1 hd=>?_⟩
  rcases (by omega:d<k∨d=k∨d=k+1) with z | z | z
  ·exact h.no d d0 z hd
  ·subst z;exact hk hd
  ·have e2:(2:Int)∣d:=Int.dvd_of_emod_eq_zero (by omega)
   exact h.no 2 (by omega) (by omega) (Int.dvd_trans e2 hd)
theorem Inv.found {n k:Int} (h:Inv n k) (hk:k∣n):dH n k:=⟨h.two,hk,h.no⟩
theorem Inv.done {n k:Int} (h:Inv n k) (hn:2<=n) (hk:n<k*k):dH n n:=by
 refine⟨hn,Int.dvd_refl n,λd d0 d1 hd=>?_⟩
 obtain⟨c,hc⟩:=hd
 have h2:=h.two
 by_cases z:d<k
 ·exact h.no d d0 z ⟨c,hc⟩
 ·have c0:0<c:=by
   rcases (by omega:c<=0∨0<c) with y | y
   ·have:=Int.mul_nonpos_of_nonneg_of_nonpos (show 0<=d by omega) y
    omega
   ·exact y
  have c2:2<=c:=by
   rcases (by omega:c=1∨2<=c) with y | y
   ·subst y;omega
   ·exact y
  have ck:c<k:=by
   rcases (by omega:c<k∨k<=c) with y | y
   ·exact y
   ·have:=Int.mul_le_mul (show k<=d by omega) y (by omega) (by omega)
    omega
  exact h.no c c2 ck ⟨d,by rw [Int.mul_comm];exact hc⟩
end Ld
namespace L2
open PySem PySem.Spec PyProof.Rows PySem.W
section
variable {K:PySem.W.Frag} {H:Hp}
mutual
theorem eqv_refl:∀ d:PyData,d.canLay0=true->PyData.eqv d d=true
 | .none,_=>by simp [PyData.eqv]
 | .bool _,_=>by simp [PyData.eqv]
 | .int _,_=>by simp [PyData.eqv]
 | .str _,_=>by simp [PyData.eqv]
 | .list ds,h=>by simpa [PyData.eqv] using fG ds h
 | .tuple ds,h=>by simpa [PyData.eqv] using fG ds h
 | .dict _,h=>by simp [PyData.canLay0] at h
theorem fG:∀ ds:List PyData,PyData.canLayAll0 ds=true->PyData.eqvAll ds ds=true
 | [],_=>by simp [PyData.eqvAll]
 | d::ds,h=>by
  have h':d.canLay0=true/\PyData.canLayAll0 ds=true:=by simpa [PyData.canLayAll0] using h
  simp [PyData.eqvAll,eqv_refl d h'.1,fG ds h'.2]
end
end
end L2
namespace L2
open PySem PySem.Spec PyProof.Rows
def uO (lo k:Int) (n:Nat):It:=⟨λi _=>i<n,λi H x H'=>H'=H/\x=.int (lo+i*k),λi _=>n<=i⟩
def tI (lo hi k:Int):Nat:=if lo<hi then ((hi-lo-1)/k+1).toNat else 0
def tu (ta:TA):TI:=λσ H R=>ta σ H λvs H1=>∃ i j k:Int,vs=[.int i,.int j,.int k]/\(-(2^60)<=i/\i<2^60 /\ -(2^60)<=j/\j<2^60/\0<k/\k<2^29)/\R (uO i k (tI i j k)) H1
section
variable {X:Cx} {tg:Expr}
end
end L2
namespace Sv
def sq (d:Nat) (arr:Nat->Bool):Nat->Bool:=λj=>arr j || (decide (d*d<=j) && decide (j%d=0))
def sv:Nat->(Nat->Bool) × List Nat
 | 0=>(λ_=>false,[])
 | i+1=>if (sv i).1 (i+2) then sv i else (sq (i+2) (sv i).1,(sv i).2++[i+2])
theorem len:∀ i,(sv i).2.length<=i
 | 0=>Nat.le_refl _
 | i+1=>by
  have:=len i
  rw [sv]
  split
  ·omega
  ·rw [List.length_append,List.length_singleton];omega
end Sv
namespace L2
open PySem PySem.Spec PyProof.Rows
section
variable {X:Cx} {pins:List (Addr × Obj)} {σ:St} {H:Hp} {s:Shared} {h':Heap}
end
def vQ (K:PySem.W.Frag) (a:Addr):It :=
 ⟨λi H=>∃ xs x,bf K H a xs/\xs[i]?=some x,λi H x H'=>∃ p v,H p=none/\x=.ref p/\(∀ xs,bf K H a xs->xs[i]?=some v)/\H'=upd H p (.tup [.int i,v]),λi H=>∃ xs,bf K H a xs/\xs.length<=i⟩
def sZ (K:PySem.W.Frag) (ta:TA):TI:=λσ H R=>ta σ H λvs H1=>∃ a,vs=[.ref a]/\(∃ xs,bf K H1 a xs)/\R (vQ K a) H1
end L2
namespace Crt
structure G (a b g:Int):Prop where
 pos:0<g
 da:g∣a
 db:g∣b
 lin:∃ u v:Int,u*a+v*b=g
theorem G.gr {a b g d:Int} (h:G a b g) (h1:d∣a) (h2:d∣b):d∣g:=by
 obtain⟨u,v,e⟩:=h.lin
 rw [<- e]
 exact Int.dvd_add (Int.dvd_mul_of_dvd_right h1) (Int.dvd_mul_of_dvd_right h2)
theorem G.one {a b g g':Int} (h:G a b g) (h':G a b g'):g=g':=Int.le_antisymm (Int.le_of_dvd h'.pos (h'.gr h.da h.db)) (Int.le_of_dvd h.pos (h.gr h'.da h'.db))
theorem a1 {g u A v L:Int} (e:u*(g*A)+v*(g*L)=g):g*(u*A+v*L)=g*1:=by grind
theorem a2 {g A k L l y:Int} (h1:y=g*A*k) (h2:y=g*L*l):g*(A*k)=g*(L*l):=by grind
theorem a3 {u A v L k l:Int} (e4:u*A+v*L=1) (e5:A*k=L*l):k=L*(u*l+v*k):=by
 have z:k*(u*A+v*L)=k:=by rw [e4,Int.mul_one]
 grind
theorem a4 {A D r L q1 t:Int} (et:L*q1+t=D*r):A*t=A*(D*r)-A*(L*q1):=by grind
theorem a5 {D r A L c:Int} (hc:r*A-1=L*c):D*(r*A)-D=D*(L*c):=by rw [<- hc];grind
theorem a6 {M L t q2 N x:Int} (ex:M*L*q2+x=N+M*t):x-N=M*(t-L*q2):=by grind
theorem a7 {g A L t q1 q2 c D r N x:Int} (z3:x=N+g*A*t-g*A*L*q2) (z1:A*t=A*(D*r)-A*(L*q1)) (z2:D*(r*A)-D=D*(L*c)):x-(N+g*D)=g*L*(c*D-q1*A-A*q2):=by grind
theorem a8 {M L k w:Int} (h:k=L*w):M*k=M*L*w:=by rw [h,Int.mul_assoc]
structure vP (M N m n W x:Int):Prop where
 pos:0<W
 dM:M∣W
 dm:m∣W
 le:∀ y:Int,M∣y->m∣y->W∣y
 x0:0<=x
 x1:x<W
 eM:M∣x-N
 em:m∣x-n
theorem uM:∀(b a:Nat),0<a->∃ g,G (a:Int) (b:Int) g:=by
 intro b
 induction b using Nat.strongRecOn with
 | ind b ih =>
  intro a ha
  rcases Nat.eq_zero_or_pos b with z | z
  ·subst z
   exact⟨a,by omega,Int.dvd_refl _,Int.dvd_zero _,1,0,by simp⟩
  ·obtain⟨g,h⟩:=ih (a%b) (Nat.mod_lt a z) b z
   obtain⟨u,v,e⟩:=h.lin
   have ed:(a:Int)=(b:Int)*((a/b:Nat):Int)+((a%b:Nat):Int):=by
    have:=Nat.div_add_mod a b
    rw [<- Int.natCast_mul,<- Int.natCast_add,this]
   refine⟨g,h.pos,?_,h.da,v,u-v*((a/b:Nat):Int),?_⟩
   ·rw [ed]
    exact Int.dvd_add (Int.dvd_mul_of_dvd_left h.da) h.db
   ·rw [ed,<- e]
    generalize ((a/b:Nat):Int)=q
    generalize ((a%b:Nat):Int)=r
    generalize (b:Int)=b'
    grind
theorem sL {a b:Int} (ha:0<a) (hb:0<b):∃ g,G a b g:=by
 obtain⟨g,h⟩:=uM b.toNat a.toNat (by omega)
 rw [Int.toNat_of_nonneg (by omega),Int.toNat_of_nonneg (by omega)] at h
 exact⟨g,h⟩
structure Told (ps:List (Int × Int)) (M N:Int):Prop where
 pos:0<M
 x0:0<=N
 x1:N<M
 dv:∀ p∈ps,p.1∣M
 le:∀ y:Int,(∀ p∈ps,p.1∣y)->M∣y
 al:∀ p∈ps,p.1∣N-p.2
theorem Told.nil:Told [] 1 0:=⟨by decide,by decide,by decide,λ_ h=>by simp at h,λy _=>⟨y,by omega⟩,λ_ h=>by simp at h⟩
theorem Told.one {ps:List (Int × Int)} {M N M' N':Int} (h:Told ps M N) (h':Told ps M' N'):M=M'/\N=N':=by
 have e:M=M':=Int.le_antisymm (Int.le_of_dvd h'.pos (h.le _ h'.dv)) (Int.le_of_dvd h.pos (h'.le _ h.dv))
 subst e
 refine⟨rfl,?_⟩
 have z:M∣N-N':=h.le _ λp hp=>by
  have:=Int.dvd_sub (h.al p hp) (h'.al p hp)
  rwa [show N-p.2-(N' - p.2)=N-N' by omega] at this
 have w:=Int.emod_emod_of_dvd
 have:=(Int.emod_eq_emod_iff_emod_sub_eq_zero (m:=N) (n:=M) (k:=N')).mpr (Int.emod_eq_zero_of_dvd z)
 rwa [Int.emod_eq_of_lt h.x0 h.x1,Int.emod_eq_of_lt h'.x0 h'.x1] at this
end Crt
namespace Num
def Al (n x y:Int):Prop:=n∣x-y
theorem Al.refl (n x:Int):Al n x x:=⟨0,by omega⟩
theorem Al.symm {n x y:Int} (h:Al n x y):Al n y x:=by
 have:=(Int.dvd_neg).mpr h
 rwa [show -(x-y)=y-x by omega] at this
theorem Al.trans {n x y z:Int} (h:Al n x y) (h':Al n y z):Al n x z:=by
 have:=Int.dvd_add h h'
 rwa [show x-y+(y-z)=x-z by omega] at this
theorem Al.mul {n x y u v:Int} (h:Al n x y) (h':Al n u v):Al n (x*u) (y*v):=by
 have h1:n∣(x-y)*u:=Int.dvd_mul_of_dvd_left h
 have h2:n∣y*(u-v):=Int.dvd_mul_of_dvd_right h'
 have:=Int.dvd_add h1 h2
 rwa [show (x-y)*u+y*(u-v)=x*u-y*v by rw [Int.sub_mul,Int.mul_sub];omega] at this
theorem Al.pow {n x y:Int} (h:Al n x y):∀ k:Nat,Al n (x^k) (y^k)
 | 0=>by rw [Int.pow_zero,Int.pow_zero];exact Al.refl _ _
 | k+1=>by rw [Int.pow_succ,Int.pow_succ];exact (Al.pow h k).mul h
theorem Al.iff {n x y:Int}:Al n x y↔x%n=y%n:=Pw.rb.symm
theorem Al.rest (n x:Int):Al n (x%n) x:=Al.iff.mpr (Int.emod_emod_of_dvd x (Int.dvd_refl n))
def Co (a n:Int):Prop:=∃ u v:Int,u*a+v*n=1
theorem Co.dvd {a n b:Int} (h:Co a n) (hd:n∣a*b):n∣b:=by
 obtain⟨u,v,e⟩:=h
 have h1:n∣u*(a*b):=Int.dvd_mul_of_dvd_right hd
 have h2:n∣(v*b)*n:=⟨v*b,Int.mul_comm _ _⟩
 have:=Int.dvd_add h1 h2
 have e2:u*(a*b)+v*b*n=(u*a+v*n)*b:=by
  rw [Int.add_mul,Int.mul_assoc u a b,Int.mul_assoc v n b,Int.mul_comm n b,Int.mul_assoc v b n]
 rw [e2,e,Int.one_mul] at this
 exact this
theorem Co.cancel {a n x y:Int} (h:Co a n) (e:Al n (a*x) (a*y)):Al n x y:=by
 refine h.dvd ?_
 rw [Int.mul_sub]
 exact e
theorem Co.mul {a b n:Int} (h:Co a n) (h':Co b n):Co (a*b) n:=by
 obtain⟨u,v,e⟩:=h
 obtain⟨u',v',e'⟩:=h'
 refine⟨u*u',u*a*v'+v*(u'*b+v'*n),?_⟩
 have:(u*a+v*n)*(u'*b+v'*n)=1:=by rw [e,e'];rfl
 grind
theorem Co.pow {a n:Int} (h:Co a n):∀ k:Nat,Co (a^k) n
 | 0=>⟨1,0,by rw [Int.pow_zero];simp⟩
 | k+1=>by rw [Int.pow_succ];exact (Co.pow h k).mul h
theorem Co.tK {a b n:Int} (h:Co a n) (e:Al n a b):Co b n:=by
 obtain⟨u,v,e1⟩:=h
 obtain⟨c,hc⟩:=e
 refine⟨u,v+u*c,?_⟩
 have:b=a-n*c:=by omega
 rw [this]
 grind
theorem ba {n a:Int} {d k:Nat} (h:Al n (a^d) 1):Al n (a^(d*k)) 1:=by
 rw [Pw.pow_mul]
 have:=h.pow k
 rwa [Pw.one_pow] at this
structure Ord (n a:Int) (m:Nat):Prop where
 pos:0<m
 one:Al n (a^m) 1
 dv:∀ j:Nat,Al n (a^j) 1->m∣j
theorem pow_mod {n a:Int} {m j:Nat} (h:Al n (a^m) 1) (hj:Al n (a^j) 1):Al n (a^(j%m)) 1:=by
 have e:a^j=a^(m*(j/m))*a^(j%m):=by rw [<- Pw.pow_add,Nat.div_add_mod]
 rw [e] at hj
 have h1:=(ba (k:=j/m) h).mul (Al.refl n (a^(j%m)))
 rw [Int.one_mul] at h1
 exact h1.symm.trans hj
theorem i9 {n a:Int} {m:Nat} (pos:0<m) (one:Al n (a^m) 1) (no:∀ j,0<j->j<m->¬Al n (a^j) 1):Ord n a m:=by
 refine⟨pos,one,λj hj=>?_⟩
 have h:=pow_mod one hj
 rcases Nat.eq_zero_or_pos (j%m) with z | z
 ·exact Nat.dvd_of_mod_eq_zero z
 ·exact absurd h (no _ z (Nat.mod_lt _ pos))
theorem dN {P:Nat->Prop}:∀ N:Nat,P N->∃ m,P m/\∀ j,j<m->¬P j:=by
 intro N
 induction N using Nat.strongRecOn with
 | ind N ih =>
  intro h
  by_cases z:∃ j,j<N/\P j
  ·obtain⟨j,hj,pj⟩:=z
   exact ih j hj pj
  ·exact⟨N,h,λj hj pj=>z ⟨j,hj,pj⟩⟩
theorem i8 {n a:Int} {N:Nat} (pos:0<N) (h:Al n (a^N) 1):∃ m,Ord n a m/\m<=N:=by
 obtain⟨m,⟨m0,m1⟩,no⟩:=dN (P:=λj=>0<j/\Al n (a^j) 1) N ⟨pos,h⟩
 refine⟨m,i9 m0 m1 λj j0 jm z=>no j jm ⟨j0,z⟩,?_⟩
 by_cases z:m<=N
 ·exact z
 ·exact absurd ⟨pos,h⟩ (no N (by omega))
theorem Ord.inj {n a:Int} {m i j:Nat} (h:Ord n a m) (c:Co a n) (hi:i<m) (hj:j<m) (e:Al n (a^i) (a^j)):i=j:=by
 have aux:∀ i j:Nat,i<m->j<m->i<=j->Al n (a^i) (a^j)->i=j:=by
  intro i j hi hj hij e
  have e1:a^j=a^i*a^(j-i):=by rw [<- Pw.pow_add];congr 1;omega
  rw [e1] at e
  have e2:Al n (a^i*1) (a^i*a^(j-i)):=by rw [Int.mul_one];exact e
  have e3:=(c.pow i).cancel e2
  have:=h.dv _ e3.symm
  rcases Nat.eq_zero_or_pos (j-i) with z | z
  ·omega
  ·have:=Nat.le_of_dvd z this
   omega
 rcases Nat.le_total i j with z | z
 ·exact aux i j hi hj z e
 ·exact (aux j i hj hi z e.symm).symm
theorem jd:∀(n:Nat) (l:List Nat),l.Nodup->(∀ x∈l,x<n)->l.length<=n:=by
 intro n
 induction n with
 | zero =>
  intro l _ h
  cases l with
  | nil=>exact Nat.le_refl _
  | cons x r=>exact absurd (h x (by simp)) (by omega)
 | succ n ih =>
  intro l nd h
  by_cases c:n∈l
  ·have h1:=ih (l.erase n) (nd.erase n) λx hx=>by
    have hx':=List.mem_of_mem_erase hx
    have ne:x≠n:=λz=>by
     subst z
     exact absurd hx (List.Nodup.not_mem_erase nd)
    have:=h x hx'
    omega
   rw [List.length_erase_of_mem c] at h1
   omega
  ·have h1:=ih l nd λx hx=>by
    have:=h x hx
    have ne:x≠n:=λz=>c (z▸hx)
    omega
   omega
end Num
namespace Num
structure Pm (p:Int):Prop where
 two:2<=p
 no:∀ d:Int,2<=d->d<p->¬d∣p
theorem Pm.co {p a:Int} (h:Pm p) (ha:¬p∣a):Co a p:=by
 have h2:=h.two
 have r0:=Int.emod_nonneg a (show p≠0 by omega)
 have r1:=Int.emod_lt_of_pos a (show 0<p by omega)
 have rn:a%p≠0:=λz=>ha (Int.dvd_of_emod_eq_zero z)
 obtain⟨g,G⟩:=Crt.sL (a:=a%p) (b:=p) (by omega) (by omega)
 have gl:=Int.le_of_dvd (show 0<a%p by omega) G.da
 have g1:g=1:=by
  have g0:=G.pos
  rcases (by omega:g=1∨2<=g) with z | z
  ·exact z
  ·exact absurd G.db (h.no g z (by omega))
 obtain⟨u,v,e⟩:=G.lin
 rw [g1] at e
 exact Co.tK ⟨u,v,e⟩ (Al.rest p a)
theorem Pm.or {p a b:Int} (h:Pm p) (hd:p∣a*b) (ha:¬p∣a):p∣b:=(h.co ha).dvd hd
def H:Int->List Int->Int->Int
 | acc,[],_=>acc
 | acc,c::cs,x=>H (acc*x+c) cs x
theorem mI (x:Int):∀(cs:List Int) (a b:Int),H (a+b) cs x=H a cs x+b*x^cs.length
 | [],a,b=>by rw [List.length_nil,Int.pow_zero,Int.mul_one];rfl
 | c::cs,a,b=>by
  show H ((a+b)*x+c) cs x=H (a*x+c) cs x+b*x^(cs.length+1)
  rw [show (a+b)*x+c=(a*x+c)+b*x by rw [Int.add_mul];omega,mI x cs,Int.pow_succ,Int.mul_assoc,Int.mul_comm x]
def pU (r:Int):Int->List Int->List Int
 | _,[]=>[]
 | _,[_]=>[]
 | c0,c::c'::cs=>(c0*r+c)::pU r (c0*r+c) (c'::cs)
theorem jg (r:Int):∀(cs:List Int) (c0:Int),(pU r c0 cs).length=cs.length-1
 | [],_=>rfl
 | [_],_=>rfl
 | c::c'::cs,c0=>by
  show (pU r (c0*r+c) (c'::cs)).length+1=_
  rw [jg r (c'::cs)]
  simp
theorem factor (x r:Int):∀(cs:List Int) (c0:Int),cs≠[]->H c0 cs x-H c0 cs r=(x-r)*H c0 (pU r c0 cs) x
 | [],_,h=>absurd rfl h
 | [c],c0,_=>by
  show c0*x+c-(c0*r+c)=(x-r)*c0
  rw [Int.sub_mul,Int.mul_comm c0 x,Int.mul_comm c0 r]
  omega
 | c::c'::cs,c0,_=>by
  have ih:=factor x r (c'::cs) (c0*r+c) (by simp)
  show H (c0*x+c) (c'::cs) x-H (c0*r+c) (c'::cs) r=(x-r)*H (c0*x+(c0*r+c)) (pU r (c0*r+c) (c'::cs)) x
  have e1:c0*x+c=(c0*r+c)+c0*(x-r):=by rw [Int.mul_sub];omega
  have e2:H (c0*x+(c0*r+c)) (pU r (c0*r+c) (c'::cs)) x=H (c0*r+c) (pU r (c0*r+c) (c'::cs)) x+c0*x*x^cs.length:=by
   rw [Int.add_comm (c0*x),mI,jg]
   simp
  rw [e1,mI,e2,List.length_cons,Int.pow_succ,Int.mul_add,<- ih]
  generalize H (c0*r+c) (c'::cs) x=A
  generalize H (c0*r+c) (c'::cs) r=B
  generalize x^cs.length=Y
  grind
theorem roots {p:Int} (hp:Pm p):∀(n:Nat) (cs:List Int) (c0:Int),cs.length=n->¬p∣c0->∀ rs:List Int,rs.Pairwise (λa b=>¬Al p a b)->(∀ r∈rs,p∣H c0 cs r)->rs.length<=n:=by
 intro n
 induction n with
 | zero =>
  intro cs c0 hl h0 rs hr hz
  have:cs=[]:=List.eq_nil_of_length_eq_zero hl
  subst this
  cases rs with
  | nil=>exact Nat.le_refl _
  | cons r rs=>exact absurd (hz r (by simp)) h0
 | succ n ih =>
  intro cs c0 hl h0 rs hr hz
  cases rs with
  | nil=>exact Nat.zero_le _
  | cons r rs =>
   have hne:cs≠[]:=λz=>by rw [z] at hl;simp at hl
   obtain⟨h1,h2⟩:=List.pairwise_cons.mp hr
   have:=ih (pU r c0 cs) c0 (by rw [jg,hl];rfl) h0 rs h2 λs hs=>by
    have e:=factor s r cs c0 hne
    have d1:=hz s (List.mem_cons_of_mem _ hs)
    have d2:=hz r (by simp)
    have d3:=Int.dvd_sub d1 d2
    rw [e] at d3
    exact hp.or d3 λz=>h1 s hs (Al.symm z)
   simpa using this
theorem qe (x:Int):∀(n:Nat) (a:Int),H a (List.replicate n 0++[-1]) x=a*x^(n+1)-1
 | 0,a=>by
  show a*x + -1=_
  rw [Int.pow_succ,Int.pow_zero,Int.one_mul];omega
 | n+1,a=>by
  show H (a*x+0) (List.replicate n 0++[-1]) x=_
  rw [qe x n,Int.add_zero,Int.pow_succ x (n+1),Int.mul_comm (x^(n+1)) x,Int.mul_assoc]
theorem oG {p:Int} (hp:Pm p) {n:Nat} (hn:0<n) (h:∀ a:Int,¬p∣a->Al p (a^n) 1):p-1<=n:=by
 have h2:=hp.two
 obtain⟨m,rfl⟩:∃ m,n=m+1:=⟨n-1,by omega⟩
 have key:=roots hp (m+1) (List.replicate m 0++[-1]) 1 (by simp) (λz=>by have:=Int.le_of_dvd (by decide) z;omega) ((List.range (p-1).toNat).map λi:Nat=>(i:Int)+1) ?_ ?_
 ·rw [List.length_map,List.length_range] at key
  omega
 ·rw [List.pairwise_map]
  refine List.Pairwise.imp_of_mem (R:=(·<·)) (λ{a b} ha hb hab z=>?_) List.pairwise_lt_range
  have hb':=List.mem_range.mp hb
  have:=Int.le_of_dvd (by omega) (Al.symm z)
  omega
 ·intro r hr
  obtain⟨i,hi,rfl⟩:=List.mem_map.mp hr
  have hi':=List.mem_range.mp hi
  rw [qe,Int.one_mul]
  exact h _ λz=>by have:=Int.le_of_dvd (by omega) z;omega
theorem iC {f:Nat->Nat} {n:Nat} (h:∀ i j,i<j->j<n->f i≠f j):((List.range n).map f).Nodup:=by
 show List.Pairwise _ _
 rw [List.pairwise_map]
 exact List.Pairwise.imp_of_mem (R:=(·<·)) (λ{a b} ha hb hab=>h a b hab (List.mem_range.mp hb)) List.pairwise_lt_range
theorem rest_eq {p x y:Int} (hp:0<p) (e:(x%p).toNat=(y%p).toNat):Al p x y:=by
 have h1:=Int.emod_nonneg x (show p≠0 by omega)
 have h2:=Int.emod_nonneg y (show p≠0 by omega)
 exact Al.iff.mpr (by omega)
theorem back {n a:Int} (hn:2<=n) (c:Co a n):∃ d:Nat,0<d/\(d:Int)<=n/\Al n (a^d) 1:=by
 by_cases z:∃ i j:Nat,i<j/\j<n.toNat+1/\Al n (a^i) (a^j)
 ·obtain⟨i,j,ij,jn,e⟩:=z
  refine⟨j-i,by omega,by omega,?_⟩
  have e1:a^j=a^i*a^(j-i):=by rw [<- Pw.pow_add];congr 1;omega
  rw [e1] at e
  have e2:Al n (a^i*1) (a^i*a^(j-i)):=by rw [Int.mul_one];exact e
  exact ((c.pow i).cancel e2).symm
 ·exfalso
  have nd:=iC (f:=λi=>(a^i%n).toNat) (n:=n.toNat+1) λi j ij jn e=>z ⟨i,j,ij,jn,rest_eq (by omega) e⟩
  have:=jd n.toNat _ nd λx hx=>by
   obtain⟨i,_,rfl⟩:=List.mem_map.mp hx
   have h1:=Int.emod_nonneg (a^i) (show n≠0 by omega)
   have h2:=Int.emod_lt_of_pos (a^i) (show 0<n by omega)
   show (a^i%n).toNat<n.toNat
   omega
  rw [List.length_map,List.length_range] at this
  omega
def fact:Nat->Nat
 | 0=>1
 | n+1=>(n+1)*fact n
theorem jH:∀ n,0<fact n
 | 0=>by decide
 | n+1=>Nat.mul_pos (Nat.succ_pos n) (jH n)
theorem jD {d:Nat}:∀ n,0<d->d<=n->d∣fact n
 | 0,h,h'=>by omega
 | n+1,h,h'=>by
  by_cases c:d=n+1
  ·subst c;exact⟨fact n,rfl⟩
  ·exact Nat.dvd_trans (jD n h (by omega)) ⟨n+1,Nat.mul_comm _ _⟩
theorem Ord.mul {n a b:Int} {k m:Nat} (ha:Ord n a k) (hb:Ord n b m) (ca:Co a n) (cb:Co b n) (co:Nat.Coprime k m):Ord n (a*b) (k*m):=by
 refine⟨Nat.mul_pos ha.pos hb.pos,?_,λj hj=>?_⟩
 ·rw [Pw.mul_pow]
  have h1:=ba (k:=m) ha.one
  have h2:=ba (k:=k) hb.one
  rw [Nat.mul_comm m k] at h2
  exact h1.mul h2
 ·rw [Pw.mul_pow] at hj
  have d1:k∣j:=by
   have e:=hj.pow m
   rw [Pw.one_pow,Pw.mul_pow,<- Pw.pow_mul,<- Pw.pow_mul] at e
   have h2:=ba (k:=j) hb.one
   rw [Nat.mul_comm m j] at h2
   have e2:Al n (a^(j*m)) 1:=by
    have:=(Al.refl n (a^(j*m))).mul h2.symm
    rw [Int.mul_one] at this
    exact this.trans e
   exact Nat.Coprime.dvd_of_dvd_mul_right co (ha.dv _ e2)
  have d2:m∣j:=by
   have e:=hj.pow k
   rw [Pw.one_pow,Pw.mul_pow,<- Pw.pow_mul,<- Pw.pow_mul] at e
   have h2:=ba (k:=j) ha.one
   rw [Nat.mul_comm k j] at h2
   have e2:Al n (b^(j*k)) 1:=by
    have:=h2.symm.mul (Al.refl n (b^(j*k)))
    rw [Int.one_mul] at this
    exact this.trans e
   exact Nat.Coprime.dvd_of_dvd_mul_right co.symm (hb.dv _ e2)
  exact Nat.Coprime.mul_dvd_of_dvd_of_dvd co d1 d2
end Num
namespace Num
def Nm (q:Nat):Prop:=2<=q/\∀ d,2<=d->d<q->¬d∣q
theorem qI {m:Nat} (h:2<=m):∃ q,Nm q/\q∣m:=by
 obtain⟨q,⟨q2,qm⟩,no⟩:=dN (P:=λd=>2<=d/\d∣m) m ⟨h,Nat.dvd_refl m⟩
 exact⟨q,⟨q2,λd d2 dq hd=>no d dq ⟨d2,Nat.dvd_trans hd qm⟩⟩,qm⟩
theorem Nm.co {q m:Nat} (h:Nm q) (hm:¬q∣m):Nat.Coprime q m:=by
 have hg:=Nat.gcd_dvd_left q m
 have g0:0<Nat.gcd q m:=Nat.gcd_pos_of_pos_left m (by have:=h.1;omega)
 have gl:=Nat.le_of_dvd (by have:=h.1;omega) hg
 rcases (by omega:Nat.gcd q m=1∨(2<=Nat.gcd q m/\Nat.gcd q m<q)∨Nat.gcd q m=q) with z | ⟨z1,z2⟩ | z
 ·exact z
 ·exact absurd hg (h.2 _ z1 z2)
 ·exact absurd (z▸Nat.gcd_dvd_right q m) hm
theorem n6 {q:Nat} (hq:2<=q):∀ m:Nat,0<m->∃ k m',m=q^k*m'/\¬q∣m':=by
 intro m
 induction m using Nat.strongRecOn with
 | ind m ih =>
  intro hm
  by_cases c:q∣m
  ·obtain⟨t,ht⟩:=c
   have t0:0<t:=by
    rcases Nat.eq_zero_or_pos t with z | z
    ·subst z;omega
    ·exact z
   have tm:t<m:=by
    rw [ht]
    have:=Nat.mul_le_mul_right t hq
    omega
   obtain⟨k,m',e,hn⟩:=ih t tm t0
   exact⟨k+1,m',by rw [ht,e,Nat.pow_succ,Nat.mul_comm (q^k) q,Nat.mul_assoc],hn⟩
  ·exact⟨0,m,by simp,c⟩
theorem lz {q:Nat} (h:Nm q):∀(k d:Nat),d∣q^(k+1)->¬d∣q^k->d=q^(k+1):=by
 intro k
 induction k with
 | zero =>
  intro d h1 h2
  rw [Nat.zero_add,Nat.pow_one] at h1 ⊢
  rw [Nat.pow_zero] at h2
  have q2:=h.1
  have d0:0<d:=Nat.pos_of_dvd_of_pos h1 (by omega)
  have dl:=Nat.le_of_dvd (by omega) h1
  rcases (by omega:d=1∨(2<=d/\d<q)∨d=q) with z | ⟨z1,z2⟩ | z
  ·exact absurd (z▸Nat.dvd_refl 1) h2
  ·exact absurd h1 (h.2 d z1 z2)
  ·exact z
 | succ k ih =>
  intro d h1 h2
  by_cases c:q∣d
  ·obtain⟨t,ht⟩:=c
   have q0:0<q:=by have:=h.1;omega
   rw [ht,Nat.pow_succ,Nat.mul_comm (q^(k+1)) q] at h1
   rw [ht,Nat.pow_succ,Nat.mul_comm (q^k) q] at h2
   have e1:=Nat.dvd_of_mul_dvd_mul_left q0 h1
   have e2:¬t∣q^k:=λz=>h2 (Nat.mul_dvd_mul_left q z)
   rw [ht,ih t e1 e2,Nat.pow_succ q (k+1),Nat.mul_comm]
  ·have co:Nat.Coprime (q^(k+1+1)) d:=Nat.Coprime.pow_left _ (h.co c)
   have:d∣1:=by
    have:=Nat.dvd_gcd h1 (Nat.dvd_refl d)
    rwa [co] at this
   exact absurd (Nat.dvd_trans this (Nat.one_dvd _)) h2
section
variable {p:Int} {L:Nat}
structure Ex (p:Int) (L:Nat):Prop where
 pos:0<L
 all:∀ a:Int,¬p∣a->Al p (a^L) 1
 no:∀ j,0<j->j<L->∃ a:Int,¬p∣a/\¬Al p (a^j) 1
theorem Pm.unit {p a:Int} (hp:Pm p) (c:Co a p):¬p∣a:=λh=>by
 obtain⟨u,v,e⟩:=c
 have h1:p∣u*a:=Int.dvd_mul_of_dvd_right h
 have h2:p∣v*p:=⟨v,Int.mul_comm _ _⟩
 have:=Int.dvd_add h1 h2
 rw [e] at this
 have:=Int.le_of_dvd (by decide) this
 have:=hp.two
 omega
theorem sU (hp:Pm p):∃ L,Ex p L:=by
 have h2:=hp.two
 have uni:∀ a:Int,¬p∣a->Al p (a^fact p.toNat) 1:=λa ha=>by
  obtain⟨d,d0,d1,e⟩:=back h2 (hp.co ha)
  obtain⟨t,ht⟩:=jD p.toNat d0 (by omega)
  rw [ht]
  exact ba e
 obtain⟨L,⟨l0,l1⟩,no⟩:=dN (P:=λj=>0<j/\∀ a:Int,¬p∣a->Al p (a^j) 1) (fact p.toNat) ⟨jH _,uni⟩
 refine⟨L,l0,l1,λj j0 jl=>?_⟩
 have:=no j jl
 by_cases z:∃ a:Int,¬p∣a/\¬Al p (a^j) 1
 ·exact z
 ·exact absurd ⟨j0,λa ha=>Classical.byContradiction λw=>z ⟨a,ha,w⟩⟩ this
theorem jR (hp:Pm p) (h:Ex p L):∀ m:Nat,0<m->m∣L->∃ x:Int,Co x p/\Ord p x m:=by
 intro m
 induction m using Nat.strongRecOn with
 | ind m ih =>
  intro hm hd
  by_cases c:m=1
  ·subst c
   exact⟨1,⟨1,0,by omega⟩,by decide,by rw [Int.pow_succ,Int.pow_zero];exact Al.refl _ _,λj _=>Nat.one_dvd j⟩
  ·obtain⟨q,hq,qm⟩:=qI (show 2<=m by omega)
   obtain⟨k,m',e,hn⟩:=n6 hq.1 m hm
   have q0:0<q:=by have:=hq.1;omega
   obtain⟨k',rfl⟩:∃ k',k=k'+1:=by
    cases k with
    | zero=>rw [Nat.pow_zero,Nat.one_mul] at e;exact absurd (e▸qm) hn
    | succ k'=>exact⟨k',rfl⟩
   have m0:0<m':=by
    rcases Nat.eq_zero_or_pos m' with z | z
    ·rw [z,Nat.mul_zero] at e;omega
    ·exact z
   have qk:2<=q^(k'+1):=by
    rw [Nat.pow_succ]
    have:=Nat.mul_le_mul (Nat.pow_pos (n:=k') q0) hq.1
    omega
   have mm:m'<m:=by
    rw [e]
    have:=Nat.mul_le_mul_right m' qk
    omega
   obtain⟨y,cy,oy⟩:=ih m' mm m0 (Nat.dvd_trans ⟨q^(k'+1),by rw [e,Nat.mul_comm]⟩ hd)
   have dq:q^(k'+1)∣L:=Nat.dvd_trans ⟨m',e⟩ hd
   obtain⟨T,hT⟩:=dq
   have T0:0<T:=by
    rcases Nat.eq_zero_or_pos T with z | z
    ·rw [z,Nat.mul_zero] at hT;have:=h.pos;omega
    ·exact z
   have eL:L=q*(q^k'*T):=by rw [hT,Nat.pow_succ,Nat.mul_comm (q^k') q,Nat.mul_assoc]
   have jp:0<q^k'*T:=Nat.mul_pos (Nat.pow_pos q0) T0
   have jl:q^k'*T<L:=by
    rw [eL]
    have:=Nat.mul_le_mul_right (q^k'*T) hq.1
    omega
   obtain⟨a,ha,hna⟩:=h.no _ jp jl
   have ca:=hp.co ha
   have z1:Al p ((a^T)^(q^(k'+1))) 1:=by
    rw [<- Pw.pow_mul,Nat.mul_comm,<- hT]
    exact h.all a ha
   have z2:¬Al p ((a^T)^(q^k')) 1:=by
    rw [<- Pw.pow_mul,Nat.mul_comm]
    exact hna
   obtain⟨d,od,_⟩:=i8 (Nat.pow_pos q0) z1
   have d1:=od.dv _ z1
   have d2:¬d∣q^k':=λw=>z2 (by obtain⟨t,ht⟩:=w;rw [ht];exact ba od.one)
   have ed:=lz hq k' d d1 d2
   subst ed
   refine⟨a^T*y,(ca.pow T).mul cy,?_⟩
   rw [e]
   exact od.mul oy (ca.pow T) cy (Nat.Coprime.pow_left _ (hq.co hn))
theorem sV (hp:Pm p) (h:Ex p L):(L:Int)=p-1:=by
 have h2:=hp.two
 have h1:=oG hp h.pos h.all
 obtain⟨g,cg,og⟩:=jR hp h L h.pos (Nat.dvd_refl L)
 have nd:=iC (f:=λi=>(g^i%p).toNat-1) (n:=L) λi j ij jn e=>by
  have r1:∀ k:Nat,1<=(g^k%p).toNat:=λk=>by
   have a1:=Int.emod_nonneg (g^k) (show p≠0 by omega)
   have:g^k%p≠0:=λz=>hp.unit (cg.pow k) (Int.dvd_of_emod_eq_zero z)
   omega
  have e':(g^i%p).toNat=(g^j%p).toNat:=by
   have:=r1 i
   have:=r1 j
   have e:(g^i%p).toNat-1=(g^j%p).toNat-1:=e
   omega
  have:=og.inj cg (by omega) jn (rest_eq (by omega) e')
  omega
 have:=jd (p-1).toNat _ nd λx hx=>by
  obtain⟨i,_,rfl⟩:=List.mem_map.mp hx
  have a1:=Int.emod_nonneg (g^i) (show p≠0 by omega)
  have a2:=Int.emod_lt_of_pos (g^i) (show 0<p by omega)
  have:g^i%p≠0:=λz=>hp.unit (cg.pow i) (Int.dvd_of_emod_eq_zero z)
  show (g^i%p).toNat-1<(p-1).toNat
  omega
 rw [List.length_map,List.length_range] at this
 omega
theorem ki (hp:Pm p) {m:Nat} (h0:0<m) (hd:m∣(p-1).toNat):∃ x:Int,1<=x/\x<p/\Ord p x m:=by
 obtain⟨L,h⟩:=sU hp
 have:=sV hp h
 have h2:=hp.two
 obtain⟨x,cx,ox⟩:=jR hp h m h0 (by rwa [show (p-1).toNat=L by omega] at hd)
 have a1:=Int.emod_nonneg x (show p≠0 by omega)
 have a2:=Int.emod_lt_of_pos x (show 0<p by omega)
 have a3:x%p≠0:=λz=>hp.unit cx (Int.dvd_of_emod_eq_zero z)
 refine⟨x%p,by omega,a2,ox.pos,((Al.rest p x).pow m).trans ox.one,λj hj=>ox.dv j (((Al.rest p x).pow j).symm.trans hj)⟩
theorem oR (hp:Pm p):∃ g:Int,1<=g/\g<p/\Ord p g (p-1).toNat:=ki hp (by have:=hp.two;omega) (Nat.dvd_refl _)
end
end Num
namespace Num
theorem rX {n a:Int} {e:Nat} (h0:0<e) (h1:Al n (a^e) 1) (no:∀ q,Nm q->q∣e->¬Al n (a^(e/q)) 1):Ord n a e:=by
 obtain⟨m,om,_⟩:=i8 h0 h1
 have d:=om.dv _ h1
 by_cases z:m=e
 ·subst z;exact om
 ·exfalso
  obtain⟨t,ht⟩:=d
  have t2:2<=t:=by
   rcases (by omega:t=0∨t=1∨2<=t) with w | w | w
   ·rw [w] at ht;omega
   ·rw [w,Nat.mul_one] at ht;exact absurd ht.symm z
   ·exact w
  obtain⟨q,hq,r,hr⟩:=qI t2
  have q0:0<q:=by have:=hq.1;omega
  have e1:e=q*(m*r):=by rw [ht,hr,<- Nat.mul_assoc,Nat.mul_comm m q,Nat.mul_assoc]
  refine no q hq ⟨m*r,e1⟩ ?_
  rw [e1,Nat.mul_div_cancel_left _ q0]
  exact ba om.one
theorem Ord.vY {n a:Int} {e:Nat} (h:Ord n a e) {q:Nat} (hq:Nm q) (hd:q∣e):¬Al n (a^(e/q)) 1:=λz=>by
 have q0:0<q:=by have:=hq.1;omega
 obtain⟨r,hr⟩:=hd
 rw [hr,Nat.mul_div_cancel_left _ q0] at z
 have d:=h.dv _ z
 have r0:0<r:=by
  rcases Nat.eq_zero_or_pos r with w | w
  ·rw [w,Nat.mul_zero] at hr;have:=h.pos;omega
  ·exact w
 have:=Nat.le_of_dvd r0 d
 have:=Nat.mul_le_mul_right r hq.1
 omega
end Num
namespace Num
theorem nQ {n r:Int} (h:Ld.dH n r):Pm r:=⟨h.two,λd d2 dr hd=>h.no d d2 dr (Int.dvd_trans hd h.dv)⟩
def bj:List (Int × Int)->Int
 | []=>1
 | p::r=>p.1^p.2.toNat*bj r
theorem gM:∀(ps:List (Int × Int)) (p:Int × Int),bj (ps++[p])=bj ps*p.1^p.2.toNat
 | [],p=>by show p.1^_*1=1*_;omega
 | q::r,p=>by
  show q.1^q.2.toNat*bj (r++[p])=q.1^q.2.toNat*bj r*_
  rw [gM r p,Int.mul_assoc]
structure Part (n:Int) (ps:List (Int × Int)):Prop where
 ok:∀ p∈ps,Pm p.1/\1<=p.2/\p.2<=30
 rise:ps.Pairwise λa b=>a.1<b.1
 prod:bj ps=n
theorem aR {q:Int} (h:0<q):∀ k:Nat,0<q^k
 | 0=>by rw [Int.pow_zero];decide
 | k+1=>by rw [Int.pow_succ];exact Int.mul_pos (aR h k) h
theorem two_pow_le {q:Int} (h:2<=q):∀ k:Nat,(2:Int)^k<=q^k
 | 0=>by rw [Int.pow_zero,Int.pow_zero];exact Int.le_refl _
 | k+1=>by
  rw [Int.pow_succ,Int.pow_succ]
  exact Int.mul_le_mul (two_pow_le h k) h (by decide) (Int.le_of_lt (aR (by omega) k))
theorem two_le:∀{k:Nat},(2:Int)^k<=10^9->k<=29:=by
 intro k h
 by_cases c:k<=29
 ·exact c
 ·exfalso
  have e:k=30+(k-30):=by omega
  rw [e,Pw.pow_add] at h
  have:=aR (show (0:Int)<2 by decide) (k-30)
  have h2:=Int.mul_le_mul_of_nonneg_left (show (1:Int)<=2^(k-30) by omega) (show (0:Int)<=2^30 by decide)
  have:(2:Int)^30=1073741824:=by decide
  omega
structure Way (n:Int) (ps:List (Int × Int)) (left prime:Int):Prop where
 ok:∀ p∈ps,Pm p.1/\1<=p.2/\p.2<=30
 rise:ps.Pairwise λa b=>a.1<b.1
 prod:bj ps*left=n
 pos:1<=left
 inv:Ld.Inv left prime
 le:∀ p∈ps,p.1<=prime
 gone:ps=[]∨¬prime∣left
 two:(2:Int)^ps.length*left<=n
theorem Way.start {n:Int} (h:1<=n):Way n [] n 2:=⟨λ_ z=>by simp at z,List.Pairwise.nil,by show 1*n=n;omega,h,⟨by decide,.inl rfl,λd d0 d1=>by omega⟩,λ_ z=>by simp at z,.inl rfl,by rw [List.length_nil,Int.pow_zero];omega⟩
theorem Way.step {n left prime r left':Int} {ps:List (Int × Int)} {k:Nat} (w:Way n ps left prime) (hn:n<=10^9) (hl:1<left) (h:Ld.dH left r) (e:left=r^k*left') (l0:1<=left') (hk:1<=k) (hg:¬r∣left'):Way n (ps++[(r,(k:Int))]) left' r:=by
 have r2:=h.two
 have pm:=nQ h
 have rp:prime<=r:=by
  rcases (by omega:prime<=r∨r<prime) with z | z
  ·exact z
  ·exact absurd h.dv (w.inv.no r r2 z)
 have rk:=aR (show 0<r by omega) k
 have k2:=two_pow_le r2 k
 have kl:(2:Int)^k<=left:=by
  have:=Int.mul_le_mul k2 l0 (by decide) (Int.le_of_lt rk)
  rw [Int.mul_one] at this
  omega
 have ln:left<=n:=by
  have z:=w.two
  have p0:=aR (show (0:Int)<2 by decide) ps.length
  have:=Int.mul_le_mul_of_nonneg_right (show (1:Int)<=2^ps.length by omega) (show 0<=left by omega)
  omega
 have k29:=two_le (k:=k) (by omega)
 refine⟨λp hp=>?_,?_,?_,l0,?_,λp hp=>?_,.inr hg,?_⟩
 ·rcases List.mem_append.mp hp with z | z
  ·exact w.ok p z
  ·rw [List.mem_singleton.mp z]
   exact⟨pm,by show (1:Int)<=k;omega,by show (k:Int)<=30;omega⟩
 ·refine List.pairwise_append.mpr ⟨w.rise,List.pairwise_singleton _ _,λa ha b hb=>?_⟩
  rw [List.mem_singleton.mp hb]
  show a.1<r
  have:=w.le a ha
  rcases w.gone with z | z
  ·rw [z] at ha;simp at ha
  ·have:prime≠r:=λy=>z (y▸h.dv)
   omega
 ·rw [gM,<- w.prod,e]
  show bj ps*r^((k:Int).toNat)*left'=_
  rw [Int.toNat_natCast,Int.mul_assoc]
 ·refine⟨r2,?_,λd d0 d1 hd=>h.no d d0 d1 (by rw [e];exact Int.dvd_mul_of_dvd_right hd)⟩
  rcases (by omega:r=2∨2<r) with z | z
  ·exact .inl z
  ·refine .inr ?_
   rcases (by omega:r%2=1∨r%2=0) with y | y
   ·exact y
   ·exact absurd (Int.dvd_of_emod_eq_zero y) (pm.no 2 (by decide) z)
 ·rcases List.mem_append.mp hp with z | z
  ·have:=w.le p z;omega
  ·rw [List.mem_singleton.mp z];exact Int.le_refl _
 ·rw [List.length_append,List.length_singleton,Pw.pow_add,Int.pow_succ,Int.pow_zero,Int.one_mul,Int.mul_assoc]
  refine Int.le_trans (Int.mul_le_mul_of_nonneg_left ?_ (Int.le_of_lt (aR (by decide) _))) w.two
  rw [e]
  obtain⟨k',rfl⟩:∃ k',k=k'+1:=⟨k-1,by omega⟩
  have p0:=aR (show 0<r by omega) k'
  have h1:r<=r^(k'+1):=by
   rw [Int.pow_succ]
   have:=Int.mul_le_mul_of_nonneg_right (show 1<=r^k' by omega) (show 0<=r by omega)
   omega
  exact Int.mul_le_mul_of_nonneg_right (show 2<=r^(k'+1) by omega) (show 0<=left' by omega)
theorem Way.done {n prime:Int} {ps:List (Int × Int)} (w:Way n ps 1 prime):Part n ps:=⟨w.ok,w.rise,by have:=w.prod;omega⟩
theorem Way.len {n left prime:Int} {ps:List (Int × Int)} (w:Way n ps left prime) (hn:n<=10^9):ps.length<=29:=by
 refine two_le ?_
 have z:=w.two
 have p0:=aR (show (0:Int)<2 by decide) ps.length
 have:=Int.mul_le_mul_of_nonneg_left w.pos (Int.le_of_lt p0)
 omega
end Num
namespace Num
open PySem
theorem cq:∀{ps:List (Int × Int)} {p:Int × Int},p∈ps->1<=p.2->p.1∣bj ps
 | a::r,p,h,hk=>by
  rcases List.mem_cons.mp h with z | z
  ·subst z
   obtain⟨k,hk'⟩:∃ k,p.2.toNat=k+1:=⟨p.2.toNat-1,by omega⟩
   show p.1∣p.1^p.2.toNat*bj r
   rw [hk',Int.pow_succ]
   exact Int.dvd_mul_of_dvd_left ⟨p.1^k,Int.mul_comm _ _⟩
  ·exact Int.dvd_mul_of_dvd_right (cq z hk)
theorem tU {q:Nat} (h:Nm q):Pm (q:Int):=⟨by have:=h.1;omega,λd d2 dq hd=>h.2 d.toNat (by omega) (by omega) (by
 obtain⟨c,hc⟩:=hd
 have:(d.toNat:Int)=d:=by omega
 exact Int.natCast_dvd_natCast.mp (by rw [this];exact⟨c,hc⟩))⟩
theorem nj {p:Int} (h:Pm p):Nm p.toNat:=⟨by have:=h.two;omega,λd d2 dp hd=>h.no d (by omega) (by omega) (by
 have:=Int.natCast_dvd_natCast.mpr hd
 rwa [show (p.toNat:Int)=p by have:=h.two;omega] at this)⟩
theorem nR {p q:Int} (hp:Pm p) (hq:Pm q):∀ k:Nat,q∣p^k->q=p
 | 0,h=>by
  rw [Int.pow_zero] at h
  have:=Int.le_of_dvd (by decide) h
  have:=hq.two
  omega
 | k+1,h=>by
  rw [Int.pow_succ] at h
  by_cases c:q∣p^k
  ·exact nR hp hq k c
  ·have d:=hq.or h c
   have l:=Int.le_of_dvd (by have:=hp.two;omega) d
   rcases (by omega:q<p∨q=p) with z | z
   ·exact absurd d (hp.no q hq.two z)
   ·exact z
theorem cU {q:Int} (hq:Pm q):∀{ps:List (Int × Int)},(∀ p∈ps,Pm p.1)->q∣bj ps->∃ p∈ps,p.1=q
 | [],_,h=>by
  have:=Int.le_of_dvd (by decide) (show q∣1 from h)
  have:=hq.two
  omega
 | a::r,hp,h=>by
  by_cases c:q∣a.1^a.2.toNat
  ·exact⟨a,by simp,(nR (hp a (by simp)) hq _ c).symm⟩
  ·obtain⟨p,h1,h2⟩:=cU hq (λp z=>hp p (List.mem_cons_of_mem _ z)) (hq.or h c)
   exact⟨p,List.mem_cons_of_mem _ h1,h2⟩
theorem nH {n a e:Int} {ps:List (Int × Int)} (h:Part e ps) (he:1<=e):(Al n (a^e.toNat) 1/\∀ q∈ps.map (·.1),¬Al n (a^(e/q).toNat) 1)↔Ord n a e.toNat:=by
 constructor
 ·rintro⟨h1,h2⟩
  refine rX (by omega) h1 λq hq hd=>?_
  have hd':(q:Int)∣e:=by
   have:=Int.natCast_dvd_natCast.mpr hd
   rwa [show (e.toNat:Int)=e by omega] at this
  obtain⟨p,hp,ep⟩:=cU (tU hq) (λp z=>(h.ok p z).1) (by rw [h.prod];exact hd')
  have:=h2 q (List.mem_map.mpr ⟨p,hp,ep⟩)
  rwa [show (e/(q:Int)).toNat=e.toNat/q by
   have:e/(q:Int)=((e.toNat/q:Nat):Int):=by rw [Int.natCast_ediv];congr 1;omega
   rw [this,Int.toNat_natCast]] at this
 ·intro h1
  refine⟨h1.one,λq hq=>?_⟩
  obtain⟨p,hp,rfl⟩:=List.mem_map.mp hq
  obtain⟨o1,o2,_⟩:=h.ok p hp
  have d:p.1∣e:=by rw [<- h.prod];exact cq hp o2
  have t:=o1.two
  have:=h1.vY (nj o1) (by
   have:(p.1.toNat:Int)∣(e.toNat:Int):=by rw [show (p.1.toNat:Int)=p.1 by omega,show (e.toNat:Int)=e by omega];exact d
   exact Int.natCast_dvd_natCast.mp this)
  rwa [show e.toNat/p.1.toNat=(e/p.1).toNat by
   have:e/p.1=((e.toNat/p.1.toNat:Nat):Int):=by rw [Int.natCast_ediv];congr 1<;>omega
   rw [this,Int.toNat_natCast]] at this
structure LF (p g:Int):Prop where
 one:1<=g
 lt:g<p
 ord:Ord p g (p-1).toNat
 no:∀ a:Int,1<=a->a<g->¬Ord p a (p-1).toNat
def rowsOf (ps:List (Int × Int)) (ds:Nat->PyData):List PyData:=(List.range ps.length).map λi=>.tuple [ds i,.int (ps.getD i (0,0)).2]
theorem cD {ps:List (Int × Int)} {ds:Nat->PyData}:(rowsOf ps ds).length=ps.length:=by unfold rowsOf;rw [List.length_map,List.length_range]
theorem kK {ps:List (Int × Int)} {ds:Nat->PyData} {i:Nat} {p:Int × Int} (h:ps[i]?=some p):(rowsOf ps ds)[i]?=some (.tuple [ds i,.int p.2]):=by
 have hi:=(List.getElem?_eq_some_iff.mp h).1
 unfold rowsOf
 rw [List.getElem?_map,List.getElem?_range hi]
 show some (PyData.tuple [ds i,.int (ps.getD i (0,0)).2])=_
 rw [List.getD_eq_getElem?_getD,h]
 rfl
inductive fO:Int->PyData->Prop
 | mk (p g:Int) (ps:List (Int × Int)) (ds:Nat->PyData):Pm p->p<=10^9->LF p g->Part (p-1) ps->ps.length<=29->(∀ i q k,ps[i]?=some (q,k)->fO q (ds i))->fO p (.tuple [.int p,.int g,.tuple (rowsOf ps ds)])
theorem fO.head {p:Int} {d:PyData} (h:fO p d):∃ g rows,d=.tuple [.int p,.int g,.tuple rows]:=by
 cases h
 exact⟨_,_,rfl⟩
def Ht:Nat->Int->Prop
 | 0,_=>False
 | L+1,n=>∀ q:Int,Pm q->q∣n-1->Ht L q
theorem qt:∀(L:Nat) (n:Int),Pm n->n<2^(L+2)->Ht (L+2) n
 | 0,n,h,hn=>by
  have h2:=h.two
  have hn':n<4:=hn
  intro q hq hd
  intro q' hq' hd'
  have q2:=hq.two
  have l:=Int.le_of_dvd (by rcases (by omega:n=2∨n=3) with z | z;exfalso;rw [z] at hd;have:=Int.le_of_dvd (by decide) hd;omega;omega) hd
  have qq:q=2:=by omega
  rw [qq] at hd'
  have:=Int.le_of_dvd (by decide) hd'
  have:=hq'.two
  omega
 | L+1,n,h,hn=>by
  intro q hq hd
  have q2:=hq.two
  have h2:=h.two
  refine qt L q hq ?_
  have e:(2:Int)^(L+1+2)=2^(L+2)*2:=by rw [<- Int.pow_succ]
  rw [e] at hn
  have four:(4:Int)<=2^(L+2):=by
   have:=aR (show (0:Int)<2 by decide) L
   have e4:(2:Int)^(L+2)=2^L*4:=by rw [Pw.pow_add];rfl
   omega
  obtain⟨c,hc⟩:=hd
  rcases (by omega:n<=3∨3<n) with z | z
  ·have:q<=n-1:=Int.le_of_dvd (by
    rcases (by omega:n=2∨n=3) with y | y
    ·exfalso
     rw [y] at hc
     have:=Int.le_of_dvd (by decide) (show q∣1 from ⟨c,hc⟩)
     omega
    ·omega) ⟨c,hc⟩
   omega
  ·rcases (by omega:n%2=0∨n%2=1) with y | y
   ·exact absurd (Int.dvd_of_emod_eq_zero y) (h.no 2 (by decide) (by omega))
   ·rcases (by omega:q=2∨2<q) with x | x
    ·omega
    ·have qo:q%2=1:=by
      rcases (by omega:q%2=1∨q%2=0) with w | w
      ·exact w
      ·exact absurd (Int.dvd_of_emod_eq_zero w) (hq.no 2 (by decide) x)
     have ce:c%2=0:=by
      rcases (by omega:c%2=0∨c%2=1) with w | w
      ·exact w
      ·exfalso
       have:(q*c)%2=1:=by rw [Int.mul_emod,qo,w];rfl
       omega
     have c2:2<=c:=by
      rcases (by omega:c<=0∨2<=c) with w | w
      ·have:=Int.mul_nonpos_of_nonneg_of_nonpos (show 0<=q by omega) w
       omega
      ·exact w
     have:=Int.mul_le_mul_of_nonneg_left c2 (show 0<=q by omega)
     omega
theorem kn {n:Int} (h:Pm n) (hn:n<=10^9):Ht 30 n:=qt 28 n h (by
 have:(2:Int)^(28+2)=1073741824:=by decide
 omega)
end Num
namespace Num
theorem gH {p:Int} (hp:2<=p):∀{k l:Nat} {R T:Int},¬p∣R->¬p∣T->p^k*R=p^l*T->k=l/\R=T
 | 0,0,R,T,_,_,e=>by rw [Int.pow_zero,Int.one_mul,Int.one_mul] at e;exact⟨rfl,e⟩
 | 0,l+1,R,T,h,_,e=>by
  rw [Int.pow_zero,Int.one_mul,Int.pow_succ,Int.mul_comm (p^l),Int.mul_assoc] at e
  exact absurd ⟨_,e⟩ h
 | k+1,0,R,T,_,h,e=>by
  rw [Int.pow_zero,Int.one_mul,Int.pow_succ,Int.mul_comm (p^k),Int.mul_assoc] at e
  exact absurd ⟨_,e.symm⟩ h
 | k+1,l+1,R,T,h,h',e=>by
  rw [Int.pow_succ,Int.pow_succ,Int.mul_comm (p^k),Int.mul_comm (p^l),Int.mul_assoc,Int.mul_assoc] at e
  obtain⟨e1,e2⟩:=gH hp h h' (Int.eq_of_mul_eq_mul_left (by omega) e)
  exact⟨by rw [e1],e2⟩
theorem Part.tail {n:Int} {x:Int × Int} {r:List (Int × Int)} (h:Part n (x::r)):Part (bj r) r:=⟨λp hp=>h.ok p (List.mem_cons_of_mem _ hp),(List.pairwise_cons.mp h.rise).2,rfl⟩
theorem Part.nd {n:Int} {x:Int × Int} {r:List (Int × Int)} (h:Part n (x::r)):¬x.1∣bj r:=λz=>by
 obtain⟨y,hy,e⟩:=cU (h.ok x (List.mem_cons_self ..)).1 (λp hp=>(h.ok p (List.mem_cons_of_mem _ hp)).1) z
 have:=(List.pairwise_cons.mp h.rise).1 y hy
 omega
theorem Part.hd {n:Int} {x:Int × Int} {r:List (Int × Int)} (h:Part n (x::r)) {q:Int} (hq:Pm q) (hd:q∣n):x.1<=q:=by
 obtain⟨y,hy,e⟩:=cU hq (λp hp=>(h.ok p hp).1) (h.prod▸hd)
 rcases List.mem_cons.mp hy with rfl | hy
 ·omega
 ·have:=(List.pairwise_cons.mp h.rise).1 y hy
  omega
theorem Part.dv {n:Int} {ps:List (Int × Int)} (h:Part n ps) {x:Int × Int} (hx:x∈ps):x.1∣n:=h.prod▸cq hx (h.ok x hx).2.1
theorem Part.one:∀{ps qs:List (Int × Int)} {n:Int},Part n ps->Part n qs->ps=qs
 | [],[],_,_,_=>rfl
 | [],y::t,n,h,h'=>by
  exfalso
  have e:n=1:=h.prod.symm
  have:=(h'.ok y (List.mem_cons_self ..)).1.two
  have:=Int.le_of_dvd (by decide) (e▸h'.dv (List.mem_cons_self ..))
  omega
 | x::r,[],n,h,h'=>by
  exfalso
  have e:n=1:=h'.prod.symm
  have:=(h.ok x (List.mem_cons_self ..)).1.two
  have:=Int.le_of_dvd (by decide) (e▸h.dv (List.mem_cons_self ..))
  omega
 | (p,k)::r,(q,l)::t,n,h,h'=>by
  have hp:=h.ok _ (List.mem_cons_self ..)
  have hq:=h'.ok _ (List.mem_cons_self ..)
  have e1:p<=q:=h.hd hq.1 (h'.dv (List.mem_cons_self ..))
  have e2:q<=p:=h'.hd hp.1 (h.dv (List.mem_cons_self ..))
  obtain rfl:p=q:=by omega
  obtain⟨a,b⟩:=gH hp.1.two h.nd h'.nd (h.prod.trans h'.prod.symm)
  have:k=l:=by have:=hp.2.1;have:=hq.2.1;simp only at *;omega
  subst this
  rw [Part.one h.tail (b▸h'.tail)]
def tT:List (Int × Int)->Int
 | []=>1
 | x::r=>x.1^(x.2.toNat-1)*(x.1-1)*tT r
theorem iI:∀{ps:List (Int × Int)},(∀ p∈ps,Pm p.1)->0<bj ps
 | [],_=>by decide
 | x::r,h=>Int.mul_pos (aR (by have:=(h x (List.mem_cons_self ..)).two;omega) _) (iI λp hp=>h p (List.mem_cons_of_mem _ hp))
theorem Part.pos {n:Int} {ps:List (Int × Int)} (h:Part n ps):0<n:=h.prod▸iI λp hp=>(h.ok p hp).1
structure Dv (A:Int) (F:List (List (Int × Int))):Prop where
 part:∀ s∈F,Part (bj s) s
 nodup:(F.map bj).Nodup
 mem:∀ d,d∈F.map bj↔0<d/\d∣A
 sum:(F.map tT).sum=A
theorem Dv.start:Dv 1 [[]]:=⟨λs hs=>by rw [List.mem_singleton.mp hs];exact⟨λ_ z=>by simp at z,List.Pairwise.nil,rfl⟩,by simp,λd=>by
  show d∈[1]↔_
  rw [List.mem_singleton]
  exact⟨λe=>by rw [e];exact⟨by decide,Int.dvd_refl _⟩,fun⟨a,b⟩=>by have:=Int.le_of_dvd (by decide) b;omega⟩,rfl⟩
structure Ds (n:Int) (ds:List Int):Prop where
 rise:ds.Pairwise (·<·)
 mem:∀ d,d∈ds↔0<d/\d∣n
theorem ni {l:List Int} (h:l.Pairwise (·<=·)) (nd:l.Nodup):l.Pairwise (·<·) :=
 (h.and nd).imp fun⟨a,b⟩=>by omega
theorem nh:∀{l m:List Int},l.Pairwise (·<·)->m.Pairwise (·<·)->(∀ a,a∈l↔a∈m)->l=m
 | [],[],_,_,_=>rfl
 | [],y::m,_,_,h=>by have:=(h y).mpr (List.mem_cons_self ..);simp at this
 | x::l,[],_,_,h=>by have:=(h x).mp (List.mem_cons_self ..);simp at this
 | x::l,y::m,hl,hm,h=>by
  obtain⟨a,b⟩:=List.pairwise_cons.mp hl
  obtain⟨c,d⟩:=List.pairwise_cons.mp hm
  have e:x=y:=by
   rcases List.mem_cons.mp ((h x).mp (List.mem_cons_self ..)) with z | z
   ·exact z
   ·rcases List.mem_cons.mp ((h y).mpr (List.mem_cons_self ..)) with w | w
    ·exact w.symm
    ·have:=a y w;have:=c x z;omega
  subst e
  rw [nh b d λz=>?_]
  constructor
  ·intro hz
   rcases List.mem_cons.mp ((h z).mp (List.mem_cons_of_mem _ hz)) with w | w
   ·have:=a z hz;omega
   ·exact w
  ·intro hz
   rcases List.mem_cons.mp ((h z).mpr (List.mem_cons_of_mem _ hz)) with w | w
   ·have:=c z hz;omega
   ·exact w
theorem Ds.one {n:Int} {ds es:List Int} (h:Ds n ds) (h':Ds n es):ds=es:=nh h.rise h'.rise λa=>(h.mem a).trans (h'.mem a).symm
theorem Dv.ds {n:Int} {F:List (List (Int × Int))} {ds:List Int} (h:Dv n F) (p:ds.Perm (F.map bj)) (s:ds.Pairwise (·<=·)):Ds n ds :=
 ⟨ni s (p.nodup_iff.mpr h.nodup),λd=>p.mem_iff.trans (h.mem d)⟩
theorem gi (p:Int->Bool):∀ l:List Int,l.length=(l.filter p).length+(l.filter (λd=>!p d)).length
 | []=>rfl
 | x::l=>by
  have:=gi p l
  cases e:p x<;>simp [List.filter_cons,e]<;>omega
theorem vD {n:Int} (hn:n<=10^9) {l:List Int} (nd:l.Nodup) (h:∀ d∈l,0<d/\d∣n) (n0:0<n):l.length<=63246:=by
 have lo:(l.filter (λd=>decide (d<31623))).length<=31623:=by
  have:=jd 31623 ((l.filter (λd=>decide (d<31623))).map Int.toNat) ?_ ?_
  ·simpa using this
  ·refine List.pairwise_map.mpr ((nd.filter _).imp_of_mem λ{a b} ha hb ne e=>ne ?_)
   have h1:=h a (List.mem_filter.mp ha).1
   have h2:=h b (List.mem_filter.mp hb).1
   omega
  ·intro x hx
   obtain⟨d,hd,rfl⟩:=List.mem_map.mp hx
   have:=(List.mem_filter.mp hd).2
   simp at this
   omega
 have hi:(l.filter (λd=>!decide (d<31623))).length<=31623:=by
  have:=jd 31623 ((l.filter (λd=>!decide (d<31623))).map λd=>(n/d).toNat) ?_ ?_
  ·simpa using this
  ·refine List.pairwise_map.mpr ((nd.filter _).imp_of_mem λ{a b} ha hb ne e=>ne ?_)
   have h1:=h a (List.mem_filter.mp ha).1
   have h2:=h b (List.mem_filter.mp hb).1
   obtain⟨c,hc⟩:=h1.2
   obtain⟨c',hc'⟩:=h2.2
   have e1:n/a=c:=by rw [hc];exact Int.mul_ediv_cancel_left _ (by omega)
   have e2:n/b=c':=by rw [hc'];exact Int.mul_ediv_cancel_left _ (by omega)
   rw [e1,e2] at e
   have c0:0<c:=by
    rcases (by omega:c<=0∨0<c) with z | z
    ·have:=Int.mul_nonpos_of_nonneg_of_nonpos (show 0<=a by omega) z
     omega
    ·exact z
   have c0':0<c':=by
    rcases (by omega:c'<=0∨0<c') with z | z
    ·have:=Int.mul_nonpos_of_nonneg_of_nonpos (show 0<=b by omega) z
     omega
    ·exact z
   obtain rfl:c=c':=by omega
   exact Int.eq_of_mul_eq_mul_right (by omega) (hc.symm.trans hc')
  ·intro x hx
   obtain⟨d,hd,rfl⟩:=List.mem_map.mp hx
   have h1:=(List.mem_filter.mp hd).2
   simp at h1
   have h2:n/d<=n/31623:=by
    refine Int.le_ediv_of_mul_le (by decide) ?_
    have:=Int.ediv_mul_le n (show d≠0 by omega)
    have:=Int.mul_le_mul_of_nonneg_left h1 (Int.ediv_nonneg (show 0<=n by omega) (show 0<=d by omega))
    omega
   have:n/31623<31623:=Int.ediv_lt_of_lt_mul (by decide) (by omega)
   omega
 have:=gi (λd:Int=>decide (d<31623)) l
 omega
def ins (x:Int × Int):List (Int × Int)->List (Int × Int)
 | []=>[x]
 | y::r=>if x.1<y.1 then x::y::r else y::ins x r
end Num
namespace L2
open PySem PySem.Spec PyProof.Rows
def wb:PyData->String
 | .none => "NoneType"
 | .bool _ => "bool"
 | .int _ => "int"
 | .str _ => "str"
 | .list _ => "list"
 | .tuple _ => "tuple"
 | .dict _ => "dict"
def qx:PyData->Bool
 | .int _=>true
 | _=>false
def tF:PyData->Bool
 | .bool _=>true
 | _=>false
def u0:PyData->Bool
 | .tuple _=>true
 | _=>false
section
variable {X:Cx} {K:PySem.W.Frag}
def lD (K:PySem.W.Frag):List V->Hp->VK->Prop:=λxs H Q=>∃ d x n b,xs=[x,.ty n]/\dv K H d x/\PySem.W.kitOne K (.type (wb d)) (.type n)=some b/\Q (.bl b) H
theorem bA:cG X (.builtin "isinstance") (lD X.K):=by
 intro pins s σ H xs us Q I r h
 obtain⟨d,x,n,b,rfl,hd,ek,q⟩:=h
 obtain⟨u,w',rfl,rx,rc⟩:=vals2 r
 have e:w'=.type n:=rc
 subst e
 have fin:∀ tk,∃ v' H',Inv X pins σ H' { s with toks:=tk }/\RelV v' (.bool b)/\Q v' H':=λtk=>⟨.bl b,H,I.tok _,rfl,q⟩
 cases d with
 | none=>cases hd;exact eA I rx eH.non ek fin
 | bool y=>cases hd;exact eA I rx (eH.bl _) ek fin
 | int y=>cases hd;exact eA I rx (eH.int _) ek fin
 | str y=>cases hd;exact eA I rx (eH.str _) ek fin
 | list ds =>
  obtain⟨p,ys,rfl,h,t⟩:=hd
  cases rx
  obtain⟨its,rr,pl,_⟩:=I.list h
  obtain⟨o,h1,h2,_⟩:=pl.isList
  exact PySem.W.kia_one PySem.W.kitx_list I.fq ⟨o,h1,h2⟩ ek (λz=>nomatch z) fin
 | tuple ds =>
  obtain⟨p,ys,rfl,h,t⟩:=hd
  cases rx
  obtain⟨its,rr,pl,_⟩:=I.tuple h
  obtain⟨o,h1,h2,_⟩:=pl
  exact PySem.W.kia_one PySem.W.kitx_tuple I.fq ⟨o,h1,h2⟩ ek (λz=>nomatch z) fin
 | dict _=>exact hd.elim
theorem lu {H:Hp} {d:PyData} {x:V} {Q:VK} (h:dv K H d x) (q:Q (.bl (qx d || tF d)) H):lD K [x,.ty "int"] H Q:=by
 refine⟨d,x,"int",_,rfl,h,?_,q⟩
 cases d<;>first | exact h.elim | with_unfolding_all rfl
theorem gA {H:Hp} {d:PyData} {x:V} {Q:VK} (h:dv K H d x) (q:Q (.bl (tF d)) H):lD K [x,.ty "bool"] H Q:=by
 refine⟨d,x,"bool",_,rfl,h,?_,q⟩
 cases d<;>first | exact h.elim | with_unfolding_all rfl
theorem fo {H:Hp} {d:PyData} {x:V} {Q:VK} (h:dv K H d x) (q:Q (.bl (u0 d)) H):lD K [x,.ty "tuple"] H Q:=by
 refine⟨d,x,"tuple",_,rfl,h,?_,q⟩
 cases d<;>first | exact h.elim | with_unfolding_all rfl
end
def sW (i:Int) (n:Nat):List V:=(List.range n).map fun(k:Nat)=>V.int (i+(k:Int))
def v7 (ta:TA):TE:=λσ H Q=>ta σ H λvs H1=>∃ i j:Int,vs=[.int i,.int j]/\(-(2^62)<=i/\i<2^62 /\ -(2^62)<=j/\j<2^62)/\j-i<=10^6/\∀ l,H1 l=none->Q (.ref l) (upd H1 l (.lst (sW i (j-i).toNat)))
variable {X:Cx}
theorem boot_any:bootBuiltins "any"=some (.builtin "any"):=by decide +kernel
section
variable {X:Cx} {K:PySem.W.Frag}
def tY (K:PySem.W.Frag):List V->Hp->VK->Prop:=λxs H Q=>∃(a:Addr) (bs:List Bool),xs=[.ref a]/\bf K H a (bs.map V.bl)/\Q (.bl (bs.any id)) H
theorem mP (hc:X.calm=true):cG X (.builtin "any") (tY X.K):=by
 intro pins s σ H xs us Q I r h
 obtain⟨a,bs,rfl,hq,q⟩:=h
 obtain⟨u,rfl,ru⟩:=vals1 r
 cases ru
 obtain⟨its,rv,p,hz⟩:=I.list hq
 have hl:=p.isList
 have hlt:a<s.heap.objs.size:=by obtain⟨_,e,_⟩:=hl;exact Heap.lt_size e
 have hln:its.length=bs.length:=by have:=rv.length;rw [List.length_map] at this;omega
 have hb:∀(i:Nat) v,its[i]?=some v->∃ b,bs[i]?=some b/\v=.bool b:=λi v e=>by
  have hi:i<its.length:=(List.getElem?_eq_some_iff.mp e).1
  have hi2:i<bs.length:=by omega
  obtain⟨u,e1,e2⟩:=rv.get (i:=i) (x:=V.bl bs[i]) (by rw [List.getElem?_map,List.getElem?_eq_getElem hi2];rfl)
  rw [e] at e1
  cases e1
  exact⟨bs[i],List.getElem?_eq_getElem hi2,e2⟩
 refine call_any_walk (wpAny_pyIter_list hl ?_)
 refine⟨s.heap.objs.size,[s.heap.objs.size,a],[s.heap.objs.size],its.toArray.size,_,_,λi=>(bs[i]?).getD false,rfl,Walks.list (A:=X.A.in1) (I.ok.hd hc) _ a (Nat.ne_of_lt hlt) its.toArray,
  ⟨⟨_,Heap.get?_push_size _ rfl,rfl,rfl⟩,hl.push _⟩,λi v s' Q' E' hP hQ=>?_,λh' tk hk=>?_⟩
 ·obtain⟨b,e,rfl⟩:=hb i v (by simpa using hP)
  simp only [e,Option.getD_some] at hQ
  exact wpAny_truthy_bool hQ
 ·have e:((List.range its.toArray.size).any λi=>(bs[i]?).getD false)=bs.any id:=by
   rw [List.size_toArray,hln,Bool.eq_iff_iff]
   simp only [List.any_eq_true,List.mem_range,id]
   constructor
   ·rintro⟨i,hi,z⟩
    rw [List.getElem?_eq_getElem hi,Option.getD_some] at z
    exact⟨_,List.getElem_mem hi,z⟩
   ·rintro⟨b,hb',z⟩
    obtain⟨i,hi,rfl⟩:=List.mem_iff_getElem.mp hb'
    exact⟨i,hi,by rw [List.getElem?_eq_getElem hi,Option.getD_some];exact z⟩
  rw [e]
  exact⟨.bl _,H,I.kept λb o eb=>hk b o (λhm=>by rw [List.mem_singleton.mp hm] at eb;exact Nat.lt_irrefl _ (Heap.lt_size eb)) (Heap.get?_push_of_some _ eb),rfl,q⟩
theorem rg {H:Hp} {p:Addr} {bs:List Bool} {Q:VK} (h:bf K H p (bs.map V.bl)) (q:Q (.bl (bs.any id)) H):tY K [.ref p] H Q:=⟨p,bs,rfl,h,q⟩
end
section
variable {κ:Type} [DecidableEq κ]
def fZ (kvs:List (κ × V)) (k:κ):Option V:=(kvs.find? λkv=>decide (kv.1=k)).map (·.2)
def putK (kvs:List (κ × V)) (k:κ) (v:V):List (κ × V) :=
 if (kvs.any λkv=>decide (kv.1=k))=true then kvs.map (λkv=>if kv.1=k then (kv.1,v) else kv) else kvs++[(k,v)]
theorem hW {p:κ × V} {r:List (κ × V)} {k:κ} (e:p.1=k):fZ (p::r) k=some p.2:=by simp [fZ,List.find?_cons,e]
theorem hJ {p:κ × V} {r:List (κ × V)} {k:κ} (e:¬p.1=k):fZ (p::r) k=fZ r k:=by simp [fZ,List.find?_cons,e]
theorem j1 (k:κ):∀ kvs:List (κ × V),(kvs.any λkv=>decide (kv.1=k))=(fZ kvs k).isSome
 | []=>rfl
 | p::r=>by
  rw [List.any_cons]
  by_cases e:p.1=k
  ·simp only [hW e,decide_eq_true e,Bool.true_or,Option.isSome_some]
  ·rw [hJ e,decide_eq_false e,Bool.false_or];exact j1 k r
theorem h8.lY {o:Option V} {u:Option Value} (r:h8 o u):o.isSome=u.isSome:=by
 cases o with
 | none=>cases u with
  | none=>rfl
  | some _=>exact (show False from r).elim
 | some _=>cases u with
  | none=>exact (show False from r).elim
  | some _=>rfl
theorem h8.getD {o:Option V} {u:Option Value} {d:V} {d':Value} (r:h8 o u) (rd:RelV d d'):RelV (o.getD d) (u.getD d'):=by
 cases o with
 | none=>cases u with
  | none=>exact rd
  | some _=>exact (show False from r).elim
 | some _=>cases u with
  | none=>exact (show False from r).elim
  | some _=>exact r
theorem KV.val {kvs:List (κ × V)} {vs:List (κ × Value)} (r:KV kvs vs) (k:κ):h8 (fZ kvs k) (valueAt vs k):=by
 unfold KV at r
 induction r with
 | nil=>exact True.intro
 | @cons p q ps qs h t ih =>
  obtain⟨h1,h2⟩:=h
  by_cases e:p.1=k
  ·have e':q.1=k:=h1.symm.trans e
   have b:valueAt (q::qs) k=some q.2:=by simp [valueAt,List.find?_cons,e']
   rw [hW e,b];exact h2
  ·have e':¬q.1=k:=λz=>e (h1.trans z)
   have b:valueAt (q::qs) k=valueAt qs k:=by simp [valueAt,List.find?_cons,e']
   rw [hJ e,b];exact ih
theorem KV.any {kvs:List (κ × V)} {vs:List (κ × Value)} (r:KV kvs vs) (k:κ):(kvs.any λkv=>decide (kv.1=k))=vs.any λkv=>decide (kv.1=k):=by
 unfold KV at r
 induction r with
 | nil=>rfl
 | cons h t ih=>rw [List.any_cons,List.any_cons,ih,h.1]
theorem KV.sf {kvs:List (κ × V)} {vs:List (κ × Value)} (r:KV kvs vs) (k:κ) {y:V} {u:Value} (ry:RelV y u) :
  KV (kvs.map λkv=>if kv.1=k then (kv.1,y) else kv) (vs.map λkv=>if kv.1=k then (kv.1,u) else kv):=by
 unfold KV at r ⊢
 induction r with
 | nil=>exact .nil
 | @cons p q ps qs h t ih =>
  rw [List.map_cons,List.map_cons]
  refine .cons ?_ ih
  obtain⟨h1,h2⟩:=h
  by_cases e:p.1=k
  ·rw [if_pos e,if_pos (h1.symm.trans e)];exact⟨h1,ry⟩
  ·rw [if_neg e,if_neg (λz=>e (h1.trans z))];exact⟨h1,h2⟩
theorem KV.put {kvs:List (κ × V)} {vs:List (κ × Value)} (r:KV kvs vs) (k:κ) {y:V} {u:Value} (ry:RelV y u):KV (putK kvs k y) (stored vs k u):=by
 unfold putK stored
 rw [r.any k]
 by_cases e:(vs.any λkv=>decide (kv.1=k))=true
 ·rw [if_pos e,if_pos e];exact r.sf k ry
 ·rw [if_neg e,if_neg e];exact Paired.snoc r ⟨rfl,ry⟩
theorem KV.length {kvs:List (κ × V)} {vs:List (κ × Value)} (r:KV kvs vs):kvs.length=vs.length:=Paired.length r
end
abbrev KT (H:Hp):List (List Key × V)->List (List Key × Addr × Value)->Prop:=Paired λp q=>p.1=q.1/\H q.2.1=some (.tup (p.1.map kV))/\RelV p.2 q.2.2
theorem KT.val {H:Hp} {kvs:List (List Key × V)} {xs:List (List Key × Addr × Value)} (r:KT H kvs xs) (k:List Key):h8 (fZ kvs k) ((atKey xs k).map (·.2)):=by
 induction r with
 | nil=>exact True.intro
 | @cons p q ps qs h t ih =>
  obtain⟨h1,_,h2⟩:=h
  by_cases e:p.1=k
  ·have e':q.1=k:=h1.symm.trans e
   have b:atKey (q::qs) k=some q.2:=by simp [atKey,List.find?_cons,e']
   rw [hW e,b];exact h2
  ·have e':¬q.1=k:=λz=>e (h1.trans z)
   have b:atKey (q::qs) k=atKey qs k:=by simp [atKey,List.find?_cons,e']
   rw [hJ e,b];exact ih
theorem KT.sf {H:Hp} {kvs:List (List Key × V)} {xs:List (List Key × Addr × Value)} (r:KT H kvs xs) (k:List Key) {y:V} {u:Value} (ry:RelV y u) :
  KT H (kvs.map λkv=>if kv.1=k then (kv.1,y) else kv) (xs.map (putAt k u)):=by
 induction r with
 | nil=>exact .nil
 | @cons p q ps qs h t ih =>
  rw [List.map_cons,List.map_cons]
  refine .cons ?_ ih
  obtain⟨h1,h2,h3⟩:=h
  unfold putAt
  by_cases e:p.1=k
  ·rw [if_pos e,if_pos (h1.symm.trans e)];exact⟨h1,h2,ry⟩
  ·rw [if_neg e,if_neg (λz=>e (h1.trans z))];exact⟨h1,h2,h3⟩
theorem KT.put {H:Hp} {kvs:List (List Key × V)} {xs:List (List Key × Addr × Value)} (r:KT H kvs xs) (k:List Key) {b:Addr} {y:V} {u:Value} (hb:H b=some (.tup (k.map kV))) (ry:RelV y u) :
  KT H (putK kvs k y) (storedH xs k b u):=by
 have e:(kvs.any λkv=>decide (kv.1=k))=(atKey xs k).isSome:=by
  rw [j1,(r.val k).lY,Option.isSome_map]
 unfold putK storedH
 rw [e]
 by_cases q:(atKey xs k).isSome=true
 ·rw [if_pos q,if_pos q];exact r.sf k ry
 ·rw [if_neg q,if_neg q];exact Paired.snoc r ⟨rfl,hb,ry⟩
section
variable {P:Program} {w:World} {H:Hp} {h:Heap} {a:Addr}
end
def mG (H:Hp) (a:Addr) (y:V) (r:Option V):Prop :=
 (∃ kvs k,Rd H a (.dK kvs)/\y=kV k/\r=fZ kvs k)∨∃ kvs k b,Rd H a (.dT kvs)/\y=.ref b/\H b=some (.tup (k.map kV))/\r=fZ kvs k
def mH (H:Hp) (a:Addr) (y v:V) (H':Hp):Prop :=
 (∃ kvs k,H a=some (.dK kvs)/\y=kV k/\kvs.length<sizeLine/\H'=upd H a (.dK (putK kvs k v))) ∨
 ∃ kvs k b,H a=some (.dT kvs)/\y=.ref b/\H b=some (.tup (k.map kV))/\kvs.length<sizeLine/\H'=upd H a (.dT (putK kvs k v))
theorem mG.k {H:Hp} {a:Addr} {kvs:List (Key × V)} {k:Key} (e:H a=some (.dK kvs)):mG H a (kV k) (fZ kvs k):=.inl ⟨kvs,k,.inl e,rfl,rfl⟩
theorem mG.t {H:Hp} {a b:Addr} {kvs:List (List Key × V)} {k:List Key} (e:H a=some (.dT kvs)) (eb:H b=some (.tup (k.map kV))):mG H a (.ref b) (fZ kvs k):=.inr ⟨kvs,k,b,.inl e,rfl,eb,rfl⟩
theorem mH.k {H:Hp} {a:Addr} {kvs:List (Key × V)} {k:Key} {v:V} (e:H a=some (.dK kvs)) (hl:kvs.length<sizeLine):mH H a (kV k) v (upd H a (.dK (putK kvs k v))):=.inl ⟨kvs,k,e,rfl,hl,rfl⟩
theorem mH.t {H:Hp} {a b:Addr} {kvs:List (List Key × V)} {k:List Key} {v:V} (e:H a=some (.dT kvs)) (eb:H b=some (.tup (k.map kV))) (hl:kvs.length<sizeLine) :
  mH H a (.ref b) v (upd H a (.dT (putK kvs k v))):=.inr ⟨kvs,k,b,e,rfl,eb,hl,rfl⟩
section
variable {X:Cx} {pins:List (Addr × Obj)} {σ:St} {H:Hp} {s:Shared} {a:Addr} {y v:V} {u r:Value} {o:Option V} {A:Around} {E:Value->Shared->Prop}
end
section
variable {X:Cx} {pins:List (Addr × Obj)} {σ:St} {H:Hp} {s:Shared} {a:Addr} {kvs:List (Key × V)} {k:Key} {u:Value} {A:Around} {E:Value->Shared->Prop}
end
def uq (td ty:TE):TE:=λσ H Q=>td σ H λx H1=>ty σ H1 λy H2=>∃ a v,x=.ref a/\mG H2 a y (some v)/\Q v H2
def ud (td ty tv:TE):TS:=λD σ H=>tv σ H λv H1=>td σ H1 λx H2=>ty σ H2 λy H3=>∃ a H4,x=.ref a/\mH H3 a y v H4/\D.nx σ H4
section
variable {X:Cx} {o i e value:Expr} {pos pos' tpos:Pos} {td ty tv:TE}
end
section
variable {X:Cx} {pos:Pos}
end
def kO:List (TE × TE)->St->Hp->(List (V × V)->Hp->Prop)->Prop
 | [],_,H,Q=>Q [] H
 | (tk,tv)::r,σ,H,Q=>tk σ H λx H1=>tv σ H1 λy H2=>kO r σ H2 λps H3=>Q ((x,y)::ps) H3
def rP (kvs more:List (Key × V)):List (Key × V):=more.foldl (λacc kv=>putK acc kv.1 kv.2) kvs
def ur (trs:List (TE × TE)):TE:=λσ H Q=>∀ p,H p=none->kO trs σ (upd H p (.dK [])) λps H2=>H2 p=some (.dK [])/\∃ kvs:List (Key × V),ps=kvs.map (λkv=>(kV kv.1,kv.2))/\kvs.length<=15/\Q (.ref p) (upd H2 p (.dK (rP [] kvs)))
structure M1 (X:Cx) (o:Expr) (m:Str) (apos:Pos) (e:Expr) (cpos:Pos):Prop where
 base:attributeBase o m X.env (eval o X.env)=eval o X.env
 vD:((backTo cpos (starEach [e] X.env)).all (λx=>!x.1) && (backToKw cpos (keywordEach [] X.env)).all (λx=>x.1.isSome)
  && decide (([e]:List Expr).length+([]:List Keyword).length+(if ([]:List Keyword).isEmpty then 0 else 1)<30))=true
 line:(apos.endLine==cpos.line)=true
 trees:backTo cpos (starEach [e] X.env)=[(false,eval e X.env)]
structure M2 (X:Cx) (o:Expr) (m:Str) (apos:Pos) (e f:Expr) (cpos:Pos):Prop where
 base:attributeBase o m X.env (eval o X.env)=eval o X.env
 vD:((backTo cpos (starEach [e,f] X.env)).all (λx=>!x.1) && (backToKw cpos (keywordEach [] X.env)).all (λx=>x.1.isSome)
  && decide (([e,f]:List Expr).length+([]:List Keyword).length+(if ([]:List Keyword).isEmpty then 0 else 1)<30))=true
 line:(apos.endLine==cpos.line)=true
 trees:backTo cpos (starEach [e,f] X.env)=[(false,eval e X.env),(false,eval f X.env)]
section
variable {X:Cx} {pins:List (Addr × Obj)} {σ:St} {H:Hp} {s:Shared} {a:Addr} {y d:V} {u r:Value} {o:Option V} {A:Around} {E:Value->Shared->Prop}
end
section
variable {X:Cx} {o e f:Expr} {apos cpos:Pos} {td ty tx:TE}
end
section
variable {X:Cx} {pins:List (Addr × Obj)} {σ:St} {H:Hp} {s:Shared} {a:Addr} {kvs:List (Key × V)} {A:Around} {E:Value->Shared->Prop}
end
section
variable {X:Cx} {pins:List (Addr × Obj)} {σ:St} {H:Hp} {s:Shared} {a:Addr} {y:V} {u:Value} {A:Around} {E:Value->Shared->Prop}
end
def uH (l:Int) (b:Bool):HO:=.dK [(Sum.inr "left",.int l),(Sum.inr "free",.bl b)]
def uG (l:Int) (b:Bool):Prop:=b=true∨(0<=l/\l<2147483647)
def Up (p:Addr) (b:Bool) (H H':Hp):Prop:=∃ l,uG l b/\H'=upd H p (uH l b)
theorem mD {H:Hp} {p:Addr} {o o':HO}:upd (upd H p o) p o'=upd H p o':=by
 funext c
 by_cases e:c=p
 ·subst e;rw [af,af]
 ·rw [ar e,ar e,ar e]
theorem Up.trans {p:Addr} {b:Bool} {H H1 H2:Hp} (h:Up p b H H1) (h':Up p b H1 H2):Up p b H H2:=by
 obtain⟨l,_,rfl⟩:=h
 obtain⟨l',k',rfl⟩:=h'
 exact⟨l',k',mD⟩
theorem Up.at {p:Addr} {b:Bool} {H H1:Hp} (h:Up p b H H1):∃ l,uG l b/\H1 p=some (uH l b):=by
 obtain⟨l,k,rfl⟩:=h
 exact⟨l,k,af⟩
theorem Up.ne {p q:Addr} {b:Bool} {H H1:Hp} (h:Up p b H H1) (n:q≠p):H1 q=H q:=by
 obtain⟨l,k,rfl⟩:=h
 exact ar n
def Us (p:Addr) (b:Bool) (H H':Hp):Prop:=(∃ l,uG l b/\H' p=some (uH l b))/\∀ q o,q≠p->H q=some o->H' q=some o
theorem Up.us {p:Addr} {b:Bool} {H H':Hp} (h:Up p b H H'):Us p b H H':=⟨h.at,λq o n e=>by rw [h.ne n];exact e⟩
theorem Us.trans {p:Addr} {b:Bool} {H H1 H2:Hp} (h:Us p b H H1) (h':Us p b H1 H2):Us p b H H2:=⟨h'.1,λq o n e=>h'.2 q o n (h.2 q o n e)⟩
theorem Us.free {p q:Addr} {b:Bool} {H H1:Hp} (h:Us p b H H1) (f:H1 q=none):H q=none:=by
 cases e:H q with
 | none=>rfl
 | some o =>
  by_cases n:q=p
  ·subst n
   obtain⟨l,_,z⟩:=h.1
   rw [z] at f;cases f
  ·rw [h.2 q o n e] at f;cases f
theorem Us.set {p q:Addr} {b:Bool} {H H1:Hp} {o:HO} (h:Us p b H H1) (f:H q=none) (n:q≠p):Us p b H (upd H1 q o):=by
 obtain⟨⟨l,k,e⟩,s⟩:=h
 exact⟨⟨l,k,by rw [ar (Ne.symm n)];exact e⟩,λr u n er=>by rw [ar (λz=>by rw [z,f] at er;cases er)];exact s r u n er⟩
section
variable {K:PySem.W.Frag} {H H':Hp}
theorem aT.eQ {a:Addr} {xs:List V} (k:∀ a xs,Rd H a (.tup xs)->Rd H' a (.tup xs)) (h:aT K H a xs):aT K H' a xs:=h.imp (λz=>k _ _ z) id
mutual
theorem dv.eQ (k:∀ a xs,Rd H a (.tup xs)->Rd H' a (.tup xs)):∀(d:PyData) {v:V},mE d=true->dv K H d v->dv K H' d v
 | .none,_,_,h=>h
 | .bool _,_,_,h=>h
 | .int _,_,_,h=>h
 | .str _,_,_,h=>h
 | .list ds,_,z,_=>by cases z
 | .tuple ds,_,z,⟨q,xs,e,h,t⟩=>⟨q,xs,e,h.eQ k,bo.eQ k ds z t⟩
 | .dict _,_,_,h=>h.elim
theorem bo.eQ (k:∀ a xs,Rd H a (.tup xs)->Rd H' a (.tup xs)):∀(ds:List PyData) {xs:List V},dO ds=true->bo K H ds xs->bo K H' ds xs
 | [],_,_,h=>h
 | d::ds,_,z,⟨x,r,e,h,t⟩=>by
  have z':mE d=true/\dO ds=true:=by simpa [dO] using z
  exact⟨x,r,e,dv.eQ k d z'.1 h,bo.eQ k ds z'.2 t⟩
end
theorem bo.set:∀{ds:List PyData} {us:List V} (i:Nat) {d:PyData} {v:V},bo K H ds us->dv K H d v->bo K H (ds.set i d) (us.set i v)
 | [],_,_,_,_,h,_=>by cases h;exact rfl
 | e::ds,_,0,_,_,⟨x,r,ex,h,t⟩,hv=>by subst ex;exact⟨_,_,rfl,hv,t⟩
 | e::ds,_,i+1,_,_,⟨x,r,ex,h,t⟩,hv=>by subst ex;exact⟨_,_,rfl,h,bo.set i t hv⟩
end
theorem Us.ref {p:Addr} {b:Bool} {H H1:Hp} (h:Us p b H H1):∃ l,uG l b/\H1 p=some (uH l b):=h.1
section
variable {prog:Program} {w:World} {A:Around} {E:Value->Shared->Prop} {s:Shared} {it t:Addr} {i:Nat} {items:Array Value} {Q:Value->Shared->Prop}
end
inductive Sd
 | l
 | t
def Sd.It:Sd->Heap->Addr->Addr->Nat->Prop
 | .l=>Heap.IsListIter
 | .t=>Heap.IsTupleIter
def Sd.Sq:Sd->Heap->Addr->Array Value->Prop
 | .l=>Heap.IsList
 | .t=>Heap.IsTuple
def Sd.io (k:Sd) (a:Addr):Obj:=match k with
 | .l=>{ cls:=.type "list_iterator",data:=.fields #[.ref a,.int 0 0] }
 | .t=>{ cls:=.type "tuple_iterator",data:=.fields #[.ref a,.int 0 0] }
theorem Sd.It.at {k:Sd} {h h':Heap} {it a:Addr} {i:Nat} (x:k.It h it a i) (e:∀ o,h.get? it=some o->h'.get? it=some o):k.It h' it a i:=by
 cases k<;>(obtain⟨o,e1,r⟩:=x;exact⟨o,e o e1,r⟩)
theorem Sd.It.there {k:Sd} {h:Heap} {it a:Addr} {i:Nat} (x:k.It h it a i):∃ o,h.get? it=some o/\∀ v,o.data≠.cell v:=by
 cases k<;>(obtain⟨o,e1,_,d⟩:=x;exact⟨o,e1,λv z=>by rw [d] at z;cases z⟩)
theorem Sd.Sq.at {k:Sd} {h h':Heap} {a:Addr} {xs:Array Value} (x:k.Sq h a xs) (e:∀ o,h.get? a=some o->h'.get? a=some o):k.Sq h' a xs:=by
 cases k<;>(obtain⟨o,e1,r⟩:=x;exact⟨o,e o e1,r⟩)
theorem Sd.start (k:Sd) {h:Heap} {it a:Addr} (e:h.get? it=some (k.io a)):k.It h it a 0:=by
 cases k<;>exact⟨_,e,rfl,rfl⟩
section
variable {prog:Program} {w:World} {A:Around} {E:Value->Shared->Prop} {s:Shared} {it a:Addr} {i:Nat} {xs:Array Value} {Q:Value->Shared->Prop} {k:Sd}
end
section
variable {prog:Program} {w:World} {A:Around} {E:Value->Shared->Prop} {s:Shared}
end
def oC (k:Sd) (K:PySem.W.Frag) (H:Hp) (a:Addr) (xs:List V):Prop:=match k with
 | .l=>bf K H a xs
 | .t=>aT K H a xs
def vv (k1 k2:Sd) (K:PySem.W.Frag) (a b:Addr):It :=
 ⟨λi H=>∃ xs ys x y,oC k1 K H a xs/\oC k2 K H b ys/\xs[i]?=some x/\ys[i]?=some y,λi H x H'=>∃ p u v,H p=none/\x=.ref p/\(∀ xs,oC k1 K H a xs->xs[i]?=some u)/\(∀ ys,oC k2 K H b ys->ys[i]?=some v)/\H'=upd H p (.tup [u,v]),
  λi H=>∃ xs,oC k1 K H a xs/\xs.length<=i⟩
def uZ (k1 k2:Sd) (K:PySem.W.Frag) (ta:TA):TI:=λσ H R=>ta σ H λvs H1=>∃ a b,vs=[.ref a,.ref b]/\(∃ xs,oC k1 K H1 a xs)/\(∃ ys,oC k2 K H1 b ys)/\R (vv k1 k2 K a b) H1
end L2
namespace Num
theorem rW {p x y:Int} {m:Nat} (h:Al p x y) (o:Ord p x m):Ord p y m:=⟨o.pos,(h.pow m).symm.trans o.one,λj z=>o.dv j ((h.pow j).trans z)⟩
def eN:List (Int × Int)->Nat
 | []=>1
 | p::r=>p.1.toNat^p.2.toNat*eN r
theorem fF:∀ a b:List (Int × Int),eN (a++b)=eN a*eN b
 | [],b=>by simp [eN]
 | p::r,b=>by
  show p.1.toNat^p.2.toNat*eN (r++b)=p.1.toNat^p.2.toNat*eN r*eN b
  rw [fF r b,Nat.mul_assoc]
theorem lb:∀ a:List (Int × Int),(∀ p∈a,Pm p.1)->(eN a:Int)=bj a
 | [],_=>rfl
 | p::r,h=>by
  have t:=(h p (List.mem_cons_self ..)).two
  show ((p.1.toNat^p.2.toNat*eN r:Nat):Int)=p.1^p.2.toNat*bj r
  rw [Int.natCast_mul,Int.natCast_pow,lb r λx z=>h x (List.mem_cons_of_mem _ z),show (p.1.toNat:Int)=p.1 by omega]
theorem kh:∀ a:List (Int × Int),(∀ p∈a,Pm p.1)->0<eN a
 | [],_=>Nat.one_pos
 | p::r,h=>by
  have t:=(h p (List.mem_cons_self ..)).two
  exact Nat.mul_pos (Nat.pow_pos (by omega)) (kh r λx z=>h x (List.mem_cons_of_mem _ z))
theorem ro {q m:Nat} (h:Nm q) (hm:¬q∣m) (k:Nat):Nat.Coprime (q^k) m:=Nat.Coprime.pow_left k (h.co hm)
theorem sS {q:Int} (hq:Pm q) {b:List (Int × Int)} (hb:∀ p∈b,Pm p.1) (ne:∀ p∈b,p.1≠q):¬q.toNat∣eN b:=λz=>by
 have t:=hq.two
 have:q∣bj b:=by
  rw [<- lb b hb]
  have:=Int.natCast_dvd_natCast.mpr z
  rwa [show (q.toNat:Int)=q by omega] at this
 obtain⟨p,hp,e⟩:=cU hq hb this
 exact ne p hp e
theorem qj {b:List (Int × Int)} (hb:∀ p∈b,Pm p.1):∀ a:List (Int × Int),(∀ p∈a,Pm p.1)->(∀ x∈a,∀ y∈b,y.1≠x.1)->Nat.Coprime (eN a) (eN b)
 | [],_,_=>Nat.coprime_one_left _
 | p::r,h,ne=>by
  have hp:=h p (List.mem_cons_self ..)
  exact Nat.Coprime.mul_left (ro (nj hp) (sS hp hb (ne p (List.mem_cons_self ..))) _) (qj hb r (λx z=>h x (List.mem_cons_of_mem _ z)) λx z=>ne x (List.mem_cons_of_mem _ z))
theorem pO {n a:Int} {q t:Nat} (hq:Nm q) (h:Al n (a^q^t) 1) (no:∀ j,j<t->¬Al n (a^q^j) 1):Ord n a (q^t):=by
 have q2:=hq.1
 obtain⟨m,o,_⟩:=i8 (N:=q^t) (Nat.pow_pos (by omega)) h
 have d:=o.dv _ h
 cases t with
 | zero =>
  have:m=1:=Nat.eq_one_of_dvd_one (by simpa using d)
  rw [this] at o
  simpa using o
 | succ k =>
  have:m=q^(k+1):=lz hq k m d λz=>no k (Nat.lt_succ_self _) (by
   obtain⟨c,hc⟩:=z
   rw [hc]
   exact ba o.one)
  rw [<- this]
  exact o
theorem cK {a:Int} {x y:Nat}:(a^x)^y=a^(x*y):=by rw [Int.pow_mul]
theorem kD {n a:Int} {M1 M2 E1 E2:Nat} (co:Nat.Coprime M1 M2) (p1:0<M1) (p2:0<M2) (h:Al n (a^(M1*M2)) 1) (o1:Ord n (a^M2) E1) (o2:Ord n (a^M1) E2):Ord n a (E1*E2):=by
 have d1:E1∣M1:=o1.dv M1 (by rw [cK,Nat.mul_comm];exact h)
 have d2:E2∣M2:=o2.dv M2 (by rw [cK];exact h)
 obtain⟨c1,hc1⟩:=d1
 obtain⟨c2,hc2⟩:=d2
 obtain⟨e,o,_⟩:=i8 (Nat.mul_pos p1 p2) h
 have x1:e∣M2*E1:=o.dv _ (by rw [<- cK];exact o1.one)
 have x2:e∣M1*E2:=o.dv _ (by rw [<- cK];exact o2.one)
 have cc:Nat.Coprime c2 c1:=by
  have:Nat.Coprime c1 c2:=Nat.Coprime.coprime_dvd_left ⟨E1,by rw [hc1,Nat.mul_comm]⟩ (Nat.Coprime.coprime_dvd_right ⟨E2,by rw [hc2,Nat.mul_comm]⟩ co)
  exact this.symm
 have x3:e∣E1*E2:=by
  have:=Nat.dvd_gcd x1 x2
  rw [show M2*E1=E1*E2*c2 by rw [hc2];rw [Nat.mul_comm (E2*c2) E1,Nat.mul_assoc],show M1*E2=E1*E2*c1 by rw [hc1];rw [Nat.mul_assoc,Nat.mul_comm c1 E2,Nat.mul_assoc],Nat.gcd_mul_left,cc.gcd_eq_one,Nat.mul_one] at this
  exact this
 have ce:Nat.Coprime E1 E2:=Nat.Coprime.coprime_dvd_left ⟨c1,hc1⟩ (Nat.Coprime.coprime_dvd_right ⟨c2,hc2⟩ co)
 refine⟨Nat.mul_pos o1.pos o2.pos,?_,λj hj=>?_⟩
 ·obtain⟨c,hc⟩:=x3
  rw [hc]
  exact ba o.one
 ·refine ce.mul_dvd_of_dvd_of_dvd (o1.dv j ?_) (o2.dv j ?_)
  ·rw [cK,Nat.mul_comm,<- cK]
   have:=hj.pow M2
   rwa [Int.one_pow] at this
  ·rw [cK,Nat.mul_comm,<- cK]
   have:=hj.pow M1
   rwa [Int.one_pow] at this
structure TO (n a:Int) (ps:List (Int × Int)) (ts:List Int):Prop where
 len:ts.length=ps.length
 nn:∀ t∈ts,0<=t
 ord:Ord n a (eN ((ps.map (·.1)).zip ts))
theorem TO.al {n a b:Int} {ps:List (Int × Int)} {ts:List Int} (h:TO n a ps ts) (e:Al n a b):TO n b ps ts:=⟨h.len,h.nn,rW e h.ord⟩
theorem TO.none {n a:Int} (h:Al n a 1):TO n a [] []:=⟨rfl,λ_ z=>by simp at z,⟨Nat.one_pos,by show Al n (a^1) 1;rw [Int.pow_one];exact h,λj _=>Nat.one_dvd j⟩⟩
theorem TO.one {n a q k:Int} {t:Nat} (hq:Pm q) (h:Al n (a^q.toNat^t) 1) (no:∀ j,j<t->¬Al n (a^q.toNat^j) 1):TO n a [(q,k)] [(t:Int)]:=by
 refine⟨rfl,λx z=>?_,?_⟩
 ·rw [List.mem_singleton.mp z];omega
 ·show Ord n a (q.toNat^(t:Int).toNat*1)
  rw [Nat.mul_one,Int.toNat_natCast]
  exact pO (nj hq) h no
theorem TO.two {n a:Int} {as bs:List (Int × Int)} {ts us:List Int} (ha:∀ p∈as,Pm p.1) (hb:∀ p∈bs,Pm p.1) (ne:∀ x∈as,∀ y∈bs,y.1≠x.1) (h:Al n (a^eN (as++bs)) 1) (h1:TO n (a^eN bs) as ts) (h2:TO n (a^eN as) bs us):TO n a (as++bs) (ts++us):=by
 refine⟨by rw [List.length_append,List.length_append,h1.len,h2.len],λt z=>(List.mem_append.mp z).elim (h1.nn t) (h2.nn t),?_⟩
 rw [List.map_append,List.zip_append (by rw [List.length_map,h1.len]),fF]
 rw [fF] at h
 exact kD (qj hb as ha ne) (kh as ha) (kh bs hb) h h1.ord h2.ord
end Num
namespace L2
open PySem PySem.Spec PyProof.Rows
def tE (K:PySem.W.Frag) (ta:TA):TI:=λσ H R=>ta σ H λvs H1=>∃ a b k1 k2,vs=[.ref a,.ref b]/\(∃ xs,oC k1 K H1 a xs)/\(∃ ys,oC k2 K H1 b ys)/\R (vv k1 k2 K a b) H1
end L2
namespace L2
open PySem PySem.Spec PyProof.Rows PySem.W
end L2
namespace L2
open PySem PySem.Spec PyProof.Rows
end L2
namespace L2
open PySem PySem.Spec PyProof.Rows PySem.W
section
variable {prog:Program} {w:World} {A:Around} {E:Value->Shared->Prop} {K:PySem.W.Frag} {h:Heap} {g:Array GenState} {d:Drawn} {t:Nat} {os:OsState} {x C B:Addr}
end
section
variable {X:Cx} {pins:List (Addr × Obj)} {σ:St} {H:Hp} {s:Shared} {x:Addr}
end
section
variable {X:Cx} {B:Addr} {n:Option Nat} {hd:ExceptHandler} {ts:TS}
variable {B2:Addr} {n2:Option Nat} {hd2:ExceptHandler} {ts2:TS}
def uz (K:PySem.W.Frag) (B:Addr) (n:Option Nat) (B2:Addr) (n2:Option Nat) (sp:Sp) (ta:TA) (put:V->St->St) (ts ts2:TS):TS:=λD σ H=>ta σ H λvs H1=>sp vs H1 (λv H2=>D.nx (put v σ) H2)
 (λcv xo H2=>∃ C x dd,cv=.ref C/\xo=some x/\H2 x=some (XO x C dd)/\cF K C/\((mroIn K C (.ref B)=some true/\ts (ll n D) (oS n x σ) H2)∨(mroIn K C (.ref B)=some false/\mroIn K C (.ref B2)=some true/\ts2 (ll n2 D) (oS n2 x σ) H2)))
variable {k:Nat} {f:Str} {ps:List Str} {sp:Sp} {e:Expr} {es:List Expr} {t:TA} {p cpos epos pos:Pos}
end
end L2
namespace Num
open PySem PySem.Spec PyProof.Rows
theorem LF.vb {n g g':Int} (h:LF n g) (h':LF n g'):g=g':=by
 rcases (by omega:g<g'∨g=g'∨g'<g) with z | z | z
 ·exact absurd h.ord (h'.no g h.one z)
 ·exact z
 ·exact absurd h'.ord (h.no g' h'.one z)
theorem fO.one {n:Int} {d:PyData} (h:fO n d):∀{d'},fO n d'->d=d':=by
 induction h with
 | mk p g ps ds h1 h2 h3 h4 h5 h6 ih =>
  intro d' h'
  cases h' with
  | mk _ g' ps' ds' k1 k2 k3 k4 k5 k6 =>
   obtain rfl:=h3.vb k3
   obtain rfl:=h4.one k4
   have:rowsOf ps ds=rowsOf ps ds':=by
    unfold rowsOf
    refine List.map_congr_left λi hi=>?_
    have il:=List.mem_range.mp hi
    have g:=List.getElem?_eq_getElem il
    rw [ih i _ _ g (k6 i _ _ g)]
   rw [this]
end Num
namespace L2
open PySem PySem.Spec PyProof.Rows
theorem nB {X:Cx}:eO X (compareOp .Is) (λx y H Q=>∃ b c:Bool,x=.bl b/\y=.bl c/\Q (.bl (b==c)) H):=by
 intro pins s σ H x y v u Q I rx ry h
 obtain⟨b,c,rfl,rfl,q⟩:=h
 cases rx
 cases ry
 exact PyProof.Rows.is_bool (aP I q rfl)
end L2
namespace L2
open PySem PySem.Spec PyProof.Rows PySem.W
namespace HT
section
variable {prog:Program} {w:World} {A:Around} {E:Value->Shared->Prop} {s:Shared}
theorem mQ {t b:Addr} {ws:List Value} {Q:Value->Shared->Prop} (ht:IsTup s.heap t ([]:List Value).toArray) (hb:IsTup s.heap b ws.toArray)
  (h1:Q (.ref b) s):wpAny (model prog w) A (binaryOp .Add (.ref t) (.ref b)) Q E s:=by
 obtain⟨⟨cls,dd,data,sl⟩,ho,hc,n,hd⟩:=id ht
 obtain⟨⟨cls2,dd2,data2,sl2⟩,ho2,hc2,n2,hd2⟩:=id hb
 simp only at hc hd hc2 hd2
 subst hc hd hc2 hd2
 exact concat_meets ⟨_,ho,rfl⟩ ⟨_,ho2,rfl⟩ noFill_tuple_add seq_tuple_add PySem.F.slot_tuple_add PySem.F.entry_tuple_add (PySem.F.args_tuple_add_2 _ _)
   (tuple_addW0 t b ([]:List Value).toArray ws.toArray n n2 dd dd2 sl sl2 (by simp)) ⟨ho,ho2,h1⟩
end
end HT
def qK (K:PySem.W.Frag):R2:=λx y H Q=>∃ a b xs ys,x=.ref a/\y=.ref b/\aT K H a xs/\aT K H b ys/\xs.length+ys.length<=sizeLine/\∀ p H',au H H'->aT K H' p (xs++ys)->Q (.ref p) H'
theorem bR {X:Cx}:eO X (binaryOp .Add) (qK X.K):=by
 intro pins s σ H x y v u Q I rx ry h
 obtain⟨a,b,xs,ys,rfl,rfl,ha,hb,hz,q⟩:=h
 by_cases e:xs=[]
 ·subst e
  cases rx
  cases ry
  obtain⟨its,r1,p1,_⟩:=I.tuple ha
  obtain⟨its2,r2,p2,_⟩:=I.tuple hb
  have e1:its=[]:=r1.gc.mpr rfl
  subst e1
  exact HT.mQ p1 p2 ⟨.ref b,H,I,rfl,q b H (au.refl _) hb⟩
 ·refine pM pins s σ H _ _ v u Q I rx ry ⟨a,b,xs,ys,rfl,rfl,ha,hb,e,hz,λz=>q a H (au.refl _) (by rw [z,List.append_nil];exact ha),λ_ p hp=>q p _ (ai hp) (aT.of af)⟩
end L2
namespace L2
open PySem PySem.Spec PyProof.Rows PySem.W
namespace Tsl
open _root_.HT
section
variable {prog:Program} {w:World} {A:Around} {E:Value->Shared->Prop} {s:Shared}
theorem jZ {t sl:Addr} {items:Array Value} {vl vu:Value} {lo hi:Option Int} {Q:Value->Shared->Prop} (ht:IsTup s.heap t items) (hs:s.heap.IsSliceOf sl vl vu .none) (pl:IsPart vl lo) (pu:IsPart vu hi)
  (h0:bV items.size 0 lo=0) (h1:bV items.size items.size hi=items.size) (q:Q (.ref t) s):wpAny (model prog w) A (getItem (.ref t) (.ref sl)) Q E s:=by
 obtain⟨os,hos,hcs,hds⟩:=id hs
 have hTs:s.TypeIs (.ref sl) "slice":=⟨os,hos,hcs⟩
 unfold getItem
 try with_reducible refine wpAny_holding ?_
 first | refine wpAny_bind (wpAny_pure ?_) | skip
 refine wpAny_bind (wpAny_sequenceKey ht.typeIs (by decide) ?_)
 refine wpAny_bind (wpAny_callSpecial?_slot (name:=Str.ofString "__getitem__") ht.typeIs slot_tuple_getitem (wpAny_call_entry slot_tuple_getitem ht.typeIs entry_tuple_getitem ?_ (args_tuple_getitem _ _)))
 show wpAny _ _ (Builtin.Tuple.tupleItemsOf _ >>= _) _ _ _
 refine wpAny_bind (tupleItemsOf_ ht ?_)
 refine wpAny_bind (wpAny_typeOf hTs ?_)
 rw [if_pos (by decide)]
 refine wpAny_bind (dg hs pl pu ?_)
 rw [h0,h1]
 dsimp only
 rw [if_pos (by simp)]
 unfold Builtin.Tuple.tupleIsExact
 refine wpAny_bind (wpAny_bind (wpAny_typeOf ht.typeIs (wpAny_pure ?_)))
 rw [if_pos (by decide)]
 first
  | exact wpAny_bind (wpAny_rule (wpAny_pure ⟨_,rfl,wpAny_pure q⟩))
  | (refine wpAny_bind (m:=rule _) (wpAny_pure ?_);exact wpAny_pure ⟨_,rfl,wpAny_pure q⟩)
  | (unfold rule;wp_walk)
theorem jJ {α β:Type} {f g:α->Option β}:∀{l:List α},(∀ x∈l,f x=g x)->l.filterMap f=l.filterMap g
 | [],_=>rfl
 | x::l,h=>by rw [List.filterMap_cons,List.filterMap_cons,h x (List.mem_cons_self ..),jJ λy hy=>h y (List.mem_cons_of_mem _ hy)]
theorem lQ (xs:Array Value):((List.range xs.size).filterMap fun(m:Nat)=>xs[((xs.size:Int)-1+(m:Int) * -1).toNat]?).toArray=xs.toList.reverse.toArray:=by
 rw [<- krv_pick]
 unfold slicePick
 rw [krv_bounds]
 show _=((sliceRange ((xs.size:Int)-1) (-1) (-1)).filterMap (xs[·]?)).toArray
 rw [krv_sliceRange,List.filterMap_map]
 congr 1
 exact jJ λm hm=>by
  have:=List.mem_range.mp hm
  show xs[((xs.size:Int)-1+(m:Int) * -1).toNat]?=xs[xs.size-1-m]?
  congr 1
  omega
theorem jA (n:Nat):Builtin.Slice.sliceAdjust none none (-1) (n:Int)=((n:Int)-1,-1):=by
 unfold Builtin.Slice.sliceAdjust
 simp
theorem jB (n:Nat):Builtin.Slice.slicePlaces ((n:Int)-1) (-1) (-1)=n:=by
 unfold Builtin.Slice.slicePlaces
 simp
 omega
theorem fz {sl:Addr} {vk:Value} {n:Nat} {Q:Int × Int × Nat->Shared->Prop} (hs:s.heap.IsSliceOf sl .none .none vk) (pk:IsPart vk (some (-1)))
  (h:Q ((n:Int)-1,-1,n) s):wpAny (model prog w) A (Builtin.Slice.sliceApplied (.ref sl) (pure (n:Int))) Q E s:=by
 obtain⟨os,hos,hcs,hds⟩:=id hs
 unfold Builtin.Slice.sliceApplied Builtin.Slice.sliceFields
 refine wpAny_bind (wpAny_bind (wpAny_field hos hds (x:=.none) rfl (wpAny_bind (wpAny_field hos hds (x:=.none) rfl (wpAny_bind (wpAny_field hos hds (x:=vk) rfl (wpAny_pure ?_)))))))
 refine wpAny_bind (fb pk ?_)
 dsimp only
 rw [if_neg (by decide)]
 refine wpAny_bind (slicePart_none (wpAny_bind (slicePart_none (wpAny_bind (wpAny_pure ?_)))))
 show wpAny _ _ (pure ((Builtin.Slice.sliceAdjust none none (-1) (n:Int)).1,(-1:Int),Builtin.Slice.slicePlaces (Builtin.Slice.sliceAdjust none none (-1) (n:Int)).1 (Builtin.Slice.sliceAdjust none none (-1) (n:Int)).2 (-1))) _ _ s
 rw [jA]
 dsimp only
 rw [jB]
 exact wpAny_pure h
theorem kQ {t sl:Addr} {items:Array Value} {vk:Value} {Q:Value->Shared->Prop} (ht:IsTup s.heap t items) (hs:s.heap.IsSliceOf sl .none .none vk) (pk:IsPart vk (some (-1))) (hz:items.size<=sizeLine)
  (q:Q (.ref s.heap.objs.size) { s with heap:=s.heap.push { cls:=.type "tuple",data:=.seq items.toList.reverse.toArray } }):wpAny (model prog w) A (getItem (.ref t) (.ref sl)) Q E s:=by
 obtain⟨os,hos,hcs,hds⟩:=id hs
 have hTs:s.TypeIs (.ref sl) "slice":=⟨os,hos,hcs⟩
 have hsz:sizeOk (.seq items.toList.reverse.toArray):=by
  show items.toList.reverse.toArray.size<=sizeLine
  rw [List.size_toArray,List.length_reverse,Array.length_toList]
  exact hz
 unfold getItem
 try with_reducible refine wpAny_holding ?_
 first | refine wpAny_bind (wpAny_pure ?_) | skip
 refine wpAny_bind (wpAny_sequenceKey ht.typeIs (by decide) ?_)
 refine wpAny_bind (wpAny_callSpecial?_slot (name:=Str.ofString "__getitem__") ht.typeIs slot_tuple_getitem (wpAny_call_entry slot_tuple_getitem ht.typeIs entry_tuple_getitem ?_ (args_tuple_getitem _ _)))
 show wpAny _ _ (Builtin.Tuple.tupleItemsOf _ >>= _) _ _ _
 refine wpAny_bind (tupleItemsOf_ ht ?_)
 refine wpAny_bind (wpAny_typeOf hTs ?_)
 rw [if_pos (by decide)]
 refine wpAny_bind (fz hs pk ?_)
 dsimp only
 rw [if_neg (by simp),lQ]
 first
  | exact wpAny_bind (m:=Builtin.Tuple.tupleExact _) (wpAny_newObj_type (wpAny_pure ⟨_,rfl,wpAny_pure q⟩) hsz)
  | exact wpAny_bind (wpAny_bind (m:=Builtin.Tuple.tupleExact _) (wpAny_newObj_type (wpAny_pure (wpAny_pure ⟨_,rfl,wpAny_pure q⟩)) hsz))
  | exact wpAny_bind (m:=Builtin.Tuple.tupleExact _) (wpAny_newObj_type (wpAny_bind (wpAny_pure (wpAny_pure ⟨_,rfl,wpAny_pure q⟩))) hsz)
  | exact wpAny_bind (wpAny_bind (m:=Builtin.Tuple.tupleExact _) (wpAny_newObj_type (wpAny_pure ⟨_,rfl,wpAny_pure q⟩) hsz))
end
end Tsl
def ub (K:PySem.W.Frag):V->Option Int->Option Int->Hp->VK->Prop:=λx lo hi H Q=>∃ a xs,x=.ref a/\aT K H a xs/\∀ p H',au H H'->aT K H' p (eI xs lo hi)->Q (.ref p) H'
theorem kg {xs:List V} {lo hi:Option Int} (h0:HT.bV xs.length 0 lo=0) (h1:HT.bV xs.length xs.length hi=xs.length):eI xs lo hi=xs:=by
 unfold eI
 rw [h0,h1]
 simp
theorem bW {X:Cx}:uF X (ub X.K):=by
 intro pins s σ H x v vl vu lo hi sl Q I rx hs pl pu h
 obtain⟨a,xs,rfl,hx,q⟩:=h
 by_cases hw:HT.bV xs.length 0 lo=0/\HT.bV xs.length xs.length hi=xs.length
 ·cases rx
  obtain⟨its,r,ht,hz⟩:=I.tuple hx
  have hlen:its.toArray.size=xs.length:=by rw [List.size_toArray];exact r.length.symm
  refine⟨"tuple",_,slot_tuple_getitem.lookup,ht.typeIs,?_⟩
  refine Tsl.jZ ht hs pl pu (by rw [hlen];exact hw.1) (by rw [hlen];exact hw.2) ?_
  exact⟨.ref a,H,I,rfl,q a H (au.refl _) (by rw [kg hw.1 hw.2];exact hx)⟩
 ·exact si pins s σ H _ v vl vu lo hi sl Q I rx hs pl pu ⟨a,xs,rfl,hx,hw,λp hp=>q p _ (ai hp) (aT.of af)⟩
def qU (K:PySem.W.Frag) (te:TE) (tk:TO):TE:=λσ H Q=>te σ H λx H1=>tk σ H1 λo H2=>o=some (-1)/\∃ a xs,x=.ref a/\aT K H2 a xs/\∀ p,H2 p=none->Q (.ref p) (upd H2 p (.tup xs.reverse))
section
variable {X:Cx} {e k:Expr} {te:TE} {tk:TO} {p2 pos:Pos}
theorem pR (he:PE X e te) (hk:PO X (some k) tk)
  (hs:∀ a b:Addr,∃ ops,subscripted (.Slice none none (some k) p2) false (.ref a) (.ref b)=operate ops (getItem (.ref a) (.ref b)):=by intro a b;exact⟨_,by with_unfolding_all rfl⟩):PE X (.Subscript e (.Slice none none (some k) p2) pos) (qU X.K te tk):=by
 intro pins s σ H Q I h
 refine Subscript_ (bz (he pins s σ H _ I h) λv s1 ⟨x,H1,I1,r1,q1⟩=>?_)
 refine wpAny_Slice ?_
 rw [evalPart_none]
 refine wpAny_pure (wpAny_pure ?_)
 refine bz (hk pins s1 σ H1 _ I1 q1) λvk s3 ⟨o,H3,I3,pk,eo,a,xs,ex,hx,q3⟩=>?_
 subst eo
 subst ex
 cases r1
 have I4:Inv X pins σ H3 { s3 with heap:=s3.heap.push { cls:=.type "slice",data:=.fields #[.none,.none,vk] } }:=I3.kept (t':=s3.toks) λb ob q=>Heap.get?_push_of_some _ q
 obtain⟨its,r,ht,hz⟩:=I4.tuple hx
 have hlen:=r.length
 show wpAny (model X.prog X.w) X.A (subscriptTail e (.Slice none none (some k) p2) (.ref a) (.ref s3.heap.objs.size)) (EP X pins σ Q) X.xe { s3 with heap:=s3.heap.push { cls:=.type "slice",data:=.fields #[.none,.none,vk] } }
 obtain⟨ops,hops⟩:=hs a s3.heap.objs.size
 refine tail_any (ops:=ops) ht.typeIs slot_tuple_getitem.lookup ?_ hops
 refine Tsl.kQ ht (Heap.IsSliceOf.new ..) pk (by rw [List.size_toArray]<;>omega) ?_
 refine⟨.ref _,_,I4.laid (t':=s3.toks) (o:=.tup xs.reverse) (λb ob q=>Heap.get?_push_of_some _ q) (Nat.le_refl _) ?_,rfl,q3 _ (I4.hok.fresh (Nat.le_refl _))⟩
 exact⟨by rw [List.length_reverse];exact hz,_,r.rev,IsTup.new _ _⟩
end
end L2
namespace L2
open PySem PySem.Spec PyProof.Rows
section
variable {X:Cx}
end
def m7:List Expr->Option TA
 | []=>some su
 | e::es=>match e,m7 es with
  | .Constant (.int i) _ _,some b=>some (oe (tC (.int i)) b)
  | _,_=>none
theorem fu {X:Cx}:∀{es:List Expr} {ta:TA},m7 es=some ta->PA X es ta
 | [],ta,h=>by
  injection h with h
  subst h
  exact ag
 | e::es,ta,h=>by
  unfold m7 at h
  split at h
  ·rename_i i x y b hb
   injection h with h
   subst h
   exact aa ae (fu hb) rfl
  ·cases h
end L2
set_option maxHeartbeats 8000000
namespace K
open PySem PySem.Spec PyProof.Rows L2
def top (i:Nat):Stmt:=PySem.Challenge.pw_rootprime_k23_prime_papers_read.main.body.getD i (.Pass ⟨0,0,0,0⟩)
theorem qz {us:List Value} (h:us.length=1):∃ a,us=[a]:=match us,h with | [a],_=>⟨a,rfl⟩
theorem qA {us:List Value} (h:us.length=2):∃ a b,us=[a,b]:=match us,h with | [a,b],_=>⟨a,b,rfl⟩
theorem qB {us:List Value} (h:us.length=3):∃ a b c,us=[a,b,c]:=match us,h with | [a,b,c],_=>⟨a,b,c,rfl⟩
theorem qC {us:List Value} (h:us.length=4):∃ a b c d,us=[a,b,c,d]:=match us,h with | [a,b,c,d],_=>⟨a,b,c,d,rfl⟩
theorem qE {us:List Value} (h:us.length=5):∃ a b c d e,us=[a,b,c,d,e]:=match us,h with | [a,b,c,d,e],_=>⟨a,b,c,d,e,rfl⟩
theorem qF {us:List Value} (h:us.length=6):∃ a b c d e f,us=[a,b,c,d,e,f]:=match us,h with | [a,b,c,d,e,f],_=>⟨a,b,c,d,e,f,rfl⟩
theorem eZ {N P:List Str} {sc:Scope} (a:sc.kind=.function:=by exact rfl) (b:sc.isCoroutine=false:=by exact rfl) (c:sc.isGenerator=false:=by exact rfl) (d:N.Nodup:=by decide +kernel) (e:N.take P.length=P:=by exact rfl) (f:∀ x∈P,sc.names.lookup x=some .local∨sc.names.lookup x=some .cell:=by decide +kernel) (g:∀ y∈sc.names,y.2≠.free:=by decide +kernel):az N P sc:=⟨a,b,c,d,e,f,g⟩
theorem eW {F:PySem.W.Frag} {mg:Str->Option Value} {x:Str} {h:Heap} {f:Addr} {st:Stmt} {oc:Value} {od an:Option Addr} {osl:Array (Option Value)} {kV doc pm cdv ct:Value} (X:F.In h) (G:h.Ns mainGlobals mg) (a:PySem.W.nsIn F mainGlobals x=some (some (.ref f)):=by k_is) (l:F.lookup f=some ⟨oc,od,.func (PySem.W.fnOf x x (bG st) (aV st) (ao st) .none kV doc pm an cdv ct),osl⟩:=by k_is) (c:PySem.W.codeIn F cdv x=true:=by k_is) (kk:PySem.W.keepIn F (.ref f)=true:=by k_is):ax (ef X) mg x st:=mT X G a l c kk
theorem qi {X:Cx} {N':List Str} {js:List (Option Nat)} {scope:Scope} {cl:List (Str × Addr)} (clos:closureFor scope X.env=pure cl) (kind:scope.kind=.function) (nocell:∀ y∈scope.names,y.2=.cell->scope.names.lookup y.1=some .cell/\∀ p∈js.zip N',p.1.isSome=true->p.2≠y.1:=by decide +kernel) (names:∀ y∈scope.names,y.2=.local->scope.names.lookup y.1=some .local:=by decide +kernel) (sub:AllIn X.env cl:=by repeat (first | exact True.intro | refine⟨rfl,?_⟩)) (has:fD cl scope.names:=by repeat (first | exact True.intro | refine⟨rfl,?_⟩ | refine⟨True.intro,?_⟩)) (j:fg X scope cl js N':=by repeat (first | exact True.intro | refine⟨⟨rfl,rfl,.inl rfl,.inl rfl⟩,?_⟩)):gg X N' js scope cl:=rq clos kind nocell names sub has j
theorem bU {X:Cx} {pos:Pos} {i:Nat} {x:Str} {e:Expr} {te:TE} {pos':Pos} (hN:X.N.Nodup) (he:PE X e te) (hi:X.N[i]?=some x:=by exact rfl) (hx:Loc X.env.scope x:=by exact Or.inl rfl) (hs:swapsWith e (some (.Name x pos')) pos.line X.env=pure false:=by rfl) (hf:X.fn x=true∨X.env.scope.names.lookup x=some .local:=by first | exact .inl rfl | exact .inr rfl | assumption):PS X (.Assign [.Name x pos'] e pos) (oa te (dF i)):=cz hN hi hx he hs hf
theorem dQ {X:Cx} {CX:h7} {k n:Nat} {x:Str} {ps:List Str} {sp:Sp} {E:XK} {e:Expr} {es:List Expr} {t:TA} {p pos:Pos} (C:Callee X.prog X.w X.K X.mg X.base CX k x ps sp) (hr:bX n X.A) (hx:Passes CX X E) (ha:PA X (e::es) t) (hm:k<=n:=by decide) (hg:Gl X x:=by exact rfl) (hdb:(x==("__debug__":Str))=false:=by decide) (he:starEach (e::es) X.env=(false,eval e X.env)::starEach es X.env:=by rfl) (hpl:(backTo pos (starEach es X.env)).any (·.1)=false:=by rfl):PE X (.Call (.Name x p) (e::es) [] pos) (lM sp [] E t):=aG C (hr.mono hm) hg hx ha hdb he hpl
theorem cO {P:Program} {w:World} {F:PySem.W.Frag} {mg:Str->Option Value} {base:Heap} {k:Nat} {x:Str} {ps:List Str} {sp:Sp} {st:Stmt} {N:List Str} (D:ax F mg x st) (S:az N ps (ao st))
  (hbody:∀(f:Addr) (cdv:Value) (A:Around) (outer:List Env) (s:Shared) (H:Hp) (vs:List V) (Q:VK) (E:XK),bX k (A.deeper (envOfC x (ao st) s.heap.objs.size f cdv))->sp vs H Q E->∃ t,gh (dk bc P w F mg base N x (ao st) f cdv A outer s H E).j2 (aV st) t/\t { nx:=λ_ H'=>Q .non H',rt:=Q } (start N vs) H)
  (hb:∀(kV doc pm:Value) (an:Option Addr) (cdv ct:Value) (us:List Value),us.length=ps.length->bindArgs (PySem.W.fnOf x x (bG st) (aV st) (ao st) .none kV doc pm an cdv ct) ⟨us,[]⟩=pure (ps.zip us):=by
    intro _ _ _ _ _ _ us hl
    first | (obtain⟨_,rfl⟩:=qz hl;exact rfl) | (obtain⟨_,_,rfl⟩:=qA hl;exact rfl) | (obtain⟨_,_,_,rfl⟩:=qB hl;exact rfl) | (obtain⟨_,_,_,_,rfl⟩:=qC hl;exact rfl) | (obtain⟨_,_,_,_,_,rfl⟩:=qE hl;exact rfl) | (obtain⟨_,_,_,_,_,_,rfl⟩:=qF hl;exact rfl))
  (len:∀ vs H Q E,sp vs H Q E->vs.length=ps.length:=by
    intro _ _ _ _ h
    first | (obtain⟨_,rfl,_⟩:=h;rfl) | (obtain⟨_,_,rfl,_⟩:=h;rfl) | (obtain⟨_,_,_,rfl,_⟩:=h;rfl) | (obtain⟨_,_,_,_,rfl,_⟩:=h;rfl) | (obtain⟨_,_,_,_,_,rfl,_⟩:=h;rfl) | (obtain⟨_,_,_,_,_,_,rfl,_⟩:=h;rfl) | (obtain⟨_,_,_,_,_,_,_,rfl,_⟩:=h;rfl) | (obtain⟨_,_,_,_,_,_,_,_,rfl,_⟩:=h;rfl) | (obtain⟨_,_,_,_,_,_,_,_,_,rfl,_⟩:=h;rfl) | (obtain⟨_,_,_,_,_,_,_,_,_,_,rfl,_⟩:=h;rfl) | (obtain⟨_,_,_,_,_,_,_,_,_,_,_,rfl,_⟩:=h;rfl) | (obtain⟨_,_,_,_,_,_,_,_,_,_,_,_,rfl,_⟩:=h;rfl) | (obtain⟨_,_,_,_,_,_,_,_,_,_,_,_,_,rfl,_⟩:=h;rfl) | (obtain⟨_,_,_,_,_,_,_,_,_,_,_,_,_,_,rfl,_⟩:=h;rfl) | (obtain⟨_,_,_,_,_,_,_,_,_,_,_,_,_,_,_,rfl,_⟩:=h;rfl)):Callee P w F mg base bc (k+1) x ps sp:=lS D hb S len hbody
theorem cX {P:Program} {w:World} {F:PySem.W.Frag} {mg:Str->Option Value} {base:Heap} {k:Nat} {x:Str} {ps:List Str} {sp:Sp} {st:Stmt} {N:List Str} (D:ax F mg x st) (S:az N ps (ao st))
  (hbody:∀(f:Addr) (cdv:Value) (A:Around) (outer:List Env) (s:Shared) (H:Hp) (vs:List V) (Q:VK) (E:XK),bX k (A.deeper (envOfC x (ao st) s.heap.objs.size f cdv))->sp vs H Q E->∃ t,gh (dk (d7 P w) P w F mg base N x (ao st) f cdv A outer s H E) (aV st) t/\t { nx:=λ_ H'=>Q .non H',rt:=Q } (start N vs) H)
  (hb:∀(kV doc pm:Value) (an:Option Addr) (cdv ct:Value) (us:List Value),us.length=ps.length->bindArgs (PySem.W.fnOf x x (bG st) (aV st) (ao st) .none kV doc pm an cdv ct) ⟨us,[]⟩=pure (ps.zip us):=by
    intro _ _ _ _ _ _ us hl
    first | (obtain⟨_,rfl⟩:=qz hl;exact rfl) | (obtain⟨_,_,rfl⟩:=qA hl;exact rfl) | (obtain⟨_,_,_,rfl⟩:=qB hl;exact rfl) | (obtain⟨_,_,_,_,rfl⟩:=qC hl;exact rfl) | (obtain⟨_,_,_,_,_,rfl⟩:=qE hl;exact rfl) | (obtain⟨_,_,_,_,_,_,rfl⟩:=qF hl;exact rfl))
  (len:∀ vs H Q E,sp vs H Q E->vs.length=ps.length:=by
    intro _ _ _ _ h
    first | (obtain⟨_,rfl,_⟩:=h;rfl) | (obtain⟨_,_,rfl,_⟩:=h;rfl) | (obtain⟨_,_,_,rfl,_⟩:=h;rfl) | (obtain⟨_,_,_,_,rfl,_⟩:=h;rfl) | (obtain⟨_,_,_,_,_,rfl,_⟩:=h;rfl) | (obtain⟨_,_,_,_,_,_,rfl,_⟩:=h;rfl) | (obtain⟨_,_,_,_,_,_,_,rfl,_⟩:=h;rfl) | (obtain⟨_,_,_,_,_,_,_,_,rfl,_⟩:=h;rfl) | (obtain⟨_,_,_,_,_,_,_,_,_,rfl,_⟩:=h;rfl) | (obtain⟨_,_,_,_,_,_,_,_,_,_,rfl,_⟩:=h;rfl) | (obtain⟨_,_,_,_,_,_,_,_,_,_,_,rfl,_⟩:=h;rfl) | (obtain⟨_,_,_,_,_,_,_,_,_,_,_,_,rfl,_⟩:=h;rfl) | (obtain⟨_,_,_,_,_,_,_,_,_,_,_,_,_,rfl,_⟩:=h;rfl) | (obtain⟨_,_,_,_,_,_,_,_,_,_,_,_,_,_,rfl,_⟩:=h;rfl) | (obtain⟨_,_,_,_,_,_,_,_,_,_,_,_,_,_,_,rfl,_⟩:=h;rfl)):Callee P w F mg base (d7 P w) (k+1) x ps sp:=kc D hb S len hbody
end K
local macro_rules | `(tactic| k_data) => `(tactic| (iterate 2 ((try dsimp only [L2.b9, L2.ux, L2.qS, L2.oe, L2.su, L2.vj, L2.mw, L2.tC, L2.sF, L2.rI, L2.lC, L2.rU, L2.vO, L2.oi, L2.oa, L2.dF, L2.ie, L2.uy, L2.uA, L2.uw, L2.vJ, L2.uv, L2.qP, L2.uk, L2.vL, L2.sx, L2.qN, L2.vn, L2.qR, L2.tB, L2.um, L2.qO, L2.qr, L2.sX, L2.lM, L2.qc, L2.sr, L2.qv, L2.tj, L2.tu, L2.qu, L2.tw, L2.vM, L2.vo, L2.qT, L2.lN, L2.qQ, L2.vF, L2.vH, L2.vI, L2.uo, L2.v7, L2.uY, L2.uq, L2.ud, L2.ur, L2.kO, L2.sZ, L2.uZ, L2.tE, L2.oh, L2.sA, L2.sy, L2.wa, L2.vp, L2.uz, L2.oS, L2.ll, List.getElem?_cons_zero, List.getElem?_cons_succ, List.set_cons_zero, List.set_cons_succ, List.nil_append, List.cons_append, L2.sJ, L2.vZ, L2.sR]); (try simp only [Option.some.injEq, exists_eq_left', exists_and_left, List.cons.injEq, L2.V.int.injEq, L2.V.bl.injEq, and_true, true_and, and_assoc, decide_eq_true_eq, List.append_nil, Int.reduceToNat, Int.reducePow, Int.reduceLT, Int.reduceLE, Int.reduceNeg, Int.zero_add, Nat.reducePow, Nat.reduceLT, Int.reduceAdd, Int.reduceSub, Int.reduceMul, L2.V.ref.injEq, L2.bp, L2.oj, exists_eq_left, exists_eq', exists_eq, exists_const, L2.cQ, L2.lH, L2.pX, L2.pY, L2.pZ, L2.pW, L2.qa, reduceIte, reduceCtorEq, Bool.not_eq_true', decide_eq_false_iff_not, Int.reduceAbs, Bool.not_true, Bool.not_false, if_true, Bool.false_eq_true, if_false]))))
namespace K
open PySem PySem.Spec PyProof.Rows L2
section
variable {P:Program} {w:World} {K:PySem.W.Frag} {mg:Str->Option Value} {base:Heap}
theorem jy {α:Type} {p:α->Prop} {xs:List α} {v:α} (h:∀ x∈xs,p x) (hv:p v):∀ x∈xs++[v],p x:=λx hx=>by
 rcases List.mem_append.mp hx with z | z
 ·exact h x z
 ·rw [List.mem_singleton.mp z];exact hv
theorem eg {i:Int} (h:(decide (i.natAbs<10^250))=true):Bd i:=Nat.lt_of_lt_of_le (of_decide_eq_true h) mM
def oz (x:Int):Prop:=0<=x/\x<10^60
def lI:Sp:=λvs H Q _=>∃(c:Int) (n:Nat),vs=[.int c,.int n]/\n<=16/\∀(xs:List Int) p H',xs.length=n->(∀ x∈xs,oz x)->au H H'->H' p=some (.lst (xs.map V.int))->Q (.ref p) H'
theorem eR:az ["_law_cell","_law_many","_law_found","_law_k","_law_number"] ["_law_cell","_law_many"] (ao (top 35)):=eZ
theorem nr (D:ax K mg "_law_draws" (top 35)) (n_abs:mg "abs"=none) (n_range:mg "range"=none):Callee P w K mg base bc 1 "_law_draws" ["_law_cell","_law_many"] lI:=by
 refine cO D eR (λf cdv A outer s H vs Q E hr h=>?_)
 obtain⟨c,n,rfl,hn,q⟩:=h
 have nd:=eR.nd
 refine⟨_,(ah (bU (i:=2) nd (aU ag)) (ah (fJ PassesOwn.never rfl (iH rfl n_range (aa (pv 1) ag)) (aD (i:=3) nd rfl (Or.inl rfl) (.inr rfl)) (ak (aZ (aw lx (aE fh rfl n_abs L2.boot_abs (aa (pv 0) ag)) (aj b3 ae ae) (av _)) (ah (eE (iG PySem.F.plainAttrs_list PySem.F.slot_list_append PySem.F.type_list_append cS (pv 2) (aa (aj ay (pv 0) (aj b3 ae ae)) ag))) (ak (bU (i:=0) nd (aj aL (pv 0) (aj b3 ae ae))))) (ah (bU (i:=4) nd (aj ay (aj bb (aj ay (aj aQ (aj aQ (pv 0) (aj bb (aj bb ae (pv 3)) (pv 3))) (pv 3)) ae) ae) ae)) (ah (bU (i:=4) nd (aj aL (aj ay (aj bb (pv 4) (aj aQ (aj aQ (pv 4) (aj bb ae (pv 3))) ae)) ae) ae)) (ak (eE (iG PySem.F.plainAttrs_list PySem.F.slot_list_append PySem.F.type_list_append cS (pv 2) (aa (aB aK (aU (aa (pv 4) (aa (aj ay (aj aL (aj b3 (pv 4) ae) ae) (aj b3 ae ae)) ag))) (aj ay (aj aL (pv 4) ae) ae) (λ_ _=>rfl)) ag))))))))) (ak (aA (pv 2))))),?_⟩
 show b9 _ _ _ [some (.int c),some (.int n),none,none,none] H
 k_data
 refine⟨by decide,λp hp=>?_⟩
 refine⟨by omega,by omega,?_⟩
 refine gD (λi σ' H'=>∃(c':Int) (xs:List Int) (o1 o2:Option V),σ'=[some (.int c'),some (.int n),some (.ref p),o1,o2]/\xs.length=i/\(∀ x∈xs,oz x)/\au H H'/\H' p=some (.lst (xs.map V.int)))
  ⟨c,[],none,none,rfl,rfl,by simp,ai hp,af⟩ ?_ ?_
 ·rintro i σ' H' hi ⟨c',xs,o1,o2,rfl,hl,hx,hs,hh⟩
  have hi':i<n:=by simpa using hi
  have hsz:xs.length<sizeLine:=by rw [hl];exact mr (by omega)
  k_data
  refine aH (λcc=>?_) (λcc=>?_)
  ·have m0:=Int.emod_nonneg c' (show (10^60:Int)≠0 by decide)
   have m1:=Int.emod_lt_of_pos c' (show (0:Int)<10^60 by decide)
   refine⟨.inl ⟨rfl,_,bf.of hh⟩,kW hh hsz ?_⟩
   refine⟨eg (by decide),xs++[_],by rw [List.length_append,List.length_singleton,hl],jy hx ⟨m0,m1⟩,hs.upd hp,af⟩
  ·generalize c'+7919*(i:Int)*i+i=z
   have z0:=Int.emod_nonneg z (show (2147483647:Int)≠0 by decide)
   have z1:=Int.emod_lt_of_pos z (show (0:Int)<2147483647 by decide)
   have m0:=Int.emod_nonneg (z%2147483647*48271) (show (2147483647:Int)≠0 by decide)
   have m1:=Int.emod_lt_of_pos (z%2147483647*48271) (show (0:Int)<2147483647 by decide)
   generalize z%2147483647=z' at *
   generalize z'*48271%2147483647=m at *
   have n0:=Int.emod_nonneg (m*(m+12345*i+7)) (show (2147483629:Int)≠0 by decide)
   have n1:=Int.emod_lt_of_pos (m*(m+12345*i+7)) (show (0:Int)<2147483629 by decide)
   generalize m*(m+12345*i+7)%2147483629=k at *
   have k0:0<=k/11:=by omega
   have k1:k/11<2147483648:=by omega
   generalize k/11=k' at *
   refine⟨eg (by decide),Bd.of (by omega) (by omega),Bd.of (by omega) (by omega),Bd.of (by omega) (by omega),Bd.of (by omega) (by omega),eg (by decide),eg (by decide),Bd.of (by omega) (by omega),Bd.of (by omega) (by omega),Bd.of (by omega) (by omega),eg (by decide),
    .inl ⟨rfl,_,bf.of hh⟩,by omega,eg (by decide),(by show 2<=sizeLine;decide),λp1 hp1=>⟨eg (by decide),?_⟩⟩
   refine cm (bf.of af) (by omega) (by show _<(2:Int);omega) λv hv=>?_
   have hn1:p≠p1:=λe=>by rw [e,hp1] at hh;cases hh
   have hv':∃ v',v=.int v'/\oz v':=by
    simp only [List.mem_cons,List.not_mem_nil,or_false] at hv
    rcases hv with rfl | rfl
    ·exact⟨_,rfl,k0,by omega⟩
    ·exact⟨_,rfl,Int.emod_nonneg _ (by decide),Int.emod_lt_of_pos _ (by decide)⟩
   obtain⟨v',rfl,hv'⟩:=hv'
   refine kW (xs:=xs) (by rw [ar hn1];exact hh) hsz ?_
   exact⟨xs++[v'],by rw [List.length_append,List.length_singleton,hl],jy hx hv',(hs.vt hp1).upd hp,af⟩
 ·rintro σ' H' ⟨c',xs,o1,o2,rfl,hl,hx,hs,hh⟩
  k_data
  exact q xs p H' (by simpa using hl) hx hs hh
def fN (a:Int):Prop := -(10^240)<=a/\a<=10^240
theorem fN.bd {a:Int} (h:fN a):Bd a:=Bd.of (by have:=h.1;omega) (by have:=h.2;omega)
def iK:Sp:=λvs H Q _=>∃ a b:Int,vs=[.int a,.int b]/\fN a/\fN b/\∀ g u v p H',Gcd.uB a b g u v->au H H'->H' p=some (.tup [.int g,.int u,.int v])->Q (.ref p) H'
theorem gR:az ["a","b","g","u","v","next_g","next_u","next_v","times"] ["a","b"] (ao (top 7)):=eZ
structure DS where
 (g u v ng nu nv:Int)
 t:Option V
theorem kz (D:ax K mg "divisor" (top 7)) (n_abs:mg "abs"=none):Callee P w K mg base bc 1 "divisor" ["a","b"] iK:=by
 refine cO D gR (λf cdv A outer s H vs Q E hr h=>?_)
 obtain⟨a,b,rfl,ha,hb,q⟩:=h
 have nd:=gR.nd
 refine⟨_,(ah (lA (i:=2) (j:=3) (k:=4) rfl nd rfl rfl rfl (by decide) (by decide) (by decide) rfl rfl rfl (aa (aE fh rfl n_abs L2.boot_abs (aa (pv 0) ag)) (aa ae (aa ae ag))) rfl) (ah (lA (i:=5) (j:=6) (k:=7) rfl nd rfl rfl rfl (by decide) (by decide) (by decide) rfl rfl rfl (aa (aE fh rfl n_abs L2.boot_abs (aa (pv 1) ag)) (aa ae (aa ae ag))) rfl) (ah (bw PassesOwn.never (aw cu (pv 5) ae (av _)) (ah (bU (i:=8) nd (aj aL (pv 2) (pv 5))) (ah (kI (i:=2) (j:=5) rfl nd rfl rfl (by decide) rfl rfl (aa (pv 5) (aa (aj aW (pv 2) (aj bb (pv 8) (pv 5))) ag)) rfl) (ah (kI (i:=3) (j:=6) rfl nd rfl rfl (by decide) rfl rfl (aa (pv 6) (aa (aj aW (pv 3) (aj bb (pv 8) (pv 6))) ag)) rfl) (ak (kI (i:=4) (j:=7) rfl nd rfl rfl (by decide) rfl rfl (aa (pv 7) (aa (aj aW (pv 4) (aj bb (pv 8) (pv 7))) ag)) rfl)))))) (ak (aA (aq (aa (pv 2) (aa (fv (aw cT (pv 0) ae (av _)) (nL kT (pv 3)) (pv 3)) (aa (fv (aw cT (pv 1) ae (av _)) (nL kT (pv 4)) (pv 4)) ag))))))))),?_⟩
 show b9 _ _ _ [some (.int a),some (.int b),none,none,none,none,none,none,none] H
 k_data
 have hA:0<=(if a<0 then -a else a)/\(if a<0 then -a else a)<=10^240:=by have:=ha.1;have:=ha.2;split<;>omega
 have hB:0<=(if b<0 then -b else b)/\(if b<0 then -b else b)<=10^240:=by have:=hb.1;have:=hb.2;split<;>omega
 refine bF (α:=DS) (λx=>[some (.int a),some (.int b),some (.int x.g),some (.int x.u),some (.int x.v),some (.int x.ng),some (.int x.nu),some (.int x.nv),x.t])
  (λx H'=>H'=H/\Gcd.J (if a<0 then -a else a) (if b<0 then -b else b) x.g x.u x.v x.ng x.nu x.nv/\x.g<=10^240/\x.ng<=10^240) (λx=>x.ng.toNat)
  ⟨_,1,0,_,0,1,none⟩ rfl ⟨rfl,Gcd.J.start hA.1 hB.1,hA.2,hB.2⟩ ?_
 rintro x H1 ⟨rfl,j,hg,hng⟩
 k_data
 refine aH (λc=>?_) (λc=>?_)
 ·refine⟨_,λ_ _ z=>z,?_⟩
  obtain⟨s1,s2,s3,s4⟩:=j.small hA.1 hB.1 hA.2 hB.2 (by omega)
  obtain⟨j',l,q0,ql⟩:=j.turn c
  have bg:fN x.ng:=⟨by omega,hng⟩
  have bq:fN (x.g/x.ng):=⟨by omega,by omega⟩
  refine⟨c,bg.bd,bq.bd,bg.bd,bq.bd,fN.bd s3,bq.bd,fN.bd s4,⟨x.ng,x.nu,x.nv,x.g-x.g/x.ng*x.ng,x.u-x.g/x.ng*x.nu,x.v-x.g/x.ng*x.nv,some (.int (x.g/x.ng))⟩,rfl,rfl,j',hng,by show (x.g-x.g/x.ng*x.ng)<=_;omega,by show (x.g-x.g/x.ng*x.ng).toNat<x.ng.toNat;omega⟩
 ·have e:x.ng=0:=by have:=j.n0;omega
  rw [e] at j
  have z:=j.done
  refine aH (λca=>?_) (λca=>?_)<;>simp only [ca,if_true,if_false] at z ⊢<;>refine aH (λcb=>?_) (λcb=>?_)<;>simp only [cb,if_true,if_false] at z ⊢ <;>
   exact⟨by show 3<=sizeLine;decide,λp hp=>q _ _ _ p _ z (ai hp) af⟩
end
end K
namespace K
open PySem PySem.Spec PyProof.Rows L2
structure Gd (n a g:Int):Prop where
 pos:0<g
 dn:g∣n
 da:g∣a
 gr:∀ d:Int,d∣n->d∣a->d∣g
theorem Gd.one {n a g g':Int} (h:Gd n a g) (h':Gd n a g'):g=g' :=
 Int.le_antisymm (Int.le_of_dvd h'.pos (h'.gr g h.dn h.da)) (Int.le_of_dvd h.pos (h.gr g' h'.dn h'.da))
theorem jE {n a g:Int} (dn:g∣n):g∣a%n↔g∣a:=by
 have e:=Int.mul_ediv_add_emod a n
 constructor
 ·intro h
  rw [<- e]
  exact Int.dvd_add (Int.dvd_mul_of_dvd_left dn) h
 ·intro h
  have:a%n=a-n*(a/n):=by omega
  rw [this]
  exact Int.dvd_sub h (Int.dvd_mul_of_dvd_left dn)
theorem Gd.of {n a g u v:Int} (hn:0<n) (z:Gcd.uB (a%n) n g u v):Gd n a g:=by
 refine⟨?_,z.db,(jE z.db).mp z.da,λd h1 h2=>?_⟩
 ·have:=z.g0
  rcases (by omega:g=0∨0<g) with e | e
  ·have:=z.db
   rw [e] at this
   have:=Int.zero_dvd.mp this
   omega
  ·exact e
 ·rw [<- z.lin]
  exact Int.dvd_add (Int.dvd_mul_of_dvd_right ((jE h1).mpr h2)) (Int.dvd_mul_of_dvd_right h1)
theorem rH {n a u v:Int} (hn:0<n) (z:Gcd.uB (a%n) n 1 u v):n∣u%n*a-1:=by
 have e:=z.lin
 have e1:=Int.mul_ediv_add_emod a n
 have e2:=Int.mul_ediv_add_emod u n
 refine⟨u*(a/n)-v-u/n*a,?_⟩
 generalize a%n=x at *
 generalize u%n=y at *
 generalize a/n=s at *
 generalize u/n=t at *
 grind
section
variable {P:Program} {w:World} {K:PySem.W.Frag} {mg:Str->Option Value} {base:Heap}
def iL (C:Addr):Sp:=λvs H Q E=>∃ n a:Int,vs=[.int n,.int a]/\0<n/\n<=10^240/\∀ g,Gd n a g ->
 (g=1->∀ r H',0<=r->r<n->n∣r*a-1->au H H'->Q (.int r) H') /\
 (1<g->∀ x dx H',au H H'->H x=none->H' x=some (XO x C (some dx))->H' dx=some (.xd [("divisor",.int g)])->E (.ref C) (some x) H')
theorem gU:az ["n","a","g","u","v"] ["n","a"] (ao (top 8)):=eZ
theorem kA {C:Addr} (D:ax K mg "inverse" (top 8)) (c_divisor:Callee P w K mg base bc 1 "divisor" ["a","b"] iK) (x_NoInverse:j7 P w K mg base "NoInverse" C "divisor"):Callee P w K mg base (d7 P w) 3 "inverse" ["n","a"] (iL C):=by
 refine cX D gU (λf cdv A outer s H vs Q E hr h=>?_)
 obtain⟨n,a,rfl,hn,hn1,q⟩:=h
 have nd:=gU.nd
 refine⟨_,(ah (dR (dQ c_divisor hr aM (aa (aj ay (pv 1) (pv 0)) (aa (pv 0) ag))) (dC (n:=3) rfl (aI (aD (i:=2) nd rfl (Or.inl rfl) (.inr rfl)) (aI (aD (i:=3) nd rfl (Or.inl rfl) (.inr rfl)) (aI (aD (i:=4) nd rfl (Or.inl rfl) (.inr rfl)) cn))))) (ah (aZ (aw cu (pv 2) ae (av _)) (ak (cV (jc x_NoInverse (hr.mono (by decide)) rfl (aa (pv 2) ag)))) aF) (gh.j2 (ak (aA (aj ay (pv 3) (pv 0))))))),?_⟩
 show b9 _ _ _ [some (.int n),some (.int a),none,none,none] H
 k_data
 have r0:=Int.emod_nonneg a (show n≠0 by omega)
 have r1:=Int.emod_lt_of_pos a hn
 refine⟨hn,a%n,n,rfl,⟨by omega,by omega⟩,⟨by omega,by omega⟩,λg u v p H1 z hs hh=>?_⟩
 have G:=Gd.of hn z
 obtain⟨q1,q2⟩:=q g G
 refine⟨p,_,rfl,aT.of hh,rfl,?_⟩
 k_data
 refine aH (λc=>?_) (λc=>?_)
 ·intro x dx hx hdx ne
  have ne':dx≠x:=ne
  refine⟨C,some dx,af,x_NoInverse.cls,?_,?_⟩
  ·cases e:H x with
   | none=>rfl
   | some o=>rw [hs _ _ e] at hx;cases hx
  ·refine q2 c x dx _ ?_ ?_ af ?_
   ·intro b o e
    have e1:=hs _ _ e
    have bx:b≠x:=λy=>by rw [y,hx] at e1;cases e1
    have bd:b≠dx:=λy=>by rw [y,hdx] at e1;cases e1
    rw [ar bx,ar bx,ar bd,ar bx]
    exact e1
   ·cases e:H x with
    | none=>rfl
    | some o=>rw [hs _ _ e] at hx;cases hx
   ·rw [ar ne',ar ne',af]
 ·have g1:g=1:=by have:=G.pos;omega
  subst g1
  exact⟨hn,q1 rfl _ _ (Int.emod_nonneg _ (by omega)) (Int.emod_lt_of_pos _ hn) (rH hn z) hs⟩
end
end K
namespace K
open PySem PySem.Spec PyProof.Rows L2
section
variable {P:Program} {w:World} {K:PySem.W.Frag} {mg:Str->Option Value} {base:Heap}
def lL (C:Addr):Sp:=λvs H Q E=>∃ n a e:Int,vs=[.int n,.int a,.int e]/\0<n/\n<=10^120 /\
 (0<=e->∀ H',au H H'->Q (.int (a^e.toNat%n)) H') /\
 (e<0->∀ g,Gd n a g ->
  (g=1->∀ b H',0<=b->b<n->n∣b*a-1->au H H'->Q (.int (b^(-e).toNat%n)) H') /\
  (1<g->∀ x dx H',au H H'->H x=none->H' x=some (XO x C (some dx))->H' dx=some (.xd [("divisor",.int g)])->E (.ref C) (some x) H'))
theorem jW:az ["n","a","e","base","left","rest"] ["n","a","e"] (ao (top 14)):=eZ
theorem nA {C:Addr} (D:ax K mg "power" (top 14)) (c_inverse:Callee P w K mg base (d7 P w) 3 "inverse" ["n","a"] (iL C)) (n_abs:mg "abs"=none):Callee P w K mg base (d7 P w) 4 "power" ["n","a","e"] (lL C):=by
 refine cX D jW (λf cdv A outer s H vs Q E hr h=>?_)
 obtain⟨n,a,e,rfl,hn,hn1,q1,q2⟩:=h
 have nd:=jW.nd
 refine⟨_,(ah (bU (i:=3) nd (aj ay (pv 1) (pv 0))) (ah (bM (aZ (aw cT (pv 2) ae (av _)) (ak (bU (i:=3) nd (dQ c_inverse hr nJ (aa (pv 0) (aa (pv 1) ag))))) aF)) (gh.j2 (ah (bU (i:=4) nd (aE fh rfl n_abs L2.boot_abs (aa (pv 2) ag))) (ah (bU (i:=5) nd (aj ay ae (pv 0))) (ah (bw PassesOwn.never (aw cu (pv 4) ae (av _)) (ah (bM (aZ (aw bO (aj ay (pv 4) ae) ae (av _)) (ak (bU (i:=5) nd (aj ay (aj bb (pv 5) (pv 3)) (pv 0)))) aF)) (ah (bU (i:=3) nd (aj ay (aj bb (pv 3) (pv 3)) (pv 0))) (ak (eX (i:=4) nd rfl (Or.inl rfl) ae (gn gm)))))) (ak (aA (pv 5))))))))),?_⟩
 show b9 _ _ _ [some (.int n),some (.int a),some (.int e),none,none,none] H
 k_data
 refine⟨hn,λσ' H'=>au H H'/\∃ b:Int,σ'=[some (.int n),some (.int a),some (.int e),some (.int b),none,none]/\0<=b/\b<n/\Q (.int (b^e.natAbs%n)) H',?_,?_⟩
 ·k_data
  refine aH (λc=>?_) (λc=>?_)
  ·refine⟨n,a,rfl,hn,by omega,λg G=>⟨λe1 r H' r0 r1 r2 hs=>?_,λg1 x dx H' hs hx hX hd=>?_⟩⟩
   ·have:=(q2 c g G).1 e1 r H' r0 r1 r2 hs
    rw [show (-e).toNat=e.natAbs by omega] at this
    exact⟨hs,r,rfl,r0,r1,this⟩
   ·exact (q2 c g G).2 g1 x dx H' hs hx hX hd
  ·have:=q1 (by omega) H (au.refl _)
   rw [show e.toNat=e.natAbs by omega,<- Pw.gJ] at this
   exact⟨au.refl _,Int.emod_nonneg _ (by omega),Int.emod_lt_of_pos _ hn,this⟩
 ·rintro σ' H' ⟨hs,b,rfl,hb0,hb1,q⟩
  k_data
  refine⟨hn,?_⟩
  have ee:(if e<0 then -e else e)=(e.natAbs:Int):=by split<;>omega
  rw [ee]
  refine bF (α:=Int × Nat × Int) (λx=>[some (.int n),some (.int a),some (.int e),some (.int x.1),some (.int x.2.1),some (.int x.2.2)]) (λx H1=>H1=H'/\0<=x.1/\x.1<n/\0<=x.2.2/\x.2.2<n/\x.2.2*x.1^x.2.1%n=b^e.natAbs%n) (λx=>x.2.1) (b,e.natAbs,1%n) rfl ⟨rfl,hb0,hb1,Int.emod_nonneg _ (by omega),Int.emod_lt_of_pos _ hn,?_⟩ ?_
  ·show 1%n*b^e.natAbs%n=_
   rw [Pw.qH,Int.one_mul]
  rintro⟨b',l,r⟩ H1 ⟨rfl,h1,h2,h3,h4,h5⟩
  replace h1:0<=b':=h1
  replace h2:b'<n:=h2
  replace h3:0<=r:=h3
  replace h4:r<n:=h4
  replace h5:r*b'^l%n=b^e.natAbs%n:=h5
  k_data
  refine aH (λc=>?_) (λc=>?_)
  ·refine⟨_,λ_ _ z=>z,λσ' H2=>H2=H1/\σ'=[some (.int n),some (.int a),some (.int e),some (.int b'),some (.int l),some (.int (if l%2=1 then r*b'%n else r))],?_,?_⟩
   ·k_data
    refine aH (λc=>?_) (λc=>?_)
    ·exact⟨Bd.of (by omega) (by omega),Bd.of (by omega) (by omega),hn,by rw [if_pos (by omega)]⟩
    ·rw [if_neg (by omega)]
   rintro σ' H2 ⟨rfl,rfl⟩
   k_data
   have r0:0<=(if l%2=1 then r*b'%n else r)/\(if l%2=1 then r*b'%n else r)<n:=by
    split
    ·exact⟨Int.emod_nonneg _ (by omega),Int.emod_lt_of_pos _ hn⟩
    ·exact⟨h3,h4⟩
   refine⟨Bd.of (by omega) (by omega),Bd.of (by omega) (by omega),hn,eg (by decide),(b'*b'%n,l/2,if l%2=1 then r*b'%n else r),rfl,(by show (l:Int)/2=((l/2:Nat):Int);omega),rfl,Int.emod_nonneg _ (by omega),Int.emod_lt_of_pos _ hn,r0.1,r0.2,?_,?_⟩
   ·show (if l%2=1 then r*b'%n else r)*(b'*b'%n)^(l/2)%n=_
    rw [Pw.step]
    exact h5
   ·show l/2<l
    omega
  ·have l0:l=0:=by omega
   subst l0
   rw [Int.pow_zero,Int.mul_one] at h5
   have h6:r%n=r:=Int.emod_eq_of_lt h3 h4
   rw [<- h5,h6] at q
   exact q
def kL:Sp:=λvs H Q _=>∃ n k:Int,vs=[.int n,.int k]/\2<=n/\n<=10^120/\k<=10^120/\Ld.Inv n k/\∀ r,Ld.dH n r->Q (.int r) H
theorem bZ:az ["n","start","number"] ["n","start"] (ao (top 27)):=eZ
theorem pF (D:ax K mg "least_divisor_from" (top 27)):Callee P w K mg base bc 1 "least_divisor_from" ["n","start"] kL:=by
 refine cO D bZ (λf cdv A outer s H vs Q E hr h=>?_)
 obtain⟨n,k,rfl,hn,hn1,hk1,hk,q⟩:=h
 have nd:=bZ.nd
 refine⟨_,(ah (bU (i:=2) nd (pv 1)) (ah (bw PassesOwn.never (aw jQ (aj bb (pv 2) (pv 2)) (pv 0) (av _)) (ah (aZ (aw bO (aj ay (pv 0) (pv 2)) ae (av _)) (ak (aA (pv 2))) aF) (ak (eX (i:=2) nd rfl (Or.inl rfl) (fv (aw bO (pv 2) ae (av _)) ae ae) (gn i0))))) (ak (aA (pv 0))))),?_⟩
 show b9 _ _ _ [some (.int n),some (.int k),none] H
 k_data
 refine bF (α:=Int) (λx=>[some (.int n),some (.int k),some (.int x)]) (λx H1=>H1=H/\Ld.Inv n x/\x<=10^120+2) (λx=>(n+2-x).toNat) k rfl ⟨rfl,hk,by omega⟩ ?_
 rintro x H1 ⟨rfl,hx,hx1⟩
 have x2:=hx.two
 k_data
 refine⟨Bd.of (by omega) (by omega),Bd.of (by omega) (by omega),?_⟩
 refine aH (λc=>?_) (λc=>?_)
 ·have xn:x<=n:=by
   have:=Int.mul_le_mul_of_nonneg_left (show 1<=x by omega) (show 0<=x by omega)
   omega
  have st:=λz=>hx.step (k:=x) z
  refine⟨λσ' H'=>H'=H1/\∃ y,y=(x+if x=2 then 1 else 2)/\¬x∣n/\σ'=[some (V.int n),some (V.int k),some (V.int y)],?_,by omega,?_⟩
  ·rintro σ' H' ⟨rfl,y,hy,nd',rfl⟩
   refine⟨y,rfl,rfl,by rw [hy];exact st nd',?_,?_⟩
   ·split at hy<;>omega
   ·split at hy<;>omega
  refine aH (λc2=>?_) (λc2=>?_)
  ·exact q x (hx.found (Int.dvd_of_emod_eq_zero c2))
  have nd':¬x∣n:=λz=>c2 (Int.emod_eq_zero_of_dvd z)
  refine aH (λc3=>?_) (λc3=>?_)
  ·exact⟨rfl,_,by rw [if_pos c3],nd',rfl⟩
  ·exact⟨rfl,_,by rw [if_neg c3],nd',rfl⟩
 ·exact q n (hx.done hn (by omega))
def jo (c1 c2:Addr):Sp:=λvs H Q E=>∃ n:Int,vs=[.int n]/\(n<2->uK c1 H E)/\(10^9<n->uL c2 "part" (.int n) H E)/\(2<=n->n<=10^9->∀ r,Ld.dH n r->Q (.int r) H)
theorem dc:az ["n"] ["n"] (ao (top 26)):=eZ
theorem nz {c1 c2:Addr} (D:ax K mg "least_divisor" (top 26)) (c_least_divisor_from:Callee P w K mg base bc 1 "least_divisor_from" ["n","start"] kL) (x_NoNumber:oE K mg "NoNumber" c1) (x_TooFar:j7 P w K mg base "TooFar" c2 "part")
  (g_GREATEST:∃ t,mg "GREATEST"=some (.int 1000000000 t)):Callee P w K mg base (d7 P w) 3 "least_divisor" ["n"] (jo c1 c2):=by
 refine cX D dc (λf cdv A outer s H vs Q E hr h=>?_)
 obtain⟨n,rfl,q1,q2,q3⟩:=h
 obtain⟨tk,g_GREATEST⟩:=g_GREATEST
 have nd:=dc.nd
 refine⟨_,(ah (aZ (aw cT (pv 0) ae (av _)) (ak (cV (nM x_NoNumber rfl))) aF) (ah (aZ (aw cu (pv 0) (ly (v:=.int 1000000000) rfl g_GREATEST ⟨_,rfl⟩) (av _)) (ak (cV (jc x_TooFar (hr.mono (by decide)) rfl (aa (pv 0) ag)))) aF) (gh.j2 (ak (aA (dQ c_least_divisor_from hr aM (aa (pv 0) (aa ae ag)))))))),?_⟩
 show b9 _ _ _ [some (.int n)] H
 k_data
 refine aH (λc=>?_) (λc=>?_)
 ·exact λx hx=>iy x_NoNumber.cls (au.refl _) hx (q1 c)
 refine aH (λc'=>?_) (λc'=>?_)
 ·exact λx dx hx hdx ne=>iz x_TooFar.cls (au.refl _) hx hdx ne (q2 (by omega))
 exact⟨n,2,rfl,by omega,by omega,by omega,⟨by omega,.inl rfl,λd d0 d1=>by omega⟩,q3 (by omega) (by omega)⟩
def vc (p:Int × Int):PyData:=.tuple [.int p.1,.int p.2]
def gY (K:PySem.W.Frag) (c1 c2:Addr):Sp:=λvs H Q E=>∃ n:Int,vs=[.int n]/\(n<1->uK c1 H E)/\(10^9<n->uL c2 "part" (.int n) H E)/\(1<=n->n<=10^9->∀ ps us p H',Num.Part n ps->ps.length<=29->au H H'->H p=none->H' p=some (.lst us)->bo K H' (ps.map vc) us->Q (.ref p) H')
theorem iJ:az ["n","parting","left","prime","many"] ["n"] (ao (top 28)):=eZ
theorem me {c1 c2:Addr} (D:ax K mg "parted" (top 28)) (c_least_divisor_from:Callee P w K mg base bc 1 "least_divisor_from" ["n","start"] kL) (x_NoNumber:oE K mg "NoNumber" c1) (x_TooFar:j7 P w K mg base "TooFar" c2 "part")
  (g_GREATEST:∃ t,mg "GREATEST"=some (.int 1000000000 t)):Callee P w K mg base (d7 P w) 3 "parted" ["n"] (gY K c1 c2):=by
 refine cX D iJ (λf cdv A outer s H vs Q E hr h=>?_)
 obtain⟨n,rfl,q1,q2,q3⟩:=h
 obtain⟨tk,g_GREATEST⟩:=g_GREATEST
 have nd:=iJ.nd
 refine⟨_,(ah (aZ (aw cT (pv 0) ae (av _)) (ak (cV (nM x_NoNumber rfl))) aF) (ah (aZ (aw cu (pv 0) (ly (v:=.int 1000000000) rfl g_GREATEST ⟨_,rfl⟩) (av _)) (ak (cV (jc x_TooFar (hr.mono (by decide)) rfl (aa (pv 0) ag)))) aF) (gh.j2 (ah (bU (i:=1) nd (aU ag)) (ah (bU (i:=2) nd (pv 0)) (ah (bU (i:=3) nd ae) (ah (bw PassesOwn.never (aw cu (pv 2) ae (av _)) (ah (bU (i:=3) nd (dQ c_least_divisor_from hr aM (aa (pv 2) (aa (pv 3) ag)))) (ah (bU (i:=4) nd ae) (ah (bw PassesOwn.never (aw bO (aj ay (pv 2) (pv 3)) ae (av _)) (ah (eX (i:=2) nd rfl (Or.inl rfl) (pv 3) (gn gm)) (ak (eX (i:=4) nd rfl (Or.inl rfl) ae (gn i0))))) (ak (eE (iG PySem.F.plainAttrs_list PySem.F.slot_list_append PySem.F.type_list_append cS (pv 1) (aa (aq (aa (pv 3) (aa (pv 4) ag))) ag)))))))) (ak (aA (pv 1)))))))))),?_⟩
 show b9 _ _ _ [some (.int n),none,none,none,none] H
 k_data
 refine aH (λc=>?_) (λc=>?_)
 ·exact λx hx=>iy x_NoNumber.cls (au.refl _) hx (q1 c)
 refine aH (λc'=>?_) (λc'=>?_)
 ·exact λx dx hx hdx ne=>iz x_TooFar.cls (au.refl _) hx hdx ne (q2 (by omega))
 refine⟨by decide,λpp hpp=>?_⟩
 have n1:n<=10^9:=by omega
 refine bF (α:=Int × Int × Option V) (λx=>[some (.int n),some (.ref pp),some (.int x.1),some (.int x.2.1),x.2.2]) (λx H1=>au H H1/\∃(ps:List (Int × Int)) (us:List V),H1 pp=some (.lst us)/\bo K H1 (ps.map vc) us/\Num.Way n ps x.1 x.2.1) (λx=>x.1.toNat) (n,2,none) rfl ⟨ai hpp,[],[],af,rfl,.start (by omega)⟩ ?_
 rintro⟨left,prime,o⟩ H1 ⟨hs,ps,us,epp,hd,W⟩
 replace W:Num.Way n ps left prime:=W
 have l1:=W.pos
 have ln:left<=n:=by
  have z:=W.two
  have p0:=Num.aR (show (0:Int)<2 by decide) ps.length
  have:=Int.mul_le_mul_of_nonneg_right (show (1:Int)<=2^ps.length by omega) (show 0<=left by omega)
  omega
 k_data
 refine aH (λc3=>?_) (λc3=>?_)
 ·have pl:prime<=10^120:=by
   rcases (by omega:prime<=left∨left<prime) with z | z
   ·omega
   ·exact absurd (Int.dvd_refl left) (W.inv.no left (by omega) z)
  refine⟨_,λ_ _ z=>z,left,prime,rfl,by omega,by omega,pl,W.inv,λr hL=>?_⟩
  have r2:=hL.two
  have rl:=hL.le (by omega)
  refine bF (α:=Int × Nat) (λx=>[some (.int n),some (.ref pp),some (.int x.1),some (.int r),some (.int (x.2:Int))]) (λx H2=>H2=H1/\left=r^x.2*x.1/\1<=x.1/\x.1<=left) (λx=>x.1.toNat) (left,0) rfl ⟨rfl,by rw [Int.pow_zero,Int.one_mul],by omega,Int.le_refl _⟩ ?_
  rintro⟨lf,k⟩ H2 ⟨rfl,e1,e2,e3⟩
  replace e1:left=r^k*lf:=e1
  replace e2:1<=lf:=e2
  replace e3:lf<=left:=e3
  k_data
  refine⟨by omega,?_⟩
  refine aH (λc4=>?_) (λc4=>?_)
  ·obtain⟨q,hq⟩:=Int.dvd_of_emod_eq_zero c4
   have ed:lf/r=q:=by rw [hq];exact Int.mul_ediv_cancel_left _ (by omega)
   have q1':1<=q:=by
    rcases (by omega:q<=0∨1<=q) with z | z
    ·have:=Int.mul_nonpos_of_nonneg_of_nonpos (show 0<=r by omega) z
     omega
    ·exact z
   have ql:q<lf:=by
    rw [hq]
    have:=Int.mul_le_mul_of_nonneg_right r2 (show 0<=q by omega)
    omega
   refine⟨_,λ_ _ z=>z,by omega,Bd.of (by omega) (by omega),(q,k+1),?_,rfl,?_,q1',?_,?_⟩
   ·rw [ed];rfl
   ·rw [e1,hq,Int.pow_succ,Int.mul_assoc]
   ·show q<=left
    omega
   ·show q.toNat<lf.toNat
    omega
  ·have ng:¬r∣lf:=λz=>c4 (Int.emod_eq_zero_of_dvd z)
   have k1:1<=k:=by
    cases k with
    | zero=>rw [Int.pow_zero,Int.one_mul] at e1;exact absurd (e1▸hL.dv) ng
    | succ k=>omega
   have W2:=W.step n1 c3 hL e1 e2 k1 ng
   have len:=W.len n1
   have ul:us.length=ps.length:=by rw [hd.length,List.length_map]
   have lt:lf<left:=by
    obtain⟨k',rfl⟩:∃ k',k=k'+1:=⟨k-1,by omega⟩
    have p0:=Num.aR (show 0<r by omega) k'
    have h1:r<=r^(k'+1):=by
     rw [Int.pow_succ]
     have:=Int.mul_le_mul_of_nonneg_right (show 1<=r^k' by omega) (show 0<=r by omega)
     omega
    have:=Int.mul_le_mul_of_nonneg_right (show 2<=r^(k'+1) by omega) (show 0<=lf by omega)
    omega
   refine⟨.inl ⟨rfl,_,bf.of epp⟩,by show 2<=sizeLine;decide,λpt hpt=>?_⟩
   have s2:=ai (o:=.tup [V.int r,V.int (k:Int)]) hpt
   have npt:pp≠pt:=λz=>by rw [<- z,epp] at hpt;cases hpt
   have el:=s2 _ _ epp
   have et:upd H2 pt (.tup [V.int r,V.int (k:Int)]) pt=some (.tup [V.int r,V.int (k:Int)]):=af
   have hd2:=bo.same s2 _ hd
   have S2:=hs.trans s2
   generalize upd H2 pt _=H3 at *
   refine⟨pp,us,.ref pt,rfl,rfl,el,Nat.lt_of_le_of_lt (show us.length<=29 by omega) (by decide),(lf,r,some (.int (k:Int))),rfl,rfl,rfl,S2.upd hpp,⟨ps++[(r,(k:Int))],us++[.ref pt],af,?_,W2⟩,?_⟩
   ·rw [List.map_append]
    refine bo.append (bo.but el (λb o ne h=>by rw [ar ne];exact h) _ (jM (λ_=>rfl) ps) hd2) (.one (dv.tup (xs:=[V.int r,V.int (k:Int)]) ?_ ⟨_,_,rfl,rfl,.one rfl⟩))
    rw [ar (Ne.symm npt)]
    exact et
   ·show lf.toNat<left.toNat
    omega
 ·have z:left=1:=by omega
  subst z
  exact q3 (by omega) n1 ps us pp H1 W.done (W.len n1) hs hpp epp hd
end
end K
namespace L2
open PySem PySem.Spec PyProof.Rows
theorem dw {X:Cx} (K:PySem.W.Frag) (h:X.K=K):uC X (sd K):=h▸aO
theorem pS {X:Cx} {pos:Pos} {es:List Expr} {k:Nat} {t:qg} {n:Nat} (K:PySem.W.Frag) (e:X.K=K) (hc:X.calm=true) (h:sP X es t)
  (hn:(assignEach es X.env).length=n:=by rfl) (hst:(assignEach es X.env).findIdx? (·.1)=none:=by rfl):PG X (.Tuple es k pos) (rE K n t):=e▸dC hc h hn hst
end L2
namespace K
open PySem PySem.Spec PyProof.Rows L2
section
variable {P:Program} {w:World} {K:PySem.W.Frag} {mg:Str->Option Value} {base:Heap}
theorem aS {X:Cx}:Passes (d7 P w) X E0:=by
 intro pins σ H1 s1 e s' I hq
 obtain⟨x,C,T,dd,H',_,_,_,_,_,_,_,_,_,_,z⟩:=hq
 exact z.elim
theorem br {H:Hp} {q:Addr} {xs:List V} {k:Int} {v:V} {Q:VK} (t:aT K H q xs) (e:ka xs k=some v) (h:Q v H):sd K (.ref q) (.int k) H Q:=⟨q,xs,k,v,rfl,rfl,t,e,h⟩
theorem ip {x:V} {r:List V}:ka (x::r) 0=some x:=by
 unfold ka oX
 simp
def v5 (row:PyData) (q:Int):Prop:=∃ ds es,row=.tuple (.tuple (.int q::ds)::es)
def uN (rows:List PyData) (qs:List Int):Prop:=rows.length=qs.length/\∀(i:Nat) (row:PyData),rows[i]?=some row->∃ q,qs[i]?=some q/\v5 row q
def dE (K:PySem.W.Frag):Sp:=λvs H Q _=>∃ v rows qs,vs=[v]/\dv K H (.tuple rows) v/\uN rows qs/\rows.length<=10^6/\∀ p H',au H H'->H p=none->H' p=some (.lst (qs.map V.int))->Q (.ref p) H'
theorem fw:az ["parts"] ["parts"] (ao (top 12)):=eZ
theorem jP (D:ax K mg "primes_in" (top 12)):Callee P w K mg base bc 1 "primes_in" ["parts"] (dE K):=by
 refine cO D fw (λf cdv A outer s H vs Q E hr h=>?_)
 obtain⟨v,rows,qs,rfl,hd,⟨hl,hq⟩,h6,q⟩:=h
 have nd:=fw.nd
 refine⟨_,(ak (aA (fS rfl (qi (N':=["row"]) (js:=[none]) rfl rfl) (fH (pv 0)) (λ_ _ _ _=>(aD (i:=0) (show List.Nodup [("row":Str)] from by decide +kernel) rfl (Or.inl rfl) (.inr rfl))) (λ_ _ _ _=>cw) (λ_ _ _ _=>(aB (dw K rfl) (aB (dw K rfl) (pv 0) ae (λ_ _=>rfl)) ae (λ_ _=>rfl)))))),?_⟩
 show ie _ _ [some v] H
 obtain⟨p,xs,rfl,hS,ht⟩:=hd
 k_data
 have xl:=ht.length
 refine⟨⟨_,hS⟩,?_⟩
 refine eh (xs:=xs) (λi zs H3=>H3=H/\zs=(qs.take i).map V.int) ⟨rfl,rfl⟩ (Nat.le_trans (by omega) (show 10^6<=sizeLine by decide)) (λi zs H3 hi ⟨e1,e2⟩=>⟨by rw [e1];exact hS,by rw [e2];simp;omega⟩) ?_ ?_
 ·rintro i x zs H3 hx ⟨rfl,rfl⟩
  obtain⟨d,hd,hv⟩:=ht.get hx
  obtain⟨q',hq',ds,es,rfl⟩:=hq i d hd
  obtain⟨p1,x1,rfl,t1,u,r1,rfl,hv2,_⟩:=hv
  obtain⟨p2,x2,rfl,t2,u',r2,rfl,hv3,_⟩:=hv2
  cases hv3
  show dF 0 _ [none] _ _
  k_data
  refine⟨True.intro,br t1 ip (br t2 ip ⟨rfl,?_⟩)⟩
  rw [List.take_add_one,hq',List.map_append]
  rfl
 ·rintro zs H3 p3 ⟨rfl,rfl⟩ hp3
  rw [show xs.length=qs.length by omega,List.take_length]
  exact q p3 _ (ai hp3) hp3 af
def sO (n a e:Int) (qs:List Int):Prop:=a^e.toNat%n=1/\∀ q∈qs,a^(e/q).toNat%n≠1
def fK (K:PySem.W.Frag):Sp:=λvs H Q _=>∃(n a e:Int) (p:Addr) (qs:List Int),vs=[.int n,.int a,.int e,.ref p]/\0<n/\n<=10^120/\0<=e/\e<=10^120/\bf K H p (qs.map V.int)/\(∀ q∈qs,0<q/\q<=10^120)/\qs.length<=10^6/\∀ b H',(b=true↔sO n a e qs)->au H H'->Q (.bl b) H'
theorem fV:az ["n","a","e","primes"] ["n","a","e","primes"] (ao (top 15)):=eZ
theorem kB {C:Addr} (D:ax K mg "is_least" (top 15)) (c_power:Callee P w K mg base (d7 P w) 4 "power" ["n","a","e"] (lL C)) (n_all:mg "all"=none):Callee P w K mg base bc 5 "is_least" ["n","a","e","primes"] (fK K):=by
 refine cO D fV (λf cdv A outer s H vs Q E hr h=>?_)
 obtain⟨n,a,e,p,qs,rfl,hn,hn1,he,he1,hS,hq,hl,q⟩:=h
 have nd:=fV.nd
 refine⟨_,(ak (aA (bS (bB bO (dQ c_power hr aS (aa (pv 0) (aa (pv 1) (aa (pv 2) ag)))) ae (av _)) (dB (aE (mO rfl) rfl n_all L2.boot_all (aa (fS rfl (qi (N':=["prime","n","a","e"]) (js:=[none,some 0,some 1,some 2]) rfl rfl) (eC (pv 3)) (λ_ _ _ _=>(aD (i:=0) (show List.Nodup [("prime":Str),("n":Str),("a":Str),("e":Str)] from by decide +kernel) rfl (Or.inl rfl) (.inr rfl))) (λ_ _ _ _=>cw) (λ_ _ _ _=>(bB gG (dQ c_power hr aS (aa (pv 1) (aa (pv 2) (aa (aj aL (pv 3) (pv 0)) ag)))) ae (av _)))) ag)))))),?_⟩
 show ie _ _ [some (.int n),some (.int a),some (.int e),some (.ref p)] H
 k_data
 refine⟨n,a,e,rfl,hn,hn1,λ_ H1 s1=>?_,λz=>absurd z (by omega)⟩
 have hS1:=hS.same s1
 k_data
 refine aH (λc=>?_) (λc=>?_)
 ·refine⟨⟨_,hS1⟩,?_⟩
  refine dj (xs:=qs.map V.int) (λi zs H3=>au H H3/\zs=((qs.take i).map λq=>decide (a^(e/q).toNat%n≠1)).map V.bl) ⟨s1,rfl⟩ (by rw [List.length_map];exact Nat.le_trans hl (show 10^6<=sizeLine by decide)) (λi zs H3 hi ⟨e1,e2⟩=>⟨hS.same e1,by rw [e2];simp;omega⟩) ?_ ?_
  ·rintro i x zs H3 hx ⟨s3,rfl⟩
   rw [List.getElem?_map] at hx
   obtain⟨y,hy,rfl⟩:=Option.map_eq_some_iff.mp hx
   have my:=hq y (List.mem_of_getElem? hy)
   show dF 0 _ [none,some (.int n),some (.int a),some (.int e)] _ _
   k_data
   refine⟨⟨rfl,rfl,rfl,True.intro⟩,my.1,Bd.of (by omega) (by omega),n,a,e/y,rfl,hn,hn1,λ_ H4 s4=>⟨cQ,?_⟩,λz=>absurd (Int.ediv_nonneg he (show 0<=y by omega)) (by omega)⟩
   refine⟨s3.trans s4,?_⟩
   rw [List.take_add_one,hy,List.map_append,List.map_append]
   simp
  ·rintro zs H3 p3 ⟨s3,rfl⟩ hp3
   rw [List.length_map,List.take_length]
   refine rf (bs:=qs.map λq=>decide (a^(e/q).toNat%n≠1)) (bf.of af) ?_
   refine q _ _ ?_ (s3.trans (ai hp3))
   rw [List.all_eq_true]
   constructor
   ·intro h
    refine⟨c,λy hy=>?_⟩
    have:=h _ (List.mem_map.mpr ⟨y,hy,rfl⟩)
    simpa using this
   ·intro h b hb
    obtain⟨y,hy,rfl⟩:=List.mem_map.mp hb
    simpa using h.2 y hy
 ·exact q false _ ⟨λz=>(by cases z),λz=>absurd z.1 c⟩ s1
theorem j9 {n x:Int} (hn:2<=n):x%n=1↔Num.Al n x 1:=by
 constructor
 ·intro h
  refine⟨x/n,?_⟩
  have:=Int.emod_add_mul_ediv x n
  omega
 ·rintro⟨k,hk⟩
  rw [show x=1+n*k by omega,Int.add_mul_emod_self_left]
  exact Int.emod_eq_of_lt (by omega) (by omega)
theorem pB {n a e:Int} {ps:List (Int × Int)} (hn:2<=n) (h:Num.Part e ps) (he:1<=e):sO n a e (ps.map (·.1))↔Num.Ord n a e.toNat:=by
 rw [<- Num.nH h he]
 unfold sO
 rw [j9 hn]
 constructor
 ·exact fun⟨h1,h2⟩=>⟨h1,λq hq z=>h2 q hq ((j9 hn).mpr z)⟩
 ·exact fun⟨h1,h2⟩=>⟨h1,λq hq z=>h2 q hq ((j9 hn).mp z)⟩
theorem dN (P:Int->Prop) {g:Int} (h1:1<=g) (h:P g):∃ m,1<=m/\m<=g/\P m/\∀ a,1<=a->a<m->¬P a:=by
 have:∀(k:Nat) (g:Int),g.toNat=k->1<=g->P g->∃ m,1<=m/\m<=g/\P m/\∀ a,1<=a->a<m->¬P a:=by
  intro k
  induction k using Nat.strongRecOn with
  | ind k ih =>
   intro g hk h1 hg
   by_cases c:∃ a,1<=a/\a<g/\P a
   ·obtain⟨a,a1,a2,a3⟩:=c
    obtain⟨m,m1,m2,m3,m4⟩:=ih a.toNat (by omega) a rfl a1 a3
    exact⟨m,m1,by omega,m3,m4⟩
   ·exact⟨g,h1,Int.le_refl _,hg,λa a1 a2 a3=>c ⟨a,a1,a2,a3⟩⟩
 exact this _ g rfl h1 h
theorem tH {p:Int} (hp:Num.Pm p):∃ g,Num.LF p g:=by
 obtain⟨g,g1,g2,g3⟩:=Num.oR hp
 obtain⟨m,m1,m2,m3,m4⟩:=dN (λa=>Num.Ord p a (p-1).toNat) g1 g3
 exact⟨m,m1,by omega,m3,m4⟩
def dZ (K:PySem.W.Frag):Sp:=λvs H Q _=>∃(n:Int) (p:Addr) (ps:List (Int × Int)),vs=[.int n,.ref p]/\Num.Pm n/\n<=10^9/\Num.Part (n-1) ps/\ps.length<=29/\bf K H p (ps.map λx=>V.int x.1)/\∀ g H',Num.LF n g->au H H'->Q (.int g) H'
theorem pP {n:Int} {ps:List (Int × Int)} (h:Num.Part n ps) (hn:1<=n):∀ q∈ps.map (·.1),2<=q/\q<=n:=λq hq=>by
 obtain⟨x,hx,rfl⟩:=List.mem_map.mp hq
 obtain⟨o1,o2,_⟩:=h.ok x hx
 have:=Num.cq hx o2
 rw [h.prod] at this
 exact⟨o1.two,Int.le_of_dvd (by omega) this⟩
theorem eV:az ["p","primes","full"] ["p","primes"] (ao (top 32)):=eZ
theorem i7 (D:ax K mg "least_full" (top 32)) (c_is_least:Callee P w K mg base bc 5 "is_least" ["n","a","e","primes"] (fK K)):Callee P w K mg base bc 6 "least_full" ["p","primes"] (dZ K):=by
 refine cO D eV (λf cdv A outer s H vs Q E hr h=>?_)
 obtain⟨n,p,ps,rfl,hp,hn,hP,hl,hS,q⟩:=h
 have n2:=hp.two
 obtain⟨g,G⟩:=tH hp
 have g1:=G.one
 have g2:=G.lt
 have nd:=eV.nd
 refine⟨_,(ah (bU (i:=2) nd ae) (ah (bw PassesOwn.never (bE (aX (dQ c_is_least hr aM (aa (pv 0) (aa (pv 2) (aa (aj aW (pv 0) ae) (aa (pv 1) ag))))) (λ_=>rfl))) (ak (eX (i:=2) nd rfl (Or.inl rfl) ae (gn i0)))) (ak (aA (pv 2))))),?_⟩
 show b9 _ _ _ [some (.int n),some (.ref p),none] H
 k_data
 refine bF (α:=Int) (λx=>[some (.int n),some (.ref p),some (.int x)]) (λx H1=>au H H1/\1<=x/\x<=g) (λx=>(g-x).toNat) 1 rfl ⟨au.refl _,Int.le_refl _,g1⟩ ?_
 rintro x H1 ⟨s1,x1,x2⟩
 replace x1:1<=x:=x1
 replace x2:x<=g:=x2
 k_data
 refine⟨n,x,n-1,p,ps.map (·.1),rfl,by omega,by omega,by omega,by omega,?_,λy hy=>?_,?_,λb H2 hb s2=>?_⟩
 ·rw [List.map_map];exact hS.same s1
 ·have:=pP hP (by omega) y hy
  omega
 ·rw [List.length_map];exact Nat.le_trans hl (by decide)
 rw [pB n2 hP (by omega)] at hb
 refine⟨b,bp.mpr rfl,?_⟩
 cases b
 ·have nx:¬Num.Ord n x (n-1).toNat:=λz=>by have:=hb.mpr z;cases this
  have ne:x≠g:=λz=>nx (z▸G.ord)
  refine⟨_,λ_ _ z=>z,x+1,rfl,s1.trans s2,by omega,by omega,by omega⟩
 ·have hx:=hb.mp rfl
  have xg:x=g:=by
   rcases (by omega:x=g∨x<g) with z | z
   ·exact z
   ·exact absurd hx (G.no x x1 z)
  rw [xg]
  exact q g H2 G (s1.trans s2)
theorem jU {ps:List (Int × Int)} {p:Int × Int} {ds ds':Nat->PyData} (h:∀ j,j<ps.length->ds' j=ds j):Num.rowsOf (ps++[p]) ds'=Num.rowsOf ps ds++[.tuple [ds' ps.length,.int p.2]]:=by
 unfold Num.rowsOf
 rw [List.length_append,List.length_singleton,List.range_succ,List.map_append]
 congr 1
 ·refine List.map_congr_left λj hj=>?_
  have:=List.mem_range.mp hj
  rw [h j this,List.getD_eq_getElem?_getD,List.getD_eq_getElem?_getD,List.getElem?_append_left this]
 ·simp
theorem mZ {ps:List (Int × Int)} {ds:Nat->PyData} (h:∀ i q k,ps[i]?=some (q,k)->Num.fO q (ds i)):uN (Num.rowsOf ps ds) (ps.map (·.1)):=by
 refine⟨by rw [Num.cD,List.length_map],λi row hi=>?_⟩
 have hl:=(List.getElem?_eq_some_iff.mp hi).1
 rw [Num.cD] at hl
 have hg:=List.getElem?_eq_getElem hl
 rw [Num.kK hg] at hi
 obtain⟨g,rows,e⟩:=(h i _ _ hg).head
 exact⟨ps[i].1,by rw [List.getElem?_map,hg];rfl,[.int g,.tuple rows],[.int ps[i].2],by rw [<- Option.some.inj hi,e];rfl⟩
theorem rA {H:Hp} {q k:Int} {v:V} (h:dv K H (vc (q,k)) v):∃ p,v=.ref p/\aT K H p [.int q,.int k]:=by
 obtain⟨p,xs,rfl,h1,x,r,rfl,d1,y,r',rfl,d2,h4⟩:=h
 cases h4
 cases d1
 cases d2
 exact⟨p,rfl,h1⟩
def eF (K:PySem.W.Frag) (L:Nat):Sp:=λvs H Q _=>∃ n:Int,vs=[.int n]/\Num.Pm n/\n<=10^9/\Num.Ht L n/\∀ d v H',Num.fO n d->au H H'->dv K H' d v->Q v H'
def eG (K:PySem.W.Frag) (L:Nat):Sp:=λvs H Q _=>∃ n:Int,vs=[.int n]/\1<=n/\n<=10^9/\(∀ q,Num.Pm q->q∣n->Num.Ht L q)/\∀ ps ds v H',Num.Part n ps->ps.length<=29->(∀ i q k,ps[i]?=some (q,k)->Num.fO q (ds i))->au H H'->dv K H' (.tuple (Num.rowsOf ps ds)) v->Q v H'
theorem cE:az ["n","least","parts"] ["n"] (ao (top 30)):=eZ
theorem md {L:Nat} {c1 c2 c3:Addr} (D:ax K mg "prime_paper" (top 30)) (c_least_divisor:Callee P w K mg base (d7 P w) 3 "least_divisor" ["n"] (jo c1 c2)) (c_parting_paper:Callee P w K mg base bc (2*L+8) "parting_paper" ["n"] (eG K L)) (c_least_full:Callee P w K mg base bc 6 "least_full" ["p","primes"] (dZ K)) (c_primes_in:Callee P w K mg base bc 1 "primes_in" ["parts"] (dE K)) (x_NoPrime:j7 P w K mg base "NoPrime" c3 "divisor"):Callee P w K mg base (d7 P w) (2*L+9) "prime_paper" ["n"] (eF K (L+1)):=by
 refine cX D cE (λf cdv A outer s H vs Q E hr h=>?_)
 obtain⟨n,rfl,hp,hn,hH,q⟩:=h
 have n2:=hp.two
 have nd:=cE.nd
 refine⟨_,(ah (bU (i:=1) nd (aG c_least_divisor (hr.mono (by omega)) rfl aS (aa (pv 0) ag))) (ah (aZ (aw cT (pv 1) (pv 0) (av _)) (ak (cV (jc x_NoPrime (hr.mono (by omega)) rfl (aa (pv 1) ag)))) aF) (gh.j2 (ah (bU (i:=2) nd (aG c_parting_paper (hr.mono (by omega)) rfl aM (aa (aj aW (pv 0) ae) ag))) (ak (aA (aq (aa (pv 0) (aa (aG c_least_full (hr.mono (by omega)) rfl aM (aa (pv 0) (aa (aG c_primes_in (hr.mono (by omega)) rfl aM (aa (pv 2) ag)) ag))) (aa (pv 2) ag)))))))))),?_⟩
 show b9 _ _ _ [some (.int n),none,none] H
 k_data
 refine⟨n,rfl,λz=>absurd z (by omega),λz=>absurd z (by omega),λ_ _ r hL=>⟨r,rfl,?_⟩⟩
 have rn:r=n:=by
  have:=hL.le (by omega)
  rcases (by omega:r<n∨r=n) with z | z
  ·exact absurd hL.dv (hp.no r hL.two z)
  ·exact z
 rw [if_neg (by omega)]
 refine⟨n-1,rfl,by omega,by omega,hH,λps ds v H1 hP hl hds s1 hv=>?_⟩
 refine⟨v,Num.rowsOf ps ds,ps.map (·.1),rfl,hv,mZ hds,by rw [Num.cD];exact Nat.le_trans hl (by decide),λp H2 s2 f2 h2=>?_⟩
 rw [List.map_map] at h2
 refine⟨n,p,ps,rfl,hp,hn,hP,hl,bf.of h2,λg H3 hg s3=>⟨by show 3<=sizeLine;decide,λp3 hp3=>?_⟩⟩
 have s4:=ai (o:=.tup [V.int n,V.int g,v]) hp3
 exact q _ _ _ (.mk n g ps ds hp hn hg hP hl hds) (((s1.trans s2).trans s3).trans s4) (dv.tup af ⟨_,_,rfl,rfl,_,_,rfl,rfl,.one (dv.same ((s2.trans s3).trans s4) _ hv)⟩)
theorem df:az ["n"] ["n"] (ao (top 31)):=eZ
theorem fR {L:Nat} {c1 c2:Addr} (D:ax K mg "parting_paper" (top 31)) (c_parted:Callee P w K mg base (d7 P w) 3 "parted" ["n"] (gY K c1 c2)) (c_prime_paper:Callee P w K mg base (d7 P w) (2*L+7) "prime_paper" ["n"] (eF K L)) (n_tuple:mg "tuple"=none):Callee P w K mg base bc (2*L+8) "parting_paper" ["n"] (eG K L):=by
 refine cO D df (λf cdv A outer s H vs Q E hr h=>?_)
 obtain⟨n,rfl,n1,n9,hH,q⟩:=h
 have nd:=df.nd
 refine⟨_,(ak (aA (bH b5 rfl n_tuple L2.boot_tuple (aa (fS rfl (qi (N':=["prime","many"]) (js:=[none,none]) rfl rfl) (eC (aG c_parted (hr.mono (by omega)) rfl aS (aa (pv 0) ag))) (λ_ _ _ _=>(pS K rfl (n:=2) rfl (aI (aD (i:=0) (show List.Nodup [("prime":Str),("many":Str)] from by decide +kernel) rfl (Or.inl rfl) (.inr rfl)) (aI (aD (i:=1) (show List.Nodup [("prime":Str),("many":Str)] from by decide +kernel) rfl (Or.inl rfl) (.inr rfl)) cn)))) (λ_ _ _ _=>cw) (λ_ _ _ _=>(aq (aa (aG c_prime_paper (hr.mono (by omega)) rfl aS (aa (pv 0) ag)) (aa (pv 1) ag))))) ag)))),?_⟩
 show ie _ _ [some (.int n)] H
 k_data
 refine⟨n,rfl,λz=>absurd z (by omega),λz=>absurd z (by omega),λ_ _ ps us p H1 hP hl s1 f1 h1 hd=>⟨p,rfl,⟨_,bf.of h1⟩,?_⟩⟩
 have ul:us.length=ps.length:=by rw [hd.length,List.length_map]
 refine dj (xs:=us) (λi zs H3=>au H1 H3/\∃ ds,(∀ j q k,(ps.take i)[j]?=some (q,k)->Num.fO q (ds j))/\bo K H3 (Num.rowsOf (ps.take i) ds) zs) ⟨au.refl _,λ_=>.none,λj q k z=>by simp at z,rfl⟩ (by rw [ul];exact Nat.le_trans hl (by decide)) (λi zs H3 hi ⟨e1,ds,e2,e3⟩=>⟨bf.of (e1 _ _ h1),by rw [e3.length,Num.cD,List.length_take];omega⟩) ?_ ?_
 ·rintro i x zs H3 hx ⟨s3,ds,hds,hz⟩
  obtain⟨d,hd',hv⟩:=hd.get hx
  rw [List.getElem?_map] at hd'
  obtain⟨⟨q',k'⟩,hy,rfl⟩:=Option.map_eq_some_iff.mp hd'
  obtain⟨pt,rfl,tt⟩:=rA hv
  have hok:=hP.ok _ (List.mem_of_getElem? hy)
  have hdv:q'∣n:=by
   have:=Num.cq (List.mem_of_getElem? hy) hok.2.1
   rwa [hP.prod] at this
  have ql:q'<=n:=Int.le_of_dvd (by omega) hdv
  show rE K 2 _ _ [none,none] _ _
  refine⟨pt,_,rfl,tt.same s3,rfl,?_⟩
  k_data
  refine⟨True.intro,q',rfl,hok.1,by omega,hH q' hok.1 hdv,λd v H4 hp4 s4 hv4=>⟨by show 2<=sizeLine;decide,λp5 hp5=>?_⟩⟩
  have s5:=ai (o:=.tup [v,V.int k']) hp5
  have tk:ps.take (i+1)=ps.take i++[(q',k')]:=by rw [List.take_add_one,hy];rfl
  have il:i<ps.length:=(List.getElem?_eq_some_iff.mp hy).1
  have tl:(ps.take i).length=i:=by rw [List.length_take];omega
  refine⟨(s3.trans s4).trans s5,λj=>if j=i then d else ds j,λj q k hj=>?_,?_⟩
  ·rw [tk] at hj
   rcases (by omega:j<i∨j=i∨i<j) with z | z | z
   ·rw [List.getElem?_append_left (by omega)] at hj
    show Num.fO q (if j=i then d else ds j)
    rw [if_neg (by omega)]
    exact hds j q k hj
   ·subst z
    rw [List.getElem?_append_right (by omega),tl,Nat.sub_self] at hj
    show Num.fO q (if j=j then d else ds j)
    rw [if_pos rfl]
    cases hj
    exact hp4
   ·rw [List.getElem?_eq_none (by simp;omega)] at hj
    cases hj
  ·rw [tk,jU (ds:=ds) (λj hj=>if_neg (by omega)),tl,if_pos rfl]
   exact bo.append (bo.same (s4.trans s5) _ hz) (.one (dv.tup af ⟨_,_,rfl,dv.same s5 _ hv4,.one rfl⟩))
 ·rintro zs H3 p3 ⟨s3,ds,hds,hz⟩ hp3
  rw [ul,List.take_length] at hds hz
  have s4:=ai (o:=.lst zs) hp3
  refine⟨p3,rfl,zs,.inl ⟨bf.of af,λl hl'=>?_⟩⟩
  generalize upd H3 p3 _=H4 at *
  have s5:=ai (o:=.tup zs) hl'
  exact q ps ds _ _ hP hl hds (((s1.trans s3).trans s4).trans s5) (dv.tup af (bo.same (s4.trans s5) _ hz))
theorem iE {L:Nat} (D:ax K mg "prime_paper" (top 30)):Callee P w K mg base (d7 P w) 7 "prime_paper" ["n"] (eF K 0):=by
 refine cX D cE (λf cdv A outer s H vs Q E hr h=>?_)
 obtain⟨n,rfl,hp,hn,hH,q⟩:=h
 exact hH.elim
theorem iF {c1 c2 c3:Addr} (D1:ax K mg "prime_paper" (top 30)) (D2:ax K mg "parting_paper" (top 31)) (c_least_divisor:Callee P w K mg base (d7 P w) 3 "least_divisor" ["n"] (jo c1 c2)) (c_parted:Callee P w K mg base (d7 P w) 3 "parted" ["n"] (gY K c1 c2)) (c_least_full:Callee P w K mg base bc 6 "least_full" ["p","primes"] (dZ K)) (c_primes_in:Callee P w K mg base bc 1 "primes_in" ["parts"] (dE K)) (x_NoPrime:j7 P w K mg base "NoPrime" c3 "divisor") (n_tuple:mg "tuple"=none):∀ L:Nat,Callee P w K mg base (d7 P w) (2*L+7) "prime_paper" ["n"] (eF K L)/\Callee P w K mg base bc (2*L+8) "parting_paper" ["n"] (eG K L)
 | 0=>⟨iE (L:=0) D1,fR (L:=0) D2 c_parted (iE (L:=0) D1) n_tuple⟩
 | L+1=>by
  have h:=iF D1 D2 c_least_divisor c_parted c_least_full c_primes_in x_NoPrime n_tuple L
  have a:=md D1 c_least_divisor h.2 c_least_full c_primes_in x_NoPrime
  have a':Callee P w K mg base (d7 P w) (2*(L+1)+7) "prime_paper" ["n"] (eF K (L+1)):=a.mono (by omega)
  exact⟨a',fR D2 c_parted a' n_tuple⟩
def d5 (K:PySem.W.Frag):Sp:=λvs H Q _=>∃ n:Int,vs=[.int n]/\Num.Pm n/\n<=10^9/\∀ d v H',Num.fO n d->au H H'->dv K H' d v->Q v H'
theorem rZ (h:Callee P w K mg base (d7 P w) (2*30+7) "prime_paper" ["n"] (eF K 30)):Callee P w K mg base (d7 P w) 67 "prime_paper" ["n"] (d5 K) :=
 Callee.imp h λvs H Q E z=>by
  obtain⟨n,h1,h2,h3,q⟩:=z
  exact⟨n,h1,h2,h3,Num.kn h2 h3,q⟩
def sk (K:PySem.W.Frag):Sp:=λvs H Q _=>∃ d v,vs=[v]/\dv K H d v/\Q (.bl (qx d)) H
theorem fW:az ["thing"] ["thing"] (ao (top 10)):=eZ
theorem va (D:ax K mg "is_whole" (top 10)) (n_isinstance:mg "isinstance"=none) (n_int:mg "int"=none) (n_bool:mg "bool"=none):Callee P w K mg base bc 1 "is_whole" ["thing"] (sk K):=by
 refine cO D fW (λf cdv A outer s H vs Q E hr h=>?_)
 obtain⟨d,v,rfl,hd,q⟩:=h
 have nd:=fW.nd
 refine⟨_,(ak (aA (bS (aE bA rfl n_isinstance PyProof.Rows.boot_isinstance (aa (pv 0) (aa (b6 (v:=.ty "int") rfl n_int L2.boot_int rfl) ag))) (dB (kF (aE bA rfl n_isinstance PyProof.Rows.boot_isinstance (aa (pv 0) (aa (b6 (v:=.ty "bool") rfl n_bool L2.boot_bool rfl) ag)))))))),?_⟩
 show ie _ _ [some v] H
 k_data
 refine lu hd ?_
 k_data
 refine aH (λc=>?_) (λc=>?_)
 ·refine gA hd ?_
  k_data
  cases d<;>first | exact q | simp [qx,tF] at c
 ·cases d<;>first | exact q | exact absurd rfl c
def gy:PyData->Nat->Bool
 | .tuple ds,m=>decide (ds.length=m)
 | _,_=>false
def nZ (K:PySem.W.Frag):Sp:=λvs H Q _=>∃ d v,∃ m:Nat,vs=[v,.int m]/\dv K H d v/\Q (.bl (gy d m)) H
theorem dX:az ["thing","many"] ["thing","many"] (ao (top 11)):=eZ
theorem rV (D:ax K mg "is_tuple_of" (top 11)) (n_isinstance:mg "isinstance"=none) (n_tuple:mg "tuple"=none) (n_len:mg "len"=none):Callee P w K mg base bc 1 "is_tuple_of" ["thing","many"] (nZ K):=by
 refine cO D dX (λf cdv A outer s H vs Q E hr h=>?_)
 obtain⟨d,v,m,rfl,hd,q⟩:=h
 have nd:=dX.nd
 refine⟨_,(ak (aA (bS (aE bA rfl n_isinstance PyProof.Rows.boot_isinstance (aa (pv 0) (aa (b6 (v:=.ty "tuple") rfl n_tuple L2.boot_tuple rfl) ag))) (dB (bB bO (aE bN rfl n_len PySem.boot_len (aa (pv 0) ag)) (pv 1) (av _)))))),?_⟩
 show ie _ _ [some v,some (.int m)] H
 k_data
 refine fo hd ?_
 k_data
 refine aH (λc=>?_) (λc=>?_)
 ·cases d with
  | tuple ds =>
   obtain⟨p,xs,rfl,hS,ht⟩:=hd
   refine cI hS ⟨cQ,?_⟩
   have:decide (V.int (xs.length:Int)=V.int (m:Int))=gy (.tuple ds) m:=by
    show _=decide (ds.length=m)
    rw [ht.length]
    refine decide_eq_decide.mpr ⟨λz=>?_,λz=>by rw [z]⟩
    have:=V.int.inj z
    omega
   rw [this]
   exact q
  | _=>exact absurd c (by simp [u0])
 ·cases d<;>first | exact q | exact absurd rfl c
theorem ez {d:PyData} (h:qx d=true):∃ i,d=.int i:=by
 cases d<;>first | exact⟨_,rfl⟩ | cases h
theorem f7 {d:PyData} (h:u0 d=true):∃ i,d=.tuple i:=by
 cases d<;>first | exact⟨_,rfl⟩ | cases h
def PF (d:PyData):Prop:=∃(p g:Int) (rows:List PyData),d=.tuple [.int p,.int g,.tuple rows]/\2<=p
def sj (K:PySem.W.Frag):Sp:=λvs H Q _=>∃ d v,vs=[v]/\dv K H d v/\∀ b:Bool,(b=true↔PF d)->Q (.bl b) H
theorem mU {H:Hp} {d1 d2 d3:PyData} {v:V} (h:dv K H (.tuple [d1,d2,d3]) v):∃ p x1 x2 x3,v=.ref p/\aT K H p [x1,x2,x3]/\dv K H d1 x1/\dv K H d2 x2/\dv K H d3 x3:=by
 obtain⟨p,xs,rfl,h1,x1,r1,rfl,e1,x2,r2,rfl,e2,x3,r3,rfl,e3,z⟩:=h
 cases z
 exact⟨p,x1,x2,x3,rfl,h1,e1,e2,e3⟩
theorem tG {ds:List PyData} (h:ds.length=3):∃ a b c,ds=[a,b,c]:=by
 match ds,h with
 | [a,b,c],_=>exact⟨a,b,c,rfl⟩
theorem cZ:az ["thing","p","full","parts"] ["thing"] (ao (top 20)):=eZ
theorem tN (D:ax K mg "is_paper_form" (top 20)) (c_is_whole:Callee P w K mg base bc 1 "is_whole" ["thing"] (sk K)) (c_is_tuple_of:Callee P w K mg base bc 1 "is_tuple_of" ["thing","many"] (nZ K)) (n_isinstance:mg "isinstance"=none) (n_tuple:mg "tuple"=none):Callee P w K mg base bc 2 "is_paper_form" ["thing"] (sj K):=by
 refine cO D cZ (λf cdv A outer s H vs Q E hr h=>?_)
 obtain⟨d,v,rfl,hd,q⟩:=h
 have nd:=cZ.nd
 refine⟨_,(ah (aZ (bE (aX (dQ c_is_tuple_of hr aM (aa (pv 0) (aa ae ag))) (λ_=>rfl))) (ak (aA bT)) aF) (ah (dR (pv 0) (dC (n:=3) rfl (aI (aD (i:=1) nd rfl (Or.inl rfl) (.inr rfl)) (aI (aD (i:=2) nd rfl (Or.inl rfl) (.inr rfl)) (aI (aD (i:=3) nd rfl (Or.inl rfl) (.inr rfl)) cn))))) (ak (aA (bS (dQ c_is_whole hr aM (aa (pv 1) ag)) (bS (bB lx (pv 1) ae (av _)) (bS (dQ c_is_whole hr aM (aa (pv 2) ag)) (dB (aE bA rfl n_isinstance PyProof.Rows.boot_isinstance (aa (pv 3) (aa (b6 (v:=.ty "tuple") rfl n_tuple L2.boot_tuple rfl) ag))))))))))),?_⟩
 show b9 _ _ _ [some v,none,none,none] H
 k_data
 refine⟨d,v,3,rfl,hd,gy d 3,bp.mpr rfl,?_⟩
 refine aH (λc=>?_) (λc=>?_)
 ·refine q false ⟨λz=>(by cases z),fun⟨p,g,rows,e,_⟩=>?_⟩
  rw [e] at c
  cases c
 ·cases d with
  | tuple ds =>
   obtain⟨d1,d2,d3,rfl⟩:=tG (ds:=ds) (by simpa [gy] using c)
   obtain⟨p,x1,x2,x3,rfl,hS,e1,e2,e3⟩:=mU hd
   refine⟨p,_,rfl,hS,rfl,?_⟩
   k_data
   refine⟨d1,x1,rfl,e1,qx d1,rfl,?_⟩
   refine aH (λc1=>?_) (λc1=>?_)
   ·obtain⟨i,rfl⟩:=ez c1
    cases e1
    refine⟨i,rfl,?_⟩
    refine aH (λc2=>?_) (λc2=>?_)
    ·refine⟨d2,x2,rfl,e2,qx d2,rfl,?_⟩
     refine aH (λc3=>?_) (λc3=>?_)
     ·obtain⟨j,rfl⟩:=ez c3
      refine fo e3 (q _ ⟨λz=>?_,λz=>?_⟩)
      ·obtain⟨rows,rfl⟩:=f7 z
       exact⟨i,j,rows,rfl,c2⟩
      ·obtain⟨p,g,rows,e,_⟩:=z
       cases e
       rfl
     ·refine q false ⟨λz=>(by cases z),fun⟨p,g,rows,e,_⟩=>?_⟩
      cases e
      exact absurd rfl c3
    ·refine q false ⟨λz=>(by cases z),fun⟨p,g,rows,e,h2⟩=>?_⟩
     cases e
     exact absurd h2 c2
   ·refine q false ⟨λz=>(by cases z),fun⟨p,g,rows,e,_⟩=>?_⟩
    cases e
    exact absurd rfl c1
  | _=>exact absurd rfl c
def RF (width:Nat) (d:PyData):Prop:=∃(pd:PyData) (k:Int) (more:List PyData),d=.tuple (pd::.int k::more)/\more.length+2=width/\PF pd/\1<=k
def ui (K:PySem.W.Frag):Sp:=λvs H Q _=>∃ d v,∃ m:Nat,vs=[v,.int m]/\2<=m/\dv K H d v/\∀ b:Bool,(b=true↔RF m d)->Q (.bl b) H
theorem ow {x y:V} {r:List V}:ka (x::y::r) 1=some y:=by
 unfold ka oX
 simp
 rw [if_pos (by omega)]
 rfl
theorem dW:az ["thing","width"] ["thing","width"] (ao (top 22)):=eZ
theorem tQ (D:ax K mg "is_row_form" (top 22)) (c_is_whole:Callee P w K mg base bc 1 "is_whole" ["thing"] (sk K)) (c_is_tuple_of:Callee P w K mg base bc 1 "is_tuple_of" ["thing","many"] (nZ K)) (c_is_paper_form:Callee P w K mg base bc 2 "is_paper_form" ["thing"] (sj K)):Callee P w K mg base bc 3 "is_row_form" ["thing","width"] (ui K):=by
 refine cO D dW (λf cdv A outer s H vs Q E hr h=>?_)
 obtain⟨d,v,m,rfl,hm,hd,q⟩:=h
 have nd:=dW.nd
 refine⟨_,(ak (aA (bS (dQ c_is_tuple_of hr aM (aa (pv 0) (aa (pv 1) ag))) (bS (dQ c_is_paper_form hr aM (aa (aB aO (pv 0) ae (λ_ _=>rfl)) ag)) (bS (dQ c_is_whole hr aM (aa (aB aO (pv 0) ae (λ_ _=>rfl)) ag)) (dB (bB lx (aB aO (pv 0) ae (λ_ _=>rfl)) ae (av _)))))))),?_⟩
 show ie _ _ [some v,some (.int m)] H
 k_data
 refine⟨d,v,m,rfl,hd,gy d m,rfl,?_⟩
 refine aH (λc=>?_) (λc=>?_)
 ·cases d with
  | tuple ds =>
   have hl:ds.length=m:=by simpa [gy] using c
   obtain⟨d1,d2,more,rfl⟩:∃ a b c,ds=a::b::c:=by
    match ds,hl with
    | [],h=>exact absurd h (by simp;omega)
    | [a],h=>exact absurd h (by simp;omega)
    | a::b::c,_=>exact⟨a,b,c,rfl⟩
   obtain⟨p,xs,rfl,hS,x1,r1,rfl,e1,x2,r2,rfl,e2,e3⟩:=hd
   refine br hS ip ⟨d1,x1,rfl,e1,λb hb=>⟨b,rfl,?_⟩⟩
   refine aH (λc1=>?_) (λc1=>?_)
   ·have hPF:=hb.mp c1
    refine br hS ow ⟨d2,x2,rfl,e2,qx d2,rfl,?_⟩
    refine aH (λc2=>?_) (λc2=>?_)
    ·obtain⟨k,rfl⟩:=ez c2
     cases e2
     refine br hS ow ⟨k,rfl,?_⟩
     refine q _ ⟨λz=>⟨d1,k,more,rfl,by simpa using hl,hPF,of_decide_eq_true z⟩,fun⟨pd,k',more',e,_,_,hk⟩=>?_⟩
     cases e
     exact decide_eq_true hk
    ·refine q false ⟨λz=>(by cases z),fun⟨pd,k,more',e,_⟩=>?_⟩
     cases e
     exact absurd rfl c2
   ·refine q false ⟨λz=>(by cases z),fun⟨pd,k,more',e,_,h3,_⟩=>?_⟩
    cases e
    exact absurd (hb.mpr h3) c1
  | _=>exact absurd c (by simp [gy])
 ·refine q false ⟨λz=>(by cases z),fun⟨pd,k,more,e,h2,_⟩=>?_⟩
  rw [e] at c
  exact absurd (decide_eq_true (by simpa using h2)) c
def Wo (n q k r:Int):Prop:=(q^k.toNat∣n/\n=q^k.toNat*r)∨(¬q^k.toNat∣n/\r=0)
def uj:Sp:=λvs H Q _=>∃ n q k:Int,vs=[.int n,.int q,.int k]/\1<=n/\n<=10^110/\2<=q/\q<=10^110/\1<=k/\∀ r,Wo n q k r->0<=r->r<=n->Q (.int r) H
theorem gW:az ["whole","prime","many","left","missing"] ["whole","prime","many"] (ao (top 23)):=eZ
theorem tR (D:ax K mg "without" (top 23)):Callee P w K mg base bc 1 "without" ["whole","prime","many"] uj:=by
 refine cO D gW (λf cdv A outer s H vs Q E hr h=>?_)
 obtain⟨n,q,k,rfl,n1,n9,q2,q9,k1,Qr⟩:=h
 have nd:=gW.nd
 refine⟨_,(ah (bU (i:=3) nd (pv 0)) (ah (bU (i:=4) nd (pv 2)) (ah (bw PassesOwn.never (PW.pt (je (aw cu (pv 4) ae (av _)) (jf (aw bO (aj ay (pv 3) (pv 1)) ae (av _))))) (ah (eX (i:=3) nd rfl (Or.inl rfl) (pv 1) (gn gm)) (ak (eX (i:=4) nd rfl (Or.inl rfl) ae (gn oW))))) (ak (aA (fv (aw bO (pv 4) ae (av _)) (pv 3) ae)))))),?_⟩
 show b9 _ _ _ [some (.int n),some (.int q),some (.int k),none,none] H
 k_data
 refine bF (α:=Int × Int) (λx=>[some (.int n),some (.int q),some (.int k),some (.int x.1),some (.int x.2)]) (λx H1=>H1=H/\1<=x.1/\x.1<=n/\0<=x.2/\x.2<=k/\n=q^(k-x.2).toNat*x.1) (λx=>x.1.toNat) (n,k) rfl ⟨rfl,n1,Int.le_refl _,by show 0<=k;omega,Int.le_refl _,by show n=q^(k-k).toNat*n;rw [Int.sub_self];show n=q^0*n;rw [Int.pow_zero,Int.one_mul]⟩ ?_
 rintro⟨l,m⟩ H1 ⟨rfl,l1,l2,m0,m1,e⟩
 replace l1:1<=l:=l1
 replace l2:l<=n:=l2
 replace m0:0<=m:=m0
 replace m1:m<=k:=m1
 replace e:n=q^(k-m).toNat*l:=e
 k_data
 refine aH (λc=>?_) (λc=>?_)
 ·refine⟨by omega,?_⟩
  refine aH (λc2=>?_) (λc2=>?_)
  ·obtain⟨y,hy⟩:=Int.dvd_of_emod_eq_zero c2
   have ey:l/q=y:=by rw [hy];exact Int.mul_ediv_cancel_left _ (by omega)
   have y1:1<=y:=by
    rcases (by omega:y<=0∨1<=y) with z | z
    ·have:=Int.mul_nonpos_of_nonneg_of_nonpos (show 0<=q by omega) z
     omega
    ·exact z
   have yl:y<l:=by
    rw [hy]
    have:=Int.mul_le_mul_of_nonneg_right q2 (show 0<=y by omega)
    omega
   refine⟨_,λ_ _ z=>z,by omega,Bd.of (by omega) (by omega),(y,m-1),by rw [ey],rfl,y1,by show y<=n;omega,by show 0<=m-1;omega,by show m-1<=k;omega,?_,by show y.toNat<l.toNat;omega⟩
   show n=q^(k-(m-1)).toNat*y
   rw [show (k-(m-1)).toNat=(k-m).toNat+1 by omega,Int.pow_succ,Int.mul_assoc,<- hy]
   exact e
  ·rw [if_neg (by omega)]
   refine Qr 0 (.inr ⟨λz=>?_,rfl⟩) (Int.le_refl _) (by omega)
   have pp:=Num.aR (show 0<q by omega) (k-m).toNat
   obtain⟨t,ht⟩:=z
   have e3:q^k.toNat=q^(k-m).toNat*q^m.toNat:=by rw [<- Pw.pow_add];congr 1;omega
   rw [e,e3,Int.mul_assoc] at ht
   have ht2:=Int.eq_of_mul_eq_mul_left (by omega) ht
   obtain⟨j,hj⟩:∃ j,m.toNat=j+1:=⟨m.toNat-1,by omega⟩
   rw [hj,Int.pow_succ,Int.mul_comm (q^j) q,Int.mul_assoc] at ht2
   exact c2 (Int.emod_eq_zero_of_dvd ⟨_,ht2⟩)
 ·have mz:m=0:=by omega
  rw [if_pos mz]
  rw [mz,Int.sub_zero] at e
  exact Qr l (.inl ⟨⟨l,e⟩,e⟩) (by omega) l2
def CT (width:Nat):Int->Int->List PyData->Prop
 | left,_,[]=>left=1
 | left,last,d::ds=>1<=left/\∃(p g k:Int) (rows more:List PyData),d=.tuple (.tuple [.int p,.int g,.tuple rows]::.int k::more)/\more.length+2=width/\2<=p/\1<=k/\last<p/\∃ r,Wo left p k r/\CT width r p ds
def uf (K:PySem.W.Frag):Sp:=λvs H Q _=>∃(n:Int) (rows:List PyData) (v:V) (m:Nat),vs=[.int n,v,.int m]/\2<=m/\n<=10^110/\dv K H (.tuple rows) v/\(∀(p g k:Int) (rs more:List PyData),.tuple (.tuple [.int p,.int g,.tuple rs]::.int k::more)∈rows->p<=10^110)/\∀ b:Bool,(b=true↔CT m n 1 rows)->Q (.bl b) H
theorem Wo.one {n q k r r':Int} (h2:2<=q) (h:Wo n q k r) (h':Wo n q k r'):r=r':=by
 have pp:=Num.aR (show 0<q by omega) k.toNat
 rcases h with⟨h1,h2⟩|⟨h1,h2⟩<;>rcases h' with⟨h3,h4⟩|⟨h3,h4⟩
 ·exact Int.eq_of_mul_eq_mul_left (by omega) (h2.symm.trans h4)
 ·exact absurd h1 h3
 ·exact absurd h3 h1
 ·rw [h2,h4]
theorem gQ:az ["n","rows","width","left","last","row"] ["n","rows","width"] (ao (top 21)):=eZ
theorem tL (D:ax K mg "come_to" (top 21)) (c_is_row_form:Callee P w K mg base bc 3 "is_row_form" ["thing","width"] (ui K)) (c_without:Callee P w K mg base bc 1 "without" ["whole","prime","many"] uj):Callee P w K mg base bc 4 "come_to" ["n","rows","width"] (uf K):=by
 refine cO D gQ (λf cdv A outer s H vs Q E hr h=>?_)
 obtain⟨n,rows,v,m,rfl,hm,n9,hd,hb9,q⟩:=h
 obtain⟨p,xs,rfl,hS,ht⟩:=hd
 have nd:=gQ.nd
 refine⟨_,(ah (bU (i:=3) nd (pv 0)) (ah (bU (i:=4) nd ae) (ah (fJ PassesOwn.never rfl (fH (pv 1)) (aD (i:=5) nd rfl (Or.inl rfl) (.inr rfl)) (ah (aZ (PW.pt (cW (aw cT (pv 3) ae (av _)) (cW (bE (aX (dQ c_is_row_form hr aM (aa (pv 5) (aa (pv 2) ag))) (λ_=>rfl))) (eY (aw jQ (aB aO (aB aO (pv 5) ae (λ_ _=>rfl)) ae (λ_ _=>rfl)) (pv 4) (av _)))))) (ak (aA bT)) aF) (ah (bU (i:=4) nd (aB aO (aB aO (pv 5) ae (λ_ _=>rfl)) ae (λ_ _=>rfl))) (ak (bU (i:=3) nd (dQ c_without hr aM (aa (pv 3) (aa (pv 4) (aa (aB aO (pv 5) ae (λ_ _=>rfl)) ag))))))))) (ak (aA (bB bO (pv 3) ae (av _))))))),?_⟩
 show b9 _ _ _ [some (.int n),some (.ref p),some (.int m),none,none,none] H
 k_data
 refine⟨⟨_,hS⟩,?_⟩
 refine jL (xs:=xs) (λi σ' H'=>H'=H/\∃(l t:Int) (o:Option V),σ'=[some (.int n),some (.ref p),some (.int m),some (.int l),some (.int t),o]/\l<=10^110/\(CT m n 1 rows↔CT m l t (rows.drop i))) ⟨rfl,n,1,none,rfl,n9,by rw [List.drop_zero]⟩ (λi σ' H' _ h=>by rw [h.1];exact hS) ?_ ?_
 ·rintro i x σ' H' hx ⟨rfl,l,t,o,rfl,l9,hc⟩
  obtain⟨d,hd,hv⟩:=ht.get hx
  have dr:rows.drop i=d::rows.drop (i+1):=by
   obtain⟨hi,e⟩:=List.getElem?_eq_some_iff.mp hd
   rw [List.drop_eq_getElem_cons hi,e]
  rw [dr] at hc
  k_data
  refine aH (λc=>?_) (λc=>?_)
  ·exact q false ⟨λz=>(by cases z),λz=>absurd (hc.mp z).1 (by omega)⟩
  refine⟨d,x,m,rfl,hm,hv,λb hb=>⟨b,bp.mpr rfl,?_⟩⟩
  refine aH (λc1=>?_) (λc1=>?_)
  ·refine q false ⟨λz=>(by cases z),λz=>?_⟩
   obtain⟨_,p',g',k',rs',more',e1,e2,e3,e4,_⟩:=hc.mp z
   have:=hb.mpr ⟨_,k',more',e1,e2,⟨p',g',rs',rfl,e3⟩,e4⟩
   rw [c1] at this
   cases this
  ·obtain⟨pd,k,more,rfl,f2,⟨p',g,rs,rfl,f3⟩,f4⟩:=hb.mp (by simpa using c1)
   obtain⟨a1,y1,rfl,t1,u1,r1,rfl,hv2,u2,r2,rfl,hk,hmr⟩:=hv
   obtain⟨a2,x1,x2,x3,rfl,t2,w1,w2,w3⟩:=mU hv2
   cases w1
   cases hk
   refine br t1 ip (br t2 ip ⟨p',rfl,?_⟩)
   refine aH (λc2=>?_) (λc2=>?_)
   ·refine q false ⟨λz=>(by cases z),λz=>?_⟩
    obtain⟨_,p2,g2,k2,rs2,more2,e1,e2,e3,e4,e5,_⟩:=hc.mp z
    cases e1
    omega
   ·have p9:=hb9 p' g k rs more (List.mem_of_getElem? hd)
    refine br t1 ip (br t2 ip (br t1 ow ⟨l,p',k,rfl,by omega,l9,f3,p9,f4,λr hr' r0 r1=>⟨rfl,r,rfl,p',rfl,by omega,?_⟩⟩))
    rw [hc]
    constructor
    ·rintro⟨_,p2,g2,k2,rs2,more2,e1,e2,e3,e4,e5,r',e6,e7⟩
     cases e1
     rw [hr'.one f3 e6]
     exact e7
    ·intro z
     exact⟨by omega,p',g,k,rs,more,rfl,f2,f3,f4,by omega,r,hr',z⟩
 ·rintro σ' H' ⟨rfl,l,t,o,rfl,l9,hc⟩
  k_data
  rw [ht.length,List.drop_length] at hc
  refine q _ ?_
  rw [hc]
  exact decide_eq_true_iff
end
end K
namespace K
open PySem PySem.Spec PyProof.Rows L2
mutual
def hZ:PyData->Prop
 | .int i=>i<=10^110
 | .tuple ds=>dY ds
 | .list ds=>dY ds
 | _=>True
def dY:List PyData->Prop
 | []=>True
 | d::ds=>hZ d/\dY ds
end
mutual
def bP:PyData->Nat
 | .tuple ds=>1+aJ ds
 | .list ds=>1+aJ ds
 | _=>1
def aJ:List PyData->Nat
 | []=>0
 | d::ds=>bP d+aJ ds
end
theorem dh:∀{ds:List PyData} {d:PyData},dY ds->d∈ds->hZ d
 | a::r,d,⟨h1,h2⟩,h=>by
  rcases List.mem_cons.mp h with z | z
  ·rw [z];exact h1
  ·exact dh h2 z
theorem gf:∀{ds:List PyData},(∀ d∈ds,hZ d)->dY ds
 | [],_=>True.intro
 | a::r,h=>⟨h a (by simp),gf λd hd=>h d (List.mem_cons_of_mem _ hd)⟩
theorem di:∀(xs ys:List PyData),aJ (xs++ys)=aJ xs+aJ ys
 | [],ys=>by simp [aJ]
 | a::r,ys=>by
  show bP a+aJ (r++ys)=bP a+aJ r+aJ ys
  rw [di r ys]
  omega
theorem jt:∀ d:PyData,1<=bP d
 | .tuple _=>by simp [bP]
 | .list _=>by simp [bP]
 | .none=>Nat.le_refl _
 | .bool _=>Nat.le_refl _
 | .int _=>Nat.le_refl _
 | .str _=>Nat.le_refl _
 | .dict _=>by simp [bP]
theorem b8:∀ ds:List PyData,ds.length<=aJ ds
 | []=>Nat.le_refl _
 | a::r=>by
  have:=jt a
  have:=b8 r
  show r.length+1<=bP a+aJ r
  omega
def gj:PyData->PyData
 | .tuple (x::_)=>x
 | _=>.none
def qD:PyData->Int
 | .tuple (.tuple (.int q::_)::_)=>q
 | _=>0
def RA (d:PyData):Prop:=∃(p g:Int) (rows:List PyData),d=.tuple [.int p,.int g,.tuple rows]/\2<=p/\1<=g/\g<p/\CT 2 (p-1) 1 rows/\sO p g (p-1) (rows.map qD)
inductive PP:PyData->Prop
 | mk (p g:Int) (rows:List PyData):RA (.tuple [.int p,.int g,.tuple rows])->(∀ r∈rows,PP (gj r))->PP (.tuple [.int p,.int g,.tuple rows])
theorem ei {w:Nat}:∀{rows:List PyData} {l t:Int},CT w l t rows->∀ r∈rows,∃(p g k:Int) (rs more:List PyData),r=.tuple (.tuple [.int p,.int g,.tuple rs]::.int k::more)/\2<=p/\1<=k/\more.length+2=w
 | d::ds,l,t,⟨_,p,g,k,rs,more,e1,e2,e3,e4,e5,r',e6,e7⟩,r,hr=>by
  rcases List.mem_cons.mp hr with z | z
  ·rw [z];exact⟨p,g,k,rs,more,e1,e3,e4,e2⟩
  ·exact ei e7 r z
theorem rz {w:Nat} {rows:List PyData} {l t:Int} (h:CT w l t rows):uN rows (rows.map qD):=by
 refine⟨by rw [List.length_map],λi row hi=>?_⟩
 obtain⟨p,g,k,rs,more,e,_⟩:=ei h row (List.mem_of_getElem? hi)
 exact⟨p,by rw [List.getElem?_map,hi,e];rfl,[.int g,.tuple rs],.int k::more,e⟩
section
variable {P:Program} {w:World} {K:PySem.W.Frag} {mg:Str->Option Value} {base:Heap}
def uh (K:PySem.W.Frag):Sp:=λvs H Q _=>∃ d v,vs=[v]/\dv K H d v/\hZ d/\bP d<=10^6/\∀ b H',(b=true↔RA d)->au H H'->Q (.bl b) H'
theorem cP:az ["thing","p","full","parts"] ["thing"] (ao (top 19)):=eZ
theorem tP (D:ax K mg "is_right_above" (top 19)) (c_is_paper_form:Callee P w K mg base bc 2 "is_paper_form" ["thing"] (sj K)) (c_come_to:Callee P w K mg base bc 4 "come_to" ["n","rows","width"] (uf K)) (c_is_least:Callee P w K mg base bc 5 "is_least" ["n","a","e","primes"] (fK K)) (c_primes_in:Callee P w K mg base bc 1 "primes_in" ["parts"] (dE K)):Callee P w K mg base bc 6 "is_right_above" ["thing"] (uh K):=by
 refine cO D cP (λf cdv A outer s H vs Q E hr h=>?_)
 obtain⟨d,v,rfl,hd,hs,hz,q⟩:=h
 have nd:=cP.nd
 refine⟨_,(ah (aZ (bE (aX (dQ c_is_paper_form hr aM (aa (pv 0) ag)) (λ_=>rfl))) (ak (aA bT)) aF) (ah (dR (pv 0) (dC (n:=3) rfl (aI (aD (i:=1) nd rfl (Or.inl rfl) (.inr rfl)) (aI (aD (i:=2) nd rfl (Or.inl rfl) (.inr rfl)) (aI (aD (i:=3) nd rfl (Or.inl rfl) (.inr rfl)) cn))))) (ak (aA (bS (nK jQ cT ae (pv 2) (pv 1)) (bS (dQ c_come_to hr aM (aa (aj aW (pv 1) ae) (aa (pv 3) (aa ae ag)))) (dB (dQ c_is_least hr aM (aa (pv 1) (aa (pv 2) (aa (aj aW (pv 1) ae) (aa (dQ c_primes_in hr aM (aa (pv 3) ag)) ag)))))))))))),?_⟩
 show b9 _ _ _ [some v,none,none,none] H
 k_data
 refine⟨d,v,rfl,hd,λb hb=>⟨b,bp.mpr rfl,?_⟩⟩
 refine aH (λc=>?_) (λc=>?_)
 ·refine q false _ ⟨λz=>(by cases z),fun⟨p,g,rows,e,p2,_⟩=>?_⟩ (au.refl _)
  have:=hb.mpr ⟨p,g,rows,e,p2⟩
  rw [c] at this
  cases this
 ·obtain⟨p,g,rows,rfl,p2⟩:=hb.mp (by simpa using c)
  obtain⟨pa,x1,x2,x3,rfl,hS,e1,e2,e3⟩:=mU hd
  cases e1
  cases e2
  refine⟨pa,_,rfl,hS,rfl,?_⟩
  k_data
  simp only [jv,mw,tC,lC,List.getElem?_cons_zero,List.getElem?_cons_succ,Option.some.injEq,exists_eq_left',V.int.injEq,exists_and_left,V.bl.injEq]
  obtain⟨hp9,hrows⟩:p<=10^110/\dY rows:=by
   simp only [hZ,dY,and_true] at hs
   exact⟨hs.1,hs.2.2⟩
  have hzr:aJ rows<=10^6:=by
   simp only [bP,aJ] at hz
   omega
  have no:∀{b:Bool},b=false->¬RA (.tuple [.int p,.int g,.tuple rows])->(b=true↔RA (.tuple [.int p,.int g,.tuple rows])):=λe n=>⟨λz=>(by rw [e] at z;cases z),λz=>absurd z n⟩
  refine aH (λc1=>?_) (λc1=>?_)
  ·refine aH (λc2=>?_) (λc2=>?_)
   ·have g1:1<=g:=of_decide_eq_true c1
    have g2:g<p:=of_decide_eq_true c2
    refine⟨p-1,rows,x3,2,rfl,by decide,by omega,e3,λp' g' k' rs more hm=>?_,λb1 hb1=>⟨b1,rfl,?_⟩⟩
    ·have:=dh hrows hm
     simp only [hZ,dY] at this
     exact this.1.1
    refine aH (λc3=>?_) (λc3=>?_)
    ·have hct:=hb1.mp c3
     have hh:=rz hct
     have rl:rows.length<=10^6:=Nat.le_trans (b8 rows) hzr
     refine⟨x3,rows,rows.map qD,rfl,e3,hh,rl,λpq H1 s1 f1 h1=>?_⟩
     refine⟨p,g,p-1,pq,rows.map qD,rfl,by omega,by omega,by omega,by omega,bf.of h1,λy hy=>?_,by rw [List.length_map];exact rl,λb2 H2 hb2 s2=>?_⟩
     ·obtain⟨r,hr',rfl⟩:=List.mem_map.mp hy
      obtain⟨p',g',k',rs,more,e,h2,_⟩:=ei hct r hr'
      have:=dh hrows hr'
      rw [e] at this ⊢
      simp only [hZ,dY] at this
      show 0<p'/\p'<=_
      omega
     ·refine q b2 H2 (hb2.trans ⟨λz=>⟨p,g,rows,rfl,p2,g1,g2,hct,z⟩,fun⟨p',g',rows',e,_,_,_,_,z⟩=>?_⟩) (s1.trans s2)
      cases e
      exact z
    ·refine q false _ (no rfl fun⟨p',g',rows',e,_,_,_,z,_⟩=>?_) (au.refl _)
     cases e
     exact c3 (hb1.mpr z)
   ·refine q false _ (no rfl fun⟨p',g',rows',e,_,_,z,_⟩=>?_) (au.refl _)
    cases e
    exact c2 (decide_eq_true z)
  ·refine q false _ (no rfl fun⟨p',g',rows',e,_,z,_⟩=>?_) (au.refl _)
   cases e
   exact c1 (decide_eq_true z)
theorem jF {H:Hp}:∀{ds:List PyData} {us:List V},bo K H ds us->ds≠[]->∃ ds' d us' u,ds=ds'++[d]/\us=us'++[u]/\bo K H ds' us'/\dv K H d u
 | [d],us,⟨x,r,e,h,t⟩,_=>by
  cases t
  exact⟨[],d,[],x,rfl,e,rfl,h⟩
 | d::d2::ds,us,⟨x,r,e,h,t⟩,_=>by
  obtain⟨ds',d',us',u,e1,e2,h1,h2⟩:=jF t (by simp)
  exact⟨d::ds',d',x::us',u,by rw [e1];rfl,by rw [e,e2];rfl,⟨x,us',rfl,h,h1⟩,h2⟩
theorem gZ:∀ rows:List PyData,aJ (rows.map gj)<=aJ rows
 | []=>Nat.le_refl _
 | a::r=>by
  have h1:=gZ r
  have h2:bP (gj a)<=bP a:=by
   match a with
   | .tuple (x::xs) =>
    show bP x<=1+(bP x+aJ xs)
    omega
   | .tuple []=>exact Nat.le_refl _
   | .list ds=>exact jt (.list ds)
   | .none=>exact Nat.le_refl _
   | .bool _=>exact Nat.le_refl _
   | .int _=>exact Nat.le_refl _
   | .str _=>exact Nat.le_refl _
   | .dict ds=>exact jt (.dict ds)
  show bP (gj a)+aJ (r.map gj)<=bP a+aJ r
  omega
def qM (K:PySem.W.Frag):Sp:=λvs H Q _=>∃(p:Addr) (ds:List PyData) (us:List V),vs=[.ref p]/\(bf K H p us∨aT K H p us)/\bo K H ds us/\dY ds/\aJ ds<=10^6/\∀ b H',(b=true↔∀ d∈ds,PP d)->au H H'->Q (.bl b) H'
theorem cf:az ["things","waiting","paper"] ["things"] (ao (top 18)):=eZ
theorem rT (D:ax K mg "are_prime_papers" (top 18)) (c_is_right_above:Callee P w K mg base bc 6 "is_right_above" ["thing"] (uh K)) (n_list:mg "list"=none):Callee P w K mg base bc 7 "are_prime_papers" ["things"] (qM K):=by
 refine cO D cf (λf cdv A outer s H vs Q E hr h=>?_)
 obtain⟨p,ds0,us0,rfl,hS,hd0,hsm0,hsz0,q⟩:=h
 have nd:=cf.nd
 refine⟨_,(ah (bU (i:=1) nd (bH fj rfl n_list L2.boot_list (aa (pv 0) ag))) (ah (bw PassesOwn.never (aX (pv 1) (λ_=>rfl)) (ah (bU (i:=2) nd (r8 PySem.F.plainAttrs_list PySem.F.slot_list_pop PySem.F.type_list_pop rQ (pv 1))) (ah (aZ (bE (aX (dQ c_is_right_above hr aM (aa (pv 2) ag)) (λ_=>rfl))) (ak (aA bT)) aF) (ak (eE (iG PySem.F.plainAttrs_list PySem.F.slot_list_extend PySem.F.type_list_extend l6 (pv 1) (aa (fS rfl (qi (N':=["row"]) (js:=[none]) rfl rfl) (fH (aB aO (pv 2) ae (λ_ _=>rfl))) (λ_ _ _ _=>(aD (i:=0) (show List.Nodup [("row":Str)] from by decide +kernel) rfl (Or.inl rfl) (.inr rfl))) (λ_ _ _ _=>cw) (λ_ _ _ _=>(aB (dw K rfl) (pv 0) ae (λ_ _=>rfl)))) ag))))))) (ak (aA bT)))),?_⟩
 show b9 _ _ _ [some (.ref p),none,none] H
 k_data
 refine⟨us0,hS,λpw hpw=>?_⟩
 refine bF (α:=List PyData × List V × Option V) (λx=>[some (.ref p),some (.ref pw),x.2.2]) (λx H1=>au H H1/\H1 pw=some (.lst x.2.1)/\bo K H x.1 x.2.1/\dY x.1/\aJ x.1<=10^6/\((∀ d∈ds0,PP d)↔∀ d∈x.1,PP d)) (λx=>aJ x.1) (ds0,us0,none) rfl ⟨ai hpw,af,hd0,hsm0,hsz0,Iff.rfl⟩ ?_
 rintro⟨ds,us,o⟩ H1 ⟨s1,h1,hd,hsm,hsz,hPP⟩
 replace h1:H1 pw=some (.lst us):=h1
 replace hd:bo K H ds us:=hd
 replace hsm:dY ds:=hsm
 replace hsz:aJ ds<=10^6:=hsz
 replace hPP:(∀ d∈ds0,PP d)↔∀ d∈ds,PP d:=hPP
 k_data
 refine⟨!us.isEmpty,.inl ⟨us,bf.of h1,rfl⟩,?_⟩
 by_cases hne:ds=[]
 ·subst hne
  have hu:us=[]:=hd
  subst hu
  rw [if_neg (by simp)]
  exact q true H1 ⟨λ_=>hPP.mpr λd z=>by simp at z,λ_=>rfl⟩ s1
 obtain⟨ds',d,us',u,rfl,rfl,hd',hdu⟩:=jF hd hne
 rw [if_pos (by simp)]
 have smd:hZ d:=dh hsm (by simp)
 have szd:aJ (ds'++[d])=aJ ds'+bP d:=by
  rw [di]
  show aJ ds'+(bP d+0)=_
  omega
 refine⟨_,λ_ _ z=>z,.inl ⟨rfl,_,bf.of h1⟩,pw,us'++[u],u,rfl,rfl,h1,by simp,?_⟩
 rw [List.dropLast_concat]
 have S2:=s1.upd (o:=.lst us') hpw
 have e2:upd H1 pw (.lst us') pw=some (.lst us'):=af
 generalize upd H1 pw _=H2 at *
 refine⟨d,u,rfl,dv.same S2 _ hdu,smd,by omega,λb H3 hb s3=>⟨b,bp.mpr rfl,?_⟩⟩
 have S3:=S2.trans s3
 have e3:=s3 _ _ e2
 refine aH (λc=>?_) (λc=>?_)
 ·refine q false H3 ⟨λz=>(by cases z),λz=>?_⟩ S3
  have hp:=hPP.mp z d (by simp)
  cases hp with
  | mk _ _ _ hra _ =>
   have:=hb.mpr hra
   rw [c] at this
   cases this
 ·have hra:=hb.mp (by simpa using c)
  obtain⟨p',g,rows,rfl,p2,g1,g2,hct,hlst⟩:=hra
  have hra:=hb.mp (by simpa using c)
  obtain⟨pa,x1,x2,x3,rfl,hSu,f1,f2,f3⟩:=mU hdu
  obtain⟨pr,xs,rfl,hSr,hdr⟩:=f3
  have xl:=hdr.length
  have szr:aJ rows<bP (.tuple [.int p',.int g,.tuple rows]):=by
   simp only [bP,aJ]
   omega
  have rl:=b8 rows
  refine⟨.inl ⟨rfl,_,bf.of e3⟩,br (hSu.same S3) rfl ⟨pr,rfl,⟨_,hSr.same S3⟩,?_⟩⟩
  refine eh (xs:=xs) (λi zs H4=>H4=H3/\bo K H ((rows.take i).map gj) zs) ⟨rfl,rfl⟩ (Nat.le_trans (show xs.length<=10^6 by omega) (by decide)) (λi zs H4 hi ⟨z1,z2⟩=>⟨by rw [z1];exact hSr.same S3,by rw [z2.length,List.length_map,List.length_take];omega⟩) ?_ ?_
  ·rintro i x zs H4 hx ⟨rfl,hz⟩
   obtain⟨r,hr',hv⟩:=hdr.get hx
   obtain⟨p4,g4,k4,rs,more,rfl,_⟩:=ei hct r (List.mem_of_getElem? hr')
   obtain⟨a1,y1,rfl,t1,u1,r1,rfl,hv2,_⟩:=hv
   show dF 0 _ [none] _ _
   k_data
   refine⟨True.intro,br (t1.same S3) ip ⟨rfl,?_⟩⟩
   rw [List.take_add_one,hr',List.map_append]
   exact bo.append hz (.one hv2)
  ·rintro zs H4 p4 ⟨rfl,hz⟩ hp4
   rw [show xs.length=rows.length by omega,List.take_length] at hz
   have zl:zs.length=rows.length:=by rw [hz.length,List.length_map]
   have s5:=ai (o:=.lst zs) hp4
   have e5:upd H4 p4 (.lst zs) p4=some (.lst zs):=af
   have e6:=s5 _ _ e3
   have S5:=S3.trans s5
   generalize upd H4 p4 _=H5 at *
   have ul:=hd'.length
   have dl:=b8 ds'
   refine⟨pw,p4,us',zs,rfl,rfl,e6,e5,Nat.le_trans (show us'.length+zs.length<=10^6 by omega) (by decide),(ds'++rows.map gj,us'++zs,some (.ref pa)),rfl,S5.upd hpw,af,bo.append hd' hz,?_,?_,?_,?_⟩
   ·refine gf λx hx=>?_
    rcases List.mem_append.mp hx with z | z
    ·exact dh hsm (List.mem_append.mpr (.inl z))
    ·obtain⟨r,hr',rfl⟩:=List.mem_map.mp z
     obtain⟨p4,g4,k4,rs,more,rfl,_⟩:=ei hct r hr'
     simp only [hZ,dY] at smd
     have:=dh smd.2.2.1 hr'
     simp only [hZ,dY] at this
     simp only [gj,hZ,dY]
     exact this.1
   ·show aJ (ds'++rows.map gj)<=_
    rw [di]
    have:=gZ rows
    omega
   ·rw [hPP]
    constructor
    ·intro z x hx
     rcases List.mem_append.mp hx with y | y
     ·exact z x (List.mem_append.mpr (.inl y))
     ·obtain⟨r,hr',rfl⟩:=List.mem_map.mp y
      have hp:=z (.tuple [.int p',.int g,.tuple rows]) (by simp)
      cases hp with
      | mk _ _ _ _ h=>exact h r hr'
    ·intro z x hx
     rcases List.mem_append.mp hx with y | y
     ·exact z x (List.mem_append.mpr (.inl y))
     ·rw [List.mem_singleton.mp y]
      exact .mk p' g rows hra λr hr'=>z _ (List.mem_append.mpr (.inr (List.mem_map.mpr ⟨r,hr',rfl⟩)))
   ·show aJ (ds'++rows.map gj)<_
    rw [di,szd]
    have:=gZ rows
    omega
def ug (K:PySem.W.Frag):Sp:=λvs H Q _=>∃ d v,vs=[v]/\dv K H d v/\hZ d/\bP d<=10^6/\∀ b H',(b=true↔PP d)->au H H'->Q (.bl b) H'
theorem cM:az ["thing"] ["thing"] (ao (top 17)):=eZ
theorem tO (D:ax K mg "is_prime_paper" (top 17)) (c_are_prime_papers:Callee P w K mg base bc 7 "are_prime_papers" ["things"] (qM K)):Callee P w K mg base bc 8 "is_prime_paper" ["thing"] (ug K):=by
 refine cO D cM (λf cdv A outer s H vs Q E hr h=>?_)
 obtain⟨d,v,rfl,hd,hs,hz,q⟩:=h
 have nd:=cM.nd
 refine⟨_,(ak (aA (dQ c_are_prime_papers hr aM (aa (aU (aa (pv 0) ag)) ag)))),?_⟩
 show ie _ _ [some v] H
 k_data
 refine⟨by show 1<=sizeLine;decide,λpl hpl=>?_⟩
 have s1:=ai (o:=.lst [v]) hpl
 refine⟨pl,[d],[v],rfl,.inl (bf.of af),.one (dv.same s1 _ hd),⟨hs,True.intro⟩,by show bP d+0<=_;omega,λb H' hb s2=>?_⟩
 exact q b H' (hb.trans ⟨λz=>z d (by simp),λz x hx=>by rw [List.mem_singleton.mp hx];exact z⟩) (s1.trans s2)
end
end K
namespace K
open PySem PySem.Spec PyProof.Rows L2
theorem fT {p:Int × Int} {ps:List (Int × Int)} {ds:Nat->PyData}:Num.rowsOf (p::ps) ds=.tuple [ds 0,.int p.2]::Num.rowsOf ps (λi=>ds (i+1)):=by
 unfold Num.rowsOf
 rw [List.length_cons,List.range_succ_eq_map,List.map_cons,List.map_map]
 rfl
theorem dU {ps:List (Int × Int)} {ds:Nat->PyData} {r:PyData} (h:r∈Num.rowsOf ps ds):∃ i q k,ps[i]?=some (q,k)/\r=.tuple [ds i,.int k]:=by
 unfold Num.rowsOf at h
 obtain⟨i,hi,e⟩:=List.mem_map.mp h
 have hi':=List.mem_range.mp hi
 have g:=List.getElem?_eq_getElem hi'
 refine⟨i,ps[i].1,ps[i].2,g,?_⟩
 rw [<- e,List.getD_eq_getElem?_getD,g]
 rfl
theorem lF:∀{ps:List (Int × Int)} {ds:Nat->PyData},(∀ p∈ps,2<=p.1/\1<=p.2)->(∀ i q k,ps[i]?=some (q,k)->2^(bP (ds i)+2)<=q.natAbs^12)->2^aJ (Num.rowsOf ps ds)<=(Num.bj ps).natAbs^12
 | [],_,_,_=>by show 2^0<=1^12;decide
 | p::ps,ds,h,hd=>by
  rw [fT]
  have h1:=hd 0 p.1 p.2 rfl
  have h2:=lF (ps:=ps) (ds:=λi=>ds (i+1)) (λq hq=>h q (List.mem_cons_of_mem _ hq)) λi q k hi=>hd (i+1) q k (by simpa using hi)
  obtain⟨p2,k1⟩:=h p (by simp)
  have e:aJ (.tuple [ds 0,.int p.2]::Num.rowsOf ps (λi=>ds (i+1)))=(bP (ds 0)+2)+aJ (Num.rowsOf ps (λi=>ds (i+1))):=by
   simp only [aJ,bP]
   omega
  rw [e,Nat.pow_add]
  have h3:=Nat.mul_le_mul h1 h2
  rw [<- Nat.mul_pow] at h3
  refine Nat.le_trans h3 (Nat.pow_le_pow_left ?_ 12)
  show _<=(p.1^p.2.toNat*Num.bj ps).natAbs
  rw [Int.natAbs_mul,Int.natAbs_pow]
  exact Nat.mul_le_mul_right _ (Nat.le_self_pow (by omega) _)
theorem rY {n:Int} {d:PyData} (h:Num.fO n d):2^(bP d+2)<=n.natAbs^12/\(n=2->bP d=4):=by
 induction h with
 | mk p g ps ds hp h9 hl hP hn hds ih =>
  have p2:=hp.two
  have esz:bP (.tuple [.int p,.int g,.tuple (Num.rowsOf ps ds)])=4+aJ (Num.rowsOf ps ds):=by
   simp only [bP,aJ]
   omega
  have nil2:p=2->ps=[]:=λe=>by
   cases ps with
   | nil=>rfl
   | cons x r =>
    exfalso
    obtain⟨o1,o2,_⟩:=hP.ok x (by simp)
    have:=Num.cq (ps:=x::r) (p:=x) (by simp) o2
    rw [hP.prod,e] at this
    have:=Int.le_of_dvd (by decide) this
    have:=o1.two
    omega
  refine⟨?_,λe=>by rw [esz,nil2 e];rfl⟩
  rw [esz]
  by_cases c:p=2
  ·rw [nil2 c,c]
   show 2^(4+0+2)<=2^12
   decide
  ·have podd:p%2=1:=by
    rcases (by omega:p%2=1∨p%2=0) with z | z
    ·exact z
    ·exact absurd (Int.dvd_of_emod_eq_zero z) (hp.no 2 (by decide) (by omega))
   have pm2:Num.Pm 2:=⟨by decide,λd d2 dn=>by omega⟩
   obtain⟨x,hx,ex⟩:=Num.cU pm2 (λx z=>(hP.ok x z).1) (by rw [hP.prod];exact⟨(p-1)/2,by omega⟩)
   cases ps with
   | nil=>simp at hx
   | cons y r =>
    have ey:y.1=2:=by
     have:=(hP.ok y (by simp)).1.two
     rcases List.mem_cons.mp hx with z | z
     ·rw [<- z];exact ex
     ·have:=(List.pairwise_cons.mp hP.rise).1 x z
      omega
    have s0:=(ih 0 y.1 y.2 rfl).2 ey
    have hr:=lF (ps:=r) (ds:=λi=>ds (i+1)) (λq hq=>⟨(hP.ok q (List.mem_cons_of_mem _ hq)).1.two,(hP.ok q (List.mem_cons_of_mem _ hq)).2.1⟩) λi q k hi=>(ih (i+1) q k (by simpa using hi)).1
    rw [fT]
    have e:4+aJ (.tuple [ds 0,.int y.2]::Num.rowsOf r (λi=>ds (i+1)))+2=12+aJ (Num.rowsOf r (λi=>ds (i+1))):=by
     simp only [aJ,bP,s0]
     omega
    rw [e,Nat.pow_add]
    have h3:=Nat.mul_le_mul_left (2^12) hr
    rw [<- Nat.mul_pow] at h3
    refine Nat.le_trans h3 (Nat.pow_le_pow_left ?_ 12)
    have hpr:Num.bj (y::r)=p-1:=hP.prod
    have k1:=(hP.ok y (by simp)).2.1
    have:(Num.bj (y::r)).natAbs=2^y.2.toNat*(Num.bj r).natAbs:=by
     show (y.1^y.2.toNat*Num.bj r).natAbs=_
     rw [Int.natAbs_mul,Int.natAbs_pow,ey]
     rfl
    rw [hpr] at this
    have h5:2*(Num.bj r).natAbs<=2^y.2.toNat*(Num.bj r).natAbs:=Nat.mul_le_mul_right _ (Nat.le_self_pow (by omega) _)
    omega
theorem eB {n:Int} {d:PyData} (h:Num.fO n d):bP d<=358:=by
 have h1:=(rY h).1
 have h9:n<=10^9/\2<=n:=by
  cases h with
  | mk _ _ _ _ a b=>exact⟨b,a.two⟩
 have e30:(2:Nat)^30=1073741824:=by decide
 have h2:n.natAbs^12<=(2^30)^12:=Nat.pow_le_pow_left (show n.natAbs<=2^30 by omega) 12
 rw [<- Nat.pow_mul] at h2
 have:=(Nat.pow_le_pow_iff_right (by decide:1<2)).mp (Nat.le_trans h1 h2)
 omega
end K
namespace K
open PySem PySem.Spec PyProof.Rows L2
section
variable {P:Program} {w:World} {K:PySem.W.Frag} {mg:Str->Option Value} {base:Heap}
def kM:Sp:=λvs H Q _=>∃(n a:Int) (e:Int),vs=[.int n,.int a,.int e]/\0<n/\n<=10^100 /\ -(10^100)<=a/\a<=10^100/\0<=e/\Q (.int (a^e.toNat%n)) H
theorem eT:az ["_law_n","_law_a","_law_e","_law_found"] ["_law_n","_law_a","_law_e"] (ao (top 37)):=eZ
theorem pI (D:ax K mg "_law_power" (top 37)):Callee P w K mg base bc 1 "_law_power" ["_law_n","_law_a","_law_e"] kM:=by
 refine cO D eT (λf cdv A outer s H vs Q E hr h=>?_)
 obtain⟨n,a,e,rfl,hn,hn1,a0,a1,he,q⟩:=h
 have nd:=eT.nd
 refine⟨_,(ah (bU (i:=3) nd (aj ay ae (pv 0))) (ah (bw PassesOwn.never (aw cu (pv 2) ae (av _)) (ah (bM (aZ (aw bO (aj ay (pv 2) ae) ae (av _)) (ak (bU (i:=3) nd (aj ay (aj bb (pv 3) (pv 1)) (pv 0)))) aF)) (ah (bU (i:=1) nd (aj ay (aj bb (pv 1) (pv 1)) (pv 0))) (ak (bU (i:=2) nd (aj aL (pv 2) ae)))))) (ak (aA (pv 3))))),?_⟩
 show b9 _ _ _ [some (.int n),some (.int a),some (.int e),none] H
 k_data
 refine⟨hn,?_⟩
 have r0:=λx:Int=>Int.emod_nonneg x (show n≠0 by omega)
 have r1:=λx:Int=>Int.emod_lt_of_pos x hn
 refine bF (α:=Nat × Int × Int) (λx=>[some (.int n),some (.int x.2.2),some (.int (x.1:Int)),some (.int x.2.1)]) (λx H1=>H1=H /\ -(10^100)<=x.2.2/\x.2.2<=10^100/\0<=x.2.1/\x.2.1<n/\x.2.1*x.2.2^x.1%n=a^e.toNat%n) (λx=>x.1) (e.toNat,1%n,a) (by rw [show ((e.toNat:Nat):Int)=e by omega]) ⟨rfl,a0,a1,r0 1,r1 1,?_⟩ ?_
 ·show 1%n*a^e.toNat%n=_
  rw [Pw.qH,Int.one_mul]
 rintro⟨l,r,b⟩ H1 ⟨rfl,h1,h2,h3,h4,h5⟩
 replace h1:-(10^100)<=b:=h1
 replace h2:b<=10^100:=h2
 replace h3:0<=r:=h3
 replace h4:r<n:=h4
 replace h5:r*b^l%n=a^e.toNat%n:=h5
 k_data
 refine aH (λc=>?_) (λc=>?_)
 ·refine⟨_,λ_ _ z=>z,λσ' H2=>H2=H1/\σ'=[some (.int n),some (.int b),some (.int (l:Int)),some (.int (if l%2=1 then r*b%n else r))],?_,?_⟩
  ·k_data
   refine aH (λc=>?_) (λc=>?_)
   ·exact⟨Bd.of (by omega) (by omega),Bd.of (by omega) (by omega),hn,by rw [if_pos (by omega)]⟩
   ·rw [if_neg (by omega)]
  rintro σ' H2 ⟨rfl,rfl⟩
  k_data
  have z0:0<=(if l%2=1 then r*b%n else r)/\(if l%2=1 then r*b%n else r)<n:=by
   split
   ·exact⟨r0 _,r1 _⟩
   ·exact⟨h3,h4⟩
  have b0:=r0 (b*b)
  have b1:=r1 (b*b)
  refine⟨Bd.of (by omega) (by omega),Bd.of (by omega) (by omega),hn,eg (by decide),(l/2,(if l%2=1 then r*b%n else r),b*b%n),rfl,(by show (l:Int)/2=((l/2:Nat):Int);omega),rfl,by show -(10^100)<=b*b%n;omega,by show b*b%n<=10^100;omega,z0.1,z0.2,?_,?_⟩
  ·show (if l%2=1 then r*b%n else r)*(b*b%n)^(l/2)%n=_
   rw [Pw.step]
   exact h5
  ·show l/2<l
   omega
 ·have l0:l=0:=by omega
  subst l0
  rw [Int.pow_zero,Int.mul_one,Int.emod_eq_of_lt h3 h4] at h5
  rw [h5]
  exact q
def fL:Sp:=λvs H Q _=>∃ n:Int,vs=[.int n]/\n<=10^60/\∀ b:Bool,(b=true↔Num.Pm n)->Q (.bl b) H
theorem qJ {n d:Int} (hn:1<n) (d2:2<=d) (no:∀ k,2<=k->k<d->¬k∣n) (h:n<d*d):Num.Pm n:=⟨by omega,λe e2 en hd=>by
 rcases (by omega:e<d∨d<=e) with z | z
 ·exact no e e2 z hd
 ·obtain⟨c,hc⟩:=hd
  have c2:2<=c:=by
   rcases (by omega:c<=0∨c=1∨2<=c) with y | y | y
   ·have:=Int.mul_nonpos_of_nonneg_of_nonpos (show 0<=e by omega) y
    omega
   ·rw [y] at hc
    omega
   ·exact y
  have cd:c<d:=by
   rcases (by omega:c<d∨d<=c) with y | y
   ·exact y
   ·have:=Int.mul_le_mul z y (by omega) (by omega)
    omega
  exact no c c2 cd ⟨e,by rw [hc,Int.mul_comm]⟩⟩
theorem cY:az ["_law_n","_law_d"] ["_law_n"] (ao (top 36)):=eZ
theorem ma (D:ax K mg "_law_is_prime" (top 36)):Callee P w K mg base bc 1 "_law_is_prime" ["_law_n"] fL:=by
 refine cO D cY (λf cdv A outer s H vs Q E hr h=>?_)
 obtain⟨n,rfl,hn,q⟩:=h
 have nd:=cY.nd
 refine⟨_,(ah (bU (i:=1) nd ae) (ah (bw PassesOwn.never (aw jQ (aj bb (pv 1) (pv 1)) (pv 0) (av _)) (ah (aZ (aw bO (aj ay (pv 0) (pv 1)) ae (av _)) (ak (aA bT)) aF) (ak (bU (i:=1) nd (aj aQ (pv 1) ae))))) (ak (aA (bB cu (pv 0) ae (av _)))))),?_⟩
 show b9 _ _ _ [some (.int n),none] H
 k_data
 refine bF (α:=Int) (λx=>[some (.int n),some (.int x)]) (λx H1=>H1=H/\2<=x/\x<=10^60+2/\∀ k,2<=k->k<x->¬k∣n) (λx=>(n+2-x).toNat) 2 rfl ⟨rfl,by omega,by omega,λk k1 k2=>by omega⟩ ?_
 rintro x H1 ⟨rfl,x2,x3,no⟩
 replace x2:2<=x:=x2
 replace x3:x<=10^60+2:=x3
 replace no:∀ k,2<=k->k<x->¬k∣n:=no
 k_data
 refine⟨Bd.of (by omega) (by omega),Bd.of (by omega) (by omega),?_⟩
 refine aH (λc=>?_) (λc=>?_)
 ·have xn:x<n:=by
   have:=Int.mul_le_mul_of_nonneg_left x2 (show 0<=x by omega)
   omega
  refine⟨_,λ_ _ z=>z,by omega,?_⟩
  refine aH (λc2=>?_) (λc2=>?_)
  ·exact q false ⟨λz=>(by cases z),λz=>absurd (Int.dvd_of_emod_eq_zero c2) (z.no x x2 xn)⟩
  ·refine⟨x+1,rfl,rfl,by omega,by omega,λk k1 k2=>?_,by omega⟩
   rcases (by omega:k<x∨k=x) with z | z
   ·exact no k k1 z
   ·rw [z];exact λy=>c2 (Int.emod_eq_zero_of_dvd y)
 ·refine q _ ⟨λz=>?_,λz=>?_⟩
  ·exact qJ (of_decide_eq_true z) x2 no (by omega)
  ·exact decide_eq_true (show 1<n by have:=z.two;omega)
theorem mR {ns:List Int} {lo hi:Option Int} {x:V} (h:x∈eI (ns.map V.int) lo hi):∃ c,x=.int c:=by
 unfold eI at h
 have:=List.mem_of_mem_drop (List.mem_of_mem_take h)
 obtain⟨c,_,e⟩:=List.mem_map.mp this
 exact⟨c,e.symm⟩
theorem i3 {x y k lo hi:Int} {p:Addr} {H':Hp} {Q:VK} (e:H' p=some (.lst [.int x,.int y])) (h0:0<=k) (h1:k<2) (hx:lo<=x/\x<hi) (hy:lo<=y/\y<hi) (q:∀ m,lo<=m->m<hi->Q (.int m) H'):ml K (.ref p) (.int k) H' Q :=
 cm (bf.of e) h0 (by show _<(2:Int);omega) λv hv=>by
  simp only [List.mem_cons,List.not_mem_nil,or_false] at hv
  rcases hv with rfl | rfl
  ·exact q _ hx.1 hx.2
  ·exact q _ hy.1 hy.2
theorem pU {a d L:Int} (hd:0<d) (h0:-L<=a) (h1:a<=L):-L<=a/d/\a/d<=L:=by
 have L0:0<=L:=by omega
 have h2:L*1<=L*d:=Int.mul_le_mul_of_nonneg_left (show 1<=d by omega) L0
 refine⟨Int.le_ediv_of_mul_le hd (by rw [Int.neg_mul];omega),Int.ediv_le_of_le_mul hd (by omega)⟩
def qL (K:PySem.W.Frag):Sp:=λvs H Q _=>∃(a:Addr) (ns:List Int),vs=[.ref a]/\bf K H a (ns.map V.int)/\ns.length<=63/\∀ H',Q (.bl true) H'
theorem hG:∀{ds:List PyData} {d:PyData},d∈ds->bP d<=aJ ds
 | a::r,d,h=>by
  show _<=bP a+aJ r
  rcases List.mem_cons.mp h with z | z
  ·rw [z];omega
  ·have:=hG z;omega
theorem eU:az ["_law_found"] ["_law_found"] (ao (top 34)):=eZ
theorem tM (D:ax K mg "_law_whole" (top 34)) (n_isinstance:mg "isinstance"=none) (n_int:mg "int"=none) (n_bool:mg "bool"=none):Callee P w K mg base bc 1 "_law_whole" ["_law_found"] (sk K):=by
 refine cO D eU (λf cdv A outer s H vs Q E hr h=>?_)
 obtain⟨d,v,rfl,hd,q⟩:=h
 have nd:=eU.nd
 refine⟨_,(ak (aA (bS (aE bA rfl n_isinstance PyProof.Rows.boot_isinstance (aa (pv 0) (aa (b6 (v:=.ty "int") rfl n_int L2.boot_int rfl) ag))) (dB (kF (aE bA rfl n_isinstance PyProof.Rows.boot_isinstance (aa (pv 0) (aa (b6 (v:=.ty "bool") rfl n_bool L2.boot_bool rfl) ag)))))))),?_⟩
 show ie _ _ [some v] H
 k_data
 refine lu hd ?_
 k_data
 refine aH (λc=>?_) (λc=>?_)
 ·refine gA hd ?_
  k_data
  cases d<;>first | exact q | simp [qx,tF] at c
 ·cases d<;>first | exact q | exact absurd rfl c
def tD:Nat->PyData->Prop
 | 0,_=>False
 | _+1,.int n=>n<=10^60
 | L+1,.tuple ds=>∀ x∈ds,tD L x
 | L+1,.list ds=>∀ x∈ds,tD L x
 | _+1,_=>True
theorem jw {L:Nat} {ds:List PyData} (h:tD L (.tuple ds)):∃ M,L=M+1/\∀ x∈ds,tD M x:=by
 cases L with
 | zero=>exact (show False from h).elim
 | succ M=>exact⟨M,rfl,h⟩
theorem kN {L:Nat} {n:Int} (h:tD L (.int n)):n<=10^60:=by
 cases L with
 | zero=>exact (show False from h).elim
 | succ M=>exact h
theorem tD.sm:∀{L:Nat} {d:PyData},tD L d->hZ d
 | 0,_,h=>h.elim
 | L+1,d,h=>by
  cases d with
  | int n =>
   have h:n<=10^60:=h
   simp only [hZ]
   omega
  | tuple ds =>
   simp only [hZ]
   exact gf λx hx=>tD.sm ((show ∀ x∈ds,tD L x from h) x hx)
  | list ds =>
   simp only [hZ]
   exact gf λx hx=>tD.sm ((show ∀ x∈ds,tD L x from h) x hx)
  | none=>simp only [hZ]
  | bool b=>simp only [hZ]
  | str b=>simp only [hZ]
  | dict b=>simp only [hZ]
theorem tD.mono:∀{L M:Nat} {d:PyData},tD L d->L<=M->tD M d
 | 0,_,_,h,_=>h.elim
 | L+1,0,d,h,z=>absurd z (by omega)
 | L+1,M+1,d,h,z=>by
  cases d with
  | int n=>exact h
  | tuple ds=>exact λx hx=>tD.mono ((show ∀ x∈ds,tD L x from h) x hx) (by omega)
  | list ds=>exact λx hx=>tD.mono ((show ∀ x∈ds,tD L x from h) x hx) (by omega)
  | none=>exact True.intro
  | bool b=>exact True.intro
  | str b=>exact True.intro
  | dict b=>exact True.intro
def PR (t:Int) (d:PyData):Prop:=∃ p g k rs,d=.tuple [.tuple [.int p,.int g,.tuple rs],.int k]/\PP (.tuple [.int p,.int g,.tuple rs])/\1<=k/\t<p
def jX (K:PySem.W.Frag) (L:Nat):Sp:=λvs H Q _=>∃ d v,vs=[v]/\dv K H d v/\tD (3*L) d/\bP d<=10^5/\∀ b H',(b=true↔PP d)->au H H'->Q (.bl b) H'
def jY (K:PySem.W.Frag) (L:Nat):Sp:=λvs H Q _=>∃ d v t,vs=[v,.int t]/\dv K H d v/\tD (3*L+1) d/\bP d<=10^5/\∀ b H',(b=true↔PR t d)->au H H'->Q (.bl b) H'
theorem b4:az ["_law_thing","_law_p","_law_full","_law_parts","_law_last","_law_left","_law_part","_law_turn"] ["_law_thing"] (ao (top 39)):=eZ
theorem dG:az ["_law_part","_law_last"] ["_law_part","_law_last"] (ao (top 38)):=eZ
theorem pG (D:ax K mg "_law_is_paper" (top 39)):Callee P w K mg base bc 1 "_law_is_paper" ["_law_thing"] (jX K 0):=by
 refine cO D b4 (λf cdv A outer s H vs Q E hr h=>?_)
 obtain⟨d,v,rfl,hv,ht,_⟩:=h
 exact (show False from ht).elim
theorem nS {p g:Int} {rs:List PyData} (h:PP (.tuple [.int p,.int g,.tuple rs])):2<=p:=by
 cases h with
 | mk _ _ _ h1 _ =>
  obtain⟨p',g',rows,e,h2,_⟩:=h1
  cases e
  exact h2
theorem cp {d:PyData} (h:PP d):∃ p g rs,d=.tuple [.int p,.int g,.tuple rs]:=by
 cases h with
 | mk p g rs _ _=>exact⟨p,g,rs,rfl⟩
theorem l8 {L:Nat} (D:ax K mg "_law_is_part" (top 38)) (c__law_whole:Callee P w K mg base bc 1 "_law_whole" ["_law_found"] (sk K)) (c__law_is_paper:Callee P w K mg base bc (2*L+1) "_law_is_paper" ["_law_thing"] (jX K L)) (n_isinstance:mg "isinstance"=none) (n_tuple:mg "tuple"=none) (n_len:mg "len"=none):Callee P w K mg base bc (2*L+2) "_law_is_part" ["_law_part","_law_last"] (jY K L):=by
 refine cO D dG (λf cdv A outer s H vs Q E hr h=>?_)
 obtain⟨d,v,t,rfl,hv,ht,hsz,q⟩:=h
 have nd:=dG.nd
 refine⟨_,(ah (aZ (PW.pt (cW (bE (aX (aE bA rfl n_isinstance PyProof.Rows.boot_isinstance (aa (pv 0) (aa (b6 (v:=.ty "tuple") rfl n_tuple L2.boot_tuple rfl) ag))) (λ_=>rfl))) (cW (aw gG (aE bN rfl n_len PySem.boot_len (aa (pv 0) ag)) ae (av _)) (cW (bE (aX (aG c__law_is_paper (hr.mono (by omega)) rfl aM (aa (aB aO (pv 0) ae (λ_ _=>rfl)) ag)) (λ_=>rfl))) (eY (bE (aX (aG c__law_whole (hr.mono (by omega)) rfl aM (aa (aB aO (pv 0) ae (λ_ _=>rfl)) ag)) (λ_=>rfl)))))))) (ak (aA bT)) aF) (ak (aA (bS (bB lx (aB aO (pv 0) ae (λ_ _=>rfl)) ae (av _)) (dB (bB cu (aB aO (aB aO (pv 0) ae (λ_ _=>rfl)) ae (λ_ _=>rfl)) (pv 1) (av _))))))),?_⟩
 show b9 _ _ _ [some v,some (.int t)] H
 k_data
 have no:∀{H'},au H H'->¬PR t d->Q (.bl false) H':=λs' z=>q false _ ⟨λy=>(by cases y),λy=>absurd y z⟩ s'
 refine fo hv ⟨_,bp.mpr rfl,?_⟩
 refine aH (λc2=>?_) (λc2=>?_)
 ·refine no (au.refl _) fun⟨p,g,k,rs,e,_⟩=>?_
  rw [e] at c2
  cases c2
 obtain⟨ds,rfl⟩:=f7 (by simpa using c2)
 obtain⟨b,ys,rfl,hT,dy⟩:=hv
 have yl:=dy.length
 refine cI hT ⟨cQ,?_⟩
 refine aH (λc3=>?_) (λc3=>?_)
 ·refine no (au.refl _) fun⟨p,g,k,rs,e,_⟩=>?_
  cases e
  exact absurd c3 (by simp [yl])
 obtain⟨d1,d2,rfl⟩:∃ d1 d2,ds=[d1,d2]:=by
  match ds,(show ds.length=2 by rw [<- yl];by_cases z:ys.length=2;exact z;exact absurd (by simp;omega) c3) with
  | [d1,d2],_=>exact⟨_,_,rfl⟩
 obtain⟨y1,ry1,rfl,h1,y2,ry2,rfl,h2,z⟩:=dy
 cases z
 have t1:tD (3*L) d1:=(show ∀ x∈[d1,d2],tD (3*L) x from ht) d1 (by simp)
 simp only [bP,aJ] at hsz
 refine br hT ip ⟨d1,y1,rfl,h1,t1,by omega,λb1 H1 hb1 s1=>⟨b1,bp.mpr rfl,?_⟩⟩
 refine aH (λc4=>?_) (λc4=>?_)
 ·refine no s1 fun⟨p,g,k,rs,e,z,_⟩=>?_
  cases e
  rw [hb1.mpr z] at c4
  cases c4
 have hpp:PP d1:=hb1.mp (by simpa using c4)
 obtain⟨p,g,rs,rfl⟩:=cp hpp
 have hT1:=hT.same s1
 refine br hT1 ow ⟨d2,y2,rfl,dv.same s1 _ h2,_,bp.mpr rfl,?_⟩
 refine aH (λc5=>?_) (λc5=>?_)
 ·refine no s1 fun⟨p,g,k,rs,e,_⟩=>?_
  cases e
  cases c5
 obtain⟨k,rfl⟩:=ez (by simpa using c5)
 cases h2
 refine br hT1 ow ⟨k,rfl,?_⟩
 obtain⟨pa,x1,x2,x3,rfl,hSu,f1,f2,f3⟩:=mU h1
 cases f1
 refine aH (λc6=>?_) (λc6=>?_)
 ·refine br hT1 ip (br (hSu.same s1) ip ⟨p,rfl,?_⟩)
  refine q _ _ ?_ s1
  rw [decide_eq_true_eq]
  exact⟨λz=>⟨p,g,k,rs,rfl,hpp,by omega,by omega⟩,fun⟨p',g',k',rs',e,_,_,z⟩=>by cases e;omega⟩
 ·refine no s1 fun⟨p',g',k',rs',e,_,z,_⟩=>?_
  cases e
  omega
def j6 (l t:Int) (rows:List PyData):Prop:=CT 2 l t rows/\∀ r∈rows,PP (gj r)
theorem j6.row {l t p g k:Int} {rs more ds:List PyData} (h:j6 l t (.tuple (.tuple [.int p,.int g,.tuple rs]::.int k::more)::ds)):more=[]/\PP (.tuple [.int p,.int g,.tuple rs])/\1<=k/\t<p/\p^k.toNat∣l/\∀ r,l=p^k.toNat*r->j6 r p ds:=by
 obtain⟨⟨l1,p',g',k',rs',more',e,e2,e3,e4,e5,r,hw,hc⟩,hp⟩:=h
 simp only [PyData.tuple.injEq,List.cons.injEq,PyData.int.injEq] at e
 obtain⟨⟨rfl,rfl,rfl,_⟩,rfl,rfl⟩:=e
 have pp:=Num.aR (show 0<p by omega) k.toNat
 have r0:r≠0:=λz=>by
  subst z
  cases ds with
  | nil=>exact absurd (show (0:Int)=1 from hc) (by decide)
  | cons d ds=>exact absurd hc.1 (by decide)
 refine⟨List.length_eq_zero_iff.mp (by omega),hp _ (List.mem_cons_self ..),e4,e5,?_,λr' er=>⟨?_,λx hx=>hp x (List.mem_cons_of_mem _ hx)⟩⟩
 ·rcases hw with⟨z,_⟩|⟨_,z⟩
  ·exact z
  ·exact absurd z r0
 ·rcases hw with⟨_,z⟩|⟨_,z⟩
  ·rw [z] at er
   rw [<- Int.eq_of_mul_eq_mul_left (by omega) er]
   exact hc
  ·exact absurd z r0
theorem j6.mk {l t p g k r:Int} {rs ds:List PyData} (l1:1<=l) (h2:2<=p) (k1:1<=k) (tp:t<p) (hp:PP (.tuple [.int p,.int g,.tuple rs])) (e:l=p^k.toNat*r) (h:j6 r p ds):j6 l t (.tuple [.tuple [.int p,.int g,.tuple rs],.int k]::ds) :=
 ⟨⟨l1,p,g,k,rs,[],rfl,rfl,h2,k1,tp,r,.inl ⟨⟨r,e⟩,e⟩,h.1⟩,λx hx=>(List.mem_cons.mp hx).elim (λz=>z▸hp) λz=>h.2 x z⟩
theorem j6.pr {l t:Int} {d:PyData} {ds:List PyData} (h:j6 l t (d::ds)):PR t d:=by
 obtain⟨⟨l1,p',g',k',rs',more',e,e2,e3,e4,e5,r,hw,hc⟩,hp⟩:=h
 have:more'=[]:=List.length_eq_zero_iff.mp (by omega)
 subst this
 subst e
 exact⟨p',g',k',rs',rfl,hp _ (List.mem_cons_self ..),e4,e5⟩
theorem two_pow_le {p:Int} (h:2<=p):∀ k:Nat,(2:Int)^k<=p^k
 | 0=>by rw [Int.pow_zero,Int.pow_zero];exact Int.le_refl _
 | k+1=>by
  have h1:=two_pow_le h k
  have h2:=Num.aR (show (0:Int)<2 by decide) k
  rw [Int.pow_succ,Int.pow_succ]
  exact Int.mul_le_mul h1 h (by decide) (by omega)
theorem gK {p g:Int} {rows:List PyData}:PP (.tuple [.int p,.int g,.tuple rows])↔(2<=p/\1<=g/\g<p)/\j6 (p-1) 1 rows/\sO p g (p-1) (rows.map qD):=by
 constructor
 ·intro h
  cases h with
  | mk _ _ _ h1 h2 =>
   obtain⟨p',g',rows',e,a1,a2,a3,a4,a5⟩:=h1
   cases e
   exact⟨⟨a1,a2,a3⟩,⟨a4,h2⟩,a5⟩
 ·rintro⟨⟨a1,a2,a3⟩,⟨a4,h2⟩,a5⟩
  exact .mk p g rows ⟨p,g,rows,rfl,a1,a2,a3,a4,a5⟩ h2
def vR (H:Hp) (v u:V) (p g:Int) (rows:List PyData) (i:Nat) (σ:List (Option V)) (H':Hp):Prop:=au H H'/\∃(l t:Int) (o1 o2:Option V),σ=[some v,some (.int p),some (.int g),some u,some (.int t),some (.int l),o1,o2]/\1<=l/\l<=p-1/\(j6 (p-1) 1 rows↔j6 l t (rows.drop i))
def vS (H:Hp) (v u x:V) (p g l q:Int) (j:Nat) (σ:List (Option V)) (H':Hp):Prop:=H'=H/\∃(c:Int) (o:Option V),σ=[some v,some (.int p),some (.int g),some u,some (.int q),some (.int c),some x,o]/\1<=c/\l=q^j*c
theorem pH {L:Nat} (D:ax K mg "_law_is_paper" (top 39)) (c__law_whole:Callee P w K mg base bc 1 "_law_whole" ["_law_found"] (sk K)) (c__law_power:Callee P w K mg base bc 1 "_law_power" ["_law_n","_law_a","_law_e"] kM) (c__law_is_part:Callee P w K mg base bc (2*L+2) "_law_is_part" ["_law_part","_law_last"] (jY K L)) (n_isinstance:mg "isinstance"=none) (n_tuple:mg "tuple"=none) (n_len:mg "len"=none) (n_range:mg "range"=none) (n_min:mg "min"=none) (n_any:mg "any"=none):Callee P w K mg base bc (2*L+3) "_law_is_paper" ["_law_thing"] (jX K (L+1)):=by
 refine cO D b4 (λf cdv A outer s H vs Q E hr h=>?_)
 obtain⟨d,v,rfl,hv,ht,hsz,q⟩:=h
 have nd:=b4.nd
 refine⟨_,(ah (aZ (PW.pt (cW (bE (aX (aE bA rfl n_isinstance PyProof.Rows.boot_isinstance (aa (pv 0) (aa (b6 (v:=.ty "tuple") rfl n_tuple L2.boot_tuple rfl) ag))) (λ_=>rfl))) (cW (aw gG (aE bN rfl n_len PySem.boot_len (aa (pv 0) ag)) ae (av _)) (cW (bE (aX (aG c__law_whole (hr.mono (by omega)) rfl aM (aa (aB aO (pv 0) ae (λ_ _=>rfl)) ag)) (λ_=>rfl))) (eY (bE (aX (aG c__law_whole (hr.mono (by omega)) rfl aM (aa (aB aO (pv 0) ae (λ_ _=>rfl)) ag)) (λ_=>rfl)))))))) (ak (aA bT)) aF) (ah (dR (pv 0) (dC (n:=3) rfl (aI (aD (i:=1) nd rfl (Or.inr rfl) (.inl rfl)) (aI (aD (i:=2) nd rfl (Or.inr rfl) (.inl rfl)) (aI (aD (i:=3) nd rfl (Or.inl rfl) (.inr rfl)) cn))))) (ah (aZ (PW.pt (cW (aw cT (pv 1) ae (av _)) (cW (bE (nU jQ cT ae (pv 2) (pv 1))) (eY (bE (aX (aE bA rfl n_isinstance PyProof.Rows.boot_isinstance (aa (pv 3) (aa (b6 (v:=.ty "tuple") rfl n_tuple L2.boot_tuple rfl) ag))) (λ_=>rfl))))))) (ak (aA bT)) aF) (ah (bU (i:=4) nd ae) (ah (bU (i:=5) nd (aj aW (pv 1) ae)) (ah (fJ PassesOwn.never rfl (fH (pv 3)) (aD (i:=6) nd rfl (Or.inl rfl) (.inr rfl)) (ah (aZ (bE (aX (aG c__law_is_part (hr.mono (by omega)) rfl aM (aa (pv 6) (aa (pv 4) ag))) (λ_=>rfl))) (ak (aA bT)) aF) (ah (bU (i:=4) nd (aB aO (aB aO (pv 6) ae (λ_ _=>rfl)) ae (λ_ _=>rfl))) (ak (fJ PassesOwn.never rfl (iH rfl n_range (aa (aE (lR rfl) rfl n_min L2.boot_min (aa (aB aO (pv 6) ae (λ_ _=>rfl)) (aa ae ag))) ag)) (aD (i:=7) nd rfl (Or.inl rfl) (.inr rfl)) (ah (aZ (aw gG (aj ay (pv 5) (pv 4)) ae (av _)) (ak (aA bT)) aF) (ak (bU (i:=5) nd (aj aL (pv 5) (pv 4)))))))))) (ah (aZ (PW.pt (cW (aw gG (pv 5) ae (av _)) (eY (aw gG (aG c__law_power (hr.mono (by omega)) rfl aM (aa (pv 1) (aa (pv 2) (aa (aj aW (pv 1) ae) ag)))) ae (av _))))) (ak (aA bT)) aF) (ak (aA (kF (aE (mP rfl) rfl n_any L2.boot_any (aa (fS rfl (qi (N':=["_law_part","_law_p","_law_full"]) (js:=[none,some 1,some 2]) rfl rfl) (fH (pv 3)) (λ_ _ _ _=>(aD (i:=0) (show List.Nodup [("_law_part":Str),("_law_p":Str),("_law_full":Str)] from by decide +kernel) rfl (Or.inl rfl) (.inr rfl))) (λ_ _ _ _=>cw) (λ_ _ _ _=>(bB bO (aG c__law_power (hr.mono (by omega)) rfl aM (aa (pv 1) (aa (pv 2) (aa (aj aL (aj aW (pv 1) ae) (aB (dw K rfl) (aB (dw K rfl) (pv 0) ae (λ_ _=>rfl)) ae (λ_ _=>rfl))) ag)))) ae (av _)))) ag)))))))))))),?_⟩
 show b9 _ _ _ [some v,none,none,none,none,none,none,none] H
 k_data
 have no:∀{H'},au H H'->¬PP d->Q (.bl false) H':=λs' z=>q false _ ⟨λy=>(by cases y),λy=>absurd y z⟩ s'
 refine fo hv ⟨_,bp.mpr rfl,?_⟩
 refine aH (λc2=>?_) (λc2=>?_)
 ·refine no (au.refl _) λz=>?_
  obtain⟨p,g,rs,e⟩:=cp z
  rw [e] at c2
  cases c2
 obtain⟨ds,rfl⟩:=f7 (by simpa using c2)
 obtain⟨b,ys,rfl,hT,dy⟩:=hv
 have yl:=dy.length
 refine cI hT ⟨cQ,?_⟩
 refine aH (λc3=>?_) (λc3=>?_)
 ·refine no (au.refl _) λz=>?_
  obtain⟨p,g,rs,e⟩:=cp z
  cases e
  exact absurd c3 (by simp [yl])
 obtain⟨d1,d2,d3,rfl⟩:=tG (ds:=ds) (by rw [<- yl];by_cases z:ys.length=3;exact z;exact absurd (by simp;omega) c3)
 obtain⟨y1,r1,rfl,h1,y2,r2,rfl,h2,y3,r3,rfl,h3,z⟩:=dy
 cases z
 clear yl c2 c3
 refine br hT ip ⟨d1,y1,rfl,h1,_,bp.mpr rfl,?_⟩
 refine aH (λc4=>?_) (λc4=>?_)
 ·refine no (au.refl _) λz=>?_
  obtain⟨p,g,rs,e⟩:=cp z
  cases e
  cases c4
 obtain⟨p,rfl⟩:=ez (by simpa using c4)
 cases h1
 refine br hT ow ⟨d2,y2,rfl,h2,_,bp.mpr rfl,?_⟩
 refine aH (λc5=>?_) (λc5=>?_)
 ·refine no (au.refl _) λz=>?_
  obtain⟨p,g,rs,e⟩:=cp z
  cases e
  cases c5
 obtain⟨g,rfl⟩:=ez (by simpa using c5)
 cases h2
 refine⟨b,_,rfl,hT,rfl,?_⟩
 k_data
 have t3:∀ x∈[PyData.int p,PyData.int g,d3],tD (3*L+2) x:=ht
 have p60:p<=10^60:=kN (t3 _ (by simp))
 have td3:=t3 d3 (by simp)
 clear t3 ht c4 c5
 refine aH (λc6=>?_) (λc6=>?_)
 ·refine no (au.refl _) λz=>?_
  obtain⟨p',g',rs,e⟩:=cp z
  cases e
  have:=nS z
  omega
 simp only [jv,mw,tC,lC,List.getElem?_cons_zero,List.getElem?_cons_succ,Option.some.injEq,exists_eq_left',V.int.injEq,exists_and_left,V.bl.injEq]
 have no1:∀{H'},au H H'->¬(1<=g/\g<p)->Q (.bl false) H':=λs' z=>no s' λy=>by
  obtain⟨p',g',rs,e⟩:=cp y
  cases e
  exact z (gK.mp y).1.2
 refine aH (λc7=>aH (λc8=>no1 (au.refl _) (λz=>absurd c8 (by simp;omega))) (λc8=>?_)) (λc7=>by rw [if_pos True.intro];exact no1 (au.refl _) (λz=>c7 (decide_eq_true z.1)))
 have g1:1<=g:=of_decide_eq_true c7
 have g2:g<p:=by simpa using c8
 refine fo h3 ⟨_,bp.mpr rfl,?_⟩
 refine aH (λc9=>?_) (λc9=>?_)
 ·refine no (au.refl _) λz=>?_
  obtain⟨p',g',rs,e⟩:=cp z
  cases e
  cases c9
 obtain⟨rows,rfl⟩:=f7 (by simpa using c9)
 obtain⟨a,xs,rfl,hS,dd⟩:=h3
 have xl:=dd.length
 have tr:∀ x∈rows,tD (3*L+1) x:=td3
 simp only [bP,aJ] at hsz
 have p2:2<=p:=by omega
 clear no1 c7 c8 c9 c6 td3
 have no2:∀{H'},au H H'->¬j6 (p-1) 1 rows->Q (.bl false) H':=λs' z=>no s' λy=>z (gK.mp y).2.1
 refine⟨a,rfl,⟨_,hS⟩,?_⟩
 refine jL (xs:=xs) (vR H (.ref b) (.ref a) p g rows) ⟨au.refl _,p-1,1,none,none,rfl,by omega,Int.le_refl _,by rw [List.drop_zero]⟩ (λi σ' H' _ h=>hS.same h.1) ?_ ?_
 ·rintro i x σ' H' hx ⟨s1,l,t,o1,o2,rfl,l1,ln,hc⟩
  obtain⟨r,hr',hvr⟩:=dd.get hx
  have dr:rows.drop i=r::rows.drop (i+1):=by
   obtain⟨hi,e⟩:=List.getElem?_eq_some_iff.mp hr'
   rw [List.drop_eq_getElem_cons hi,e]
  rw [dr] at hc
  have rm:=List.mem_of_getElem? hr'
  have no3:∀{H'},au H H'->¬j6 l t (r::rows.drop (i+1))->Q (.bl false) H':=λs' z=>no2 s' λy=>z (hc.mp y)
  have hv1:=dv.same s1 _ hvr
  have szr:=hG rm
  k_data
  refine⟨r,x,t,rfl,hv1,tr r rm,by omega,λb1 H1 hb1 s2=>⟨b1,bp.mpr rfl,?_⟩⟩
  have S1:=s1.trans s2
  refine aH (λc6=>?_) (λc6=>?_)
  ·refine no3 S1 λz=>?_
   rw [hb1.mpr z.pr] at c6
   cases c6
  obtain⟨q',g',k,rs,rfl,hpp,k1,tq⟩:=hb1.mp (by simpa using c6)
  have q2:=nS hpp
  have q60:q'<=10^60:=by
   obtain⟨M,e,z⟩:=jw (tr _ rm)
   obtain⟨M',e',z'⟩:=jw (z (.tuple [.int q',.int g',.tuple rs]) (List.mem_cons_self ..))
   exact kN (z' (.int q') (List.mem_cons_self ..))
  obtain⟨pt,ys,rfl,hT2,y1,ry1,rfl,h1,y2,ry2,rfl,h2,z⟩:=dv.same s2 _ hv1
  cases z
  cases h2
  obtain⟨pa,x1,x2,x3,rfl,hU,f1,f2,f3⟩:=mU h1
  cases f1
  refine br hT2 ip (br hU ip ?_)
  refine br hT2 ow ⟨k,rfl,?_⟩
  obtain⟨m,hm,m1,m3,mk⟩:∃ m:Nat,(if (300:Int)<k then (300:Int) else k).toNat=m/\m<=300/\(m:Int)<=k/\((m:Int)=k∨m=300):=⟨_,rfl,by split<;>omega,by split<;>omega,by split<;>omega⟩
  refine⟨by split<;>omega,by split<;>omega,?_⟩
  rw [hm]
  refine gD (vS H1 (.ref b) (.ref a) (.ref pt) p g l q') ⟨rfl,l,o2,rfl,l1,by rw [Int.pow_zero,Int.one_mul]⟩ ?_ ?_
  ·rintro j σ2 H2 hj ⟨rfl,c,o,rfl,c1,e⟩
   k_data
   refine⟨by omega,?_⟩
   have pj:=Num.aR (show 0<q' by omega) j
   refine aH (λc8=>?_) (λc8=>?_)
   ·refine no3 S1 λz=>?_
    obtain⟨w,hw⟩:=z.row.2.2.2.2.1
    have e3:q'^k.toNat=q'^j*q'^(k.toNat-j):=by rw [<- Pw.pow_add];congr 1;omega
    rw [e,e3,Int.mul_assoc] at hw
    have hw2:=Int.eq_of_mul_eq_mul_left (by omega) hw
    obtain⟨i',hi'⟩:∃ i',k.toNat-j=i'+1:=⟨k.toNat-j-1,by omega⟩
    rw [hi',Int.pow_succ,Int.mul_comm (q'^i') q',Int.mul_assoc] at hw2
    exact c8 (Int.emod_eq_zero_of_dvd ⟨_,hw2⟩)
   ·have c8':c%q'=0:=by omega
    obtain⟨y,hy⟩:=Int.dvd_of_emod_eq_zero c8'
    have ey:c/q'=y:=by rw [hy];exact Int.mul_ediv_cancel_left _ (by omega)
    have y1:1<=y:=by
     rcases (by omega:y<=0∨1<=y) with z | z
     ·have:=Int.mul_nonpos_of_nonneg_of_nonpos (show 0<=q' by omega) z
      omega
     ·exact z
    refine⟨by omega,Bd.of (by omega) (by omega),rfl,y,_,by rw [ey],y1,?_⟩
    rw [Int.pow_succ,Int.mul_assoc,<- hy]
    exact e
  ·rintro σ2 H2 ⟨rfl,c,o,rfl,c1,e⟩
   have pm:=Num.aR (show 0<q' by omega) m
   have mk':(m:Int)=k:=by
    rcases mk with z | z
    ·exact z
    ·exfalso
     subst z
     have h1:=two_pow_le q2 250
     have h0:=Num.aR (show 0<q' by omega) 50
     have h4:=Num.aR (show 0<q' by omega) 250
     have e5:q'^300=q'^250*q'^50:=by rw [<- Pw.pow_add]
     have h5:q'^250*1<=q'^250*q'^50:=Int.mul_le_mul_of_nonneg_left (by omega) (by omega)
     have h2:q'^300*1<=q'^300*c:=Int.mul_le_mul_of_nonneg_left c1 (by omega)
     have h3:(10:Int)^60<2^250:=by decide
     omega
   refine⟨S1,c,q',_,o,rfl,c1,?_,?_⟩
   ·have:1*c<=q'^m*c:=Int.mul_le_mul_of_nonneg_right (by omega) (by omega)
    omega
   ·have ek:l=q'^k.toNat*c:=by rw [e];congr 2;omega
    rw [hc]
    exact⟨λz=>z.row.2.2.2.2.2 c ek,λz=>j6.mk l1 q2 (by omega) (by omega) hpp ek z⟩
 ·rintro σ' H' ⟨s1,l,t,o1,o2,rfl,l1,ln,hc⟩
  k_data
  rw [xl,List.drop_length] at hc
  refine aH (λc1=>?_) (λc1=>?_)
  ·exact no2 s1 λz=>c1 (hc.mp z).1
  have l1':l=1:=by simpa using c1
  have lf:j6 (p-1) 1 rows:=hc.mpr ⟨l1',λr hr=>(List.not_mem_nil hr).elim⟩
  refine⟨p,g,p-1,rfl,by omega,by omega,by omega,by omega,by omega,?_⟩
  refine⟨cQ,?_⟩
  refine aH (λc2=>?_) (λc2=>?_)
  ·refine no s1 λz=>?_
   exact c2 (by rw [(gK.mp z).2.2.1])
  have e1:g^(p-1).toNat%p=1:=by simpa using c2
  have hSa:=hS.same s1
  refine⟨⟨_,hSa⟩,?_⟩
  refine eh (xs:=xs) (λi zs H3=>H3=H'/\zs=(((rows.take i).map qD).map λy=>decide (g^((p-1)/y).toNat%p=1)).map V.bl) ⟨rfl,rfl⟩ (Nat.le_trans (show xs.length<=10^5 by have:=b8 rows;omega) (by decide)) (λi zs H3 hi ⟨z1,z2⟩=>⟨by rw [z1];exact hSa,by rw [z2,List.length_map,List.length_map,List.length_map,List.length_take];omega⟩) ?_ ?_
  ·rintro i x zs H3 hx ⟨rfl,rfl⟩
   obtain⟨r,hr',hvr⟩:=dd.get hx
   have rm:=List.mem_of_getElem? hr'
   obtain⟨q',g',k',rs,more,rfl,h2,_⟩:=ei lf.1 r rm
   have q60:q'<=10^60:=by
    obtain⟨M,e,z⟩:=jw (tr _ rm)
    obtain⟨M',e',z'⟩:=jw (z (.tuple [.int q',.int g',.tuple rs]) (List.mem_cons_self ..))
    exact kN (z' (.int q') (List.mem_cons_self ..))
   obtain⟨pt,ys,rfl,hT2,y1,ry1,rfl,h1,_⟩:=dv.same s1 _ hvr
   obtain⟨pa,x1,x2,x3,rfl,hU,f1,f2,f3⟩:=mU h1
   cases f1
   show dF 0 _ [none,some (.int p),some (.int g)] _ _
   k_data
   refine⟨⟨rfl,rfl,True.intro⟩,br hT2 ip (br hU ip ⟨q',rfl,by omega,Bd.of (by omega) (by omega),?_⟩)⟩
   refine⟨p,g,(p-1)/q',rfl,by omega,by omega,by omega,by omega,Int.ediv_nonneg (by omega) (by omega),cQ,rfl,?_⟩
   rw [List.take_add_one,hr',List.map_append,List.map_append,List.map_append]
   congr 1
   simp [qD]
  ·rintro zs H3 p3 ⟨rfl,rfl⟩ hp3
   rw [xl,List.take_length]
   refine rg (bf.of af) ⟨_,rfl,?_⟩
   refine q _ _ ?_ (s1.trans (ai hp3))
   have an:((rows.map qD).map λy=>decide (g^((p-1)/y).toNat%p=1)).any id=false↔∀ y∈rows.map qD,g^((p-1)/y).toNat%p≠1:=by
    rw [List.any_eq_false]
    constructor
    ·intro z y hy e
     exact z _ (List.mem_map.mpr ⟨y,hy,rfl⟩) (decide_eq_true e)
    ·intro z x hx
     obtain⟨y,hy,rfl⟩:=List.mem_map.mp hx
     exact λe=>z y hy (of_decide_eq_true e)
   rw [gK,Bool.not_eq_true',an]
   exact⟨λz=>⟨⟨p2,g1,g2⟩,lf,e1,z⟩,λz=>z.2.2.2⟩
theorem ny (D:ax K mg "_law_is_paper" (top 39)) (D':ax K mg "_law_is_part" (top 38)) (c_w:Callee P w K mg base bc 1 "_law_whole" ["_law_found"] (sk K)) (c_p:Callee P w K mg base bc 1 "_law_power" ["_law_n","_law_a","_law_e"] kM) (n_isinstance:mg "isinstance"=none) (n_tuple:mg "tuple"=none) (n_len:mg "len"=none) (n_range:mg "range"=none) (n_min:mg "min"=none) (n_any:mg "any"=none):∀ L:Nat,Callee P w K mg base bc (2*L+1) "_law_is_paper" ["_law_thing"] (jX K L)
 | 0=>pG D
 | L+1=>pH D c_w c_p (l8 D' c_w (ny D D' c_w c_p n_isinstance n_tuple n_len n_range n_min n_any L) n_isinstance n_tuple n_len) n_isinstance n_tuple n_len n_range n_min n_any
end
end K
namespace K
open PySem PySem.Spec PyProof.Rows L2
section
variable {P:Program} {w:World} {K:PySem.W.Frag} {mg:Str->Option Value} {base:Heap} {F:Addr->Prop}
theorem ja {n:Int} {d:PyData} (h:Num.fO n d):n<=10^9/\2<=n/\Num.Pm n:=by
 cases h with
 | mk _ _ _ _ a b=>exact⟨b,a.two,a⟩
theorem nF:∀(L:Nat) {n:Int} {d:PyData},Num.Ht L n->Num.fO n d->tD (3*L) d
 | 0,n,d,h,_=>h.elim
 | L+1,n,d,h,hp=>by
  cases hp with
  | mk _ g ps ds pm n9 lf hP hl hds =>
   have p2:=pm.two
   have g9:=lf.lt
   intro x hx
   simp only [List.mem_cons,List.not_mem_nil,or_false] at hx
   rcases hx with rfl | rfl | rfl
   ·show n<=10^60;omega
   ·show g<=10^60;omega
   ·intro row hr
    obtain⟨i,q,k,hi,rfl⟩:=dU hr
    have hok:=hP.ok _ (List.mem_of_getElem? hi)
    have hdv:q∣n-1:=by
     have:=Num.cq (List.mem_of_getElem? hi) hok.2.1
     rwa [hP.prod] at this
    have ih:=nF L (h q hok.1 hdv) (hds i _ _ hi)
    have k3:k<=30:=hok.2.2
    intro y hy
    simp only [List.mem_cons,List.not_mem_nil,or_false] at hy
    rcases hy with rfl | rfl
    ·exact ih
    ·obtain⟨M,hM⟩:∃ M,3*L=M+1:=by
      cases L with
      | zero=>exact (show False from ih).elim
      | succ L=>exact⟨3*L+2,by omega⟩
     show tD (3*L) (.int k)
     rw [hM]
     show k<=10^60;omega
theorem nE {n:Int} {d:PyData} (h:Num.fO n d):tD 90 d:=nF 30 (Num.kn (ja h).2.2 (ja h).1) h
noncomputable def hl (F:Addr->Prop) (H:Hp):Hp:=λa=>match H a with
 | some (.lst xs)=>@ite _ (F a) (Classical.propDecidable _) (some (.lst xs)) none
 | o=>o
theorem km {F:Addr->Prop} {H:Hp} {a:Addr} {xs:List V} (h:H a=some (.lst xs)) (f:F a):hl F H a=some (.lst xs):=by
 unfold hl
 rw [h]
 exact if_pos f
theorem lp {F:Addr->Prop} {H:Hp} {a:Addr} {o:HO} (h:H a=some o) (n:∀ xs,o≠.lst xs):hl F H a=some o:=by
 unfold hl
 rw [h]
 cases o<;>first | rfl | exact absurd rfl (n _)
theorem lq {F:Addr->Prop} {H:Hp} {a:Addr} {o:HO} (h:hl F H a=some o):H a=some o/\((∃ xs,o=.lst xs)->F a):=by
 unfold hl at h
 split at h
 ·rename_i xs e
  by_cases f:F a
  ·rw [if_pos f] at h
   exact⟨e.trans h,λ_=>f⟩
  ·rw [if_neg f] at h
   cases h
 ·rename_i e n
  refine⟨h,fun⟨xs,z⟩=>?_⟩
  subst z
  exact absurd h (n xs)
theorem rG {F:Addr->Prop} {H:Hp}:au (hl F H) H:=λa o h=>(lq h).1
theorem lr {F:Addr->Prop} {H H':Hp} (s:au H H'):au (hl F H) (hl F H'):=λa o h=>by
 obtain⟨h1,h2⟩:=lq h
 by_cases z:∃ xs,o=.lst xs
 ·obtain⟨xs,rfl⟩:=z
  exact km (s _ _ h1) (h2 ⟨xs,rfl⟩)
 ·exact lp (s _ _ h1) λxs e=>z ⟨xs,e⟩
theorem rF {F F':Addr->Prop} {H:Hp} (i:∀ a,F a->F' a):au (hl F H) (hl F' H):=λa o h=>by
 obtain⟨h1,h2⟩:=lq h
 by_cases z:∃ xs,o=.lst xs
 ·obtain⟨xs,rfl⟩:=z
  exact km h1 (i _ (h2 ⟨xs,rfl⟩))
 ·exact lp h1 λxs e=>z ⟨xs,e⟩
theorem iY {F:Addr->Prop} {H:Hp}:∀ a xs,Rd H a (.tup xs)->Rd (hl F H) a (.tup xs):=λa xs h=>by
 rcases h with h | ⟨o,h⟩
 ·exact .inl (lp h λ_ z=>by cases z)
 ·exact .inr ⟨o,lp h λ_ z=>by cases z⟩
def Nw (H:Hp):Addr->Prop:=λa=>H a=none
theorem nw {H H':Hp} {p:Addr} (s:au H H') (h:H' p=none):Nw H p:=by
 show H p=none
 cases e:H p with
 | none=>rfl
 | some o=>rw [s _ _ e] at h;cases h
theorem gF:∀{ds:List PyData},(∀ d∈ds,mE d=true)->dO ds=true
 | [],_=>rfl
 | d::ds,h=>by
  rw [dO,h d (List.mem_cons_self ..),gF λe z=>h e (List.mem_cons_of_mem _ z)]
  rfl
theorem jb {n:Int} {d:PyData} (h:Num.fO n d):mE d=true:=by
 induction h with
 | mk n g ps ds h1 h2 h3 h4 h5 h6 ih =>
  simp only [mE,dO,Bool.and_true,Bool.true_and]
  refine gF λr hr=>?_
  obtain⟨i,q,k,h,rfl⟩:=dU hr
  simp only [mE,dO,Bool.and_true]
  exact ih i q k h
def GD (K:PySem.W.Frag) (F:Addr->Prop) (H:Hp) (L N:Nat) (x:V):Prop:=∃ d,dv K (hl F H) d x/\tD L d/\bP d<=N
def fe (K:PySem.W.Frag) (F:Addr->Prop) (H:Hp) (L N:Nat) (xs:List V):Prop:=∃ ds,bo K (hl F H) ds xs/\(∀ d∈ds,tD L d)/\aJ ds<=N
theorem GD.same {H H':Hp} {L N:Nat} {x:V} (h:GD K F H L N x) (s:au H H'):GD K F H' L N x:=by
 obtain⟨d,h1,h2,h3⟩:=h
 exact⟨d,dv.same (lr s) _ h1,h2,h3⟩
theorem fe.same {H H':Hp} {L N:Nat} {x:List V} (h:fe K F H L N x) (s:au H H'):fe K F H' L N x:=by
 obtain⟨d,h1,h2,h3⟩:=h
 exact⟨d,bo.same (lr s) _ h1,h2,h3⟩
theorem GD.imp {F':Addr->Prop} {H:Hp} {L N:Nat} {x:V} (h:GD K F H L N x) (i:∀ a,F a->F' a):GD K F' H L N x:=by
 obtain⟨d,h1,h2,h3⟩:=h
 exact⟨d,dv.same (rF i) _ h1,h2,h3⟩
theorem GD.mono {H:Hp} {L N L' N':Nat} {x:V} (h:GD K F H L N x) (l:L<=L') (n:N<=N'):GD K F H L' N' x:=by
 obtain⟨d,h1,h2,h3⟩:=h
 exact⟨d,h1,h2.mono l,Nat.le_trans h3 n⟩
theorem fe.mono {H:Hp} {L N L' N':Nat} {x:List V} (h:fe K F H L N x) (l:L<=L') (n:N<=N'):fe K F H L' N' x:=by
 obtain⟨d,h1,h2,h3⟩:=h
 exact⟨d,h1,λy z=>(h2 y z).mono l,Nat.le_trans h3 n⟩
theorem gI {H:Hp} {L:Nat} {n:Int} (h:n<=10^60):GD K F H (L+1) 1 (.int n):=⟨.int n,rfl,h,by simp only [bP];omega⟩
theorem gN {H:Hp} {L:Nat}:GD K F H (L+1) 1 .non:=⟨.none,rfl,True.intro,by simp only [bP];omega⟩
theorem gB {H:Hp} {L:Nat} {b:Bool}:GD K F H (L+1) 1 (.bl b):=⟨.bool b,rfl,True.intro,by simp only [bP];omega⟩
theorem gS {H:Hp} {L:Nat} {b:Str}:GD K F H (L+1) 1 (.str b):=⟨.str b,rfl,True.intro,by simp only [bP];omega⟩
theorem g0 {H:Hp} {L:Nat}:fe K F H L 0 []:=⟨[],rfl,λ_ z=>(List.not_mem_nil z).elim,Nat.le_refl _⟩
theorem gC {H:Hp} {L a b:Nat} {x:V} {xs:List V} (h:GD K F H L a x) (g:fe K F H L b xs):fe K F H L (a+b) (x::xs):=by
 obtain⟨d,h1,h2,h3⟩:=h
 obtain⟨ds,g1,g2,g3⟩:=g
 exact⟨d::ds,⟨x,xs,rfl,h1,g1⟩,λy hy=>(List.mem_cons.mp hy).elim (λz=>z▸h2) (g2 y),by simp only [aJ];omega⟩
theorem rD {H:Hp} {L a b:Nat} {xs ys:List V} (h:fe K F H L a xs) (g:fe K F H L b ys):fe K F H L (a+b) (xs++ys):=by
 obtain⟨ds,h1,h2,h3⟩:=h
 obtain⟨es,g1,g2,g3⟩:=g
 exact⟨ds++es,bo.append h1 g1,λy hy=>(List.mem_append.mp hy).elim (h2 y) (g2 y),by rw [di];omega⟩
theorem gT {H:Hp} {L a:Nat} {p:Addr} {xs:List V} (hS:aT K H p xs) (g:fe K F H L a xs):GD K F H (L+1) (a+1) (.ref p):=by
 obtain⟨ds,g1,g2,g3⟩:=g
 exact⟨.tuple ds,⟨p,xs,rfl,hS.eQ iY,g1⟩,g2,by simp only [bP];omega⟩
theorem gL {H:Hp} {L a:Nat} {p:Addr} {xs:List V} (hS:H p=some (.lst xs)) (hF:F p) (g:fe K F H L a xs):GD K F H (L+1) (a+1) (.ref p):=by
 obtain⟨ds,g1,g2,g3⟩:=g
 exact⟨.list ds,⟨p,xs,rfl,bf.of (km hS hF),g1⟩,g2,by simp only [bP];omega⟩
theorem gP {H:Hp} {q:Int} {d:PyData} {x:V} (h:Num.fO q d) (hv:dv K H d x):GD K F H 90 358 x:=⟨d,dv.eQ iY d (jb h) hv,nE h,eB h⟩
theorem fM:∀(m:Nat) (ds:List PyData),aJ (ds.take m)<=aJ ds/\aJ (ds.drop m)<=aJ ds
 | 0,ds=>⟨Nat.zero_le _,Nat.le_refl _⟩
 | m+1,[]=>⟨Nat.le_refl _,Nat.le_refl _⟩
 | m+1,d::ds=>by
  have:=fM m ds
  show bP d+aJ (ds.take m)<=bP d+aJ ds/\aJ (ds.drop m)<=bP d+aJ ds
  omega
theorem fE {H:Hp}:∀(m:Nat) {ds:List PyData} {us:List V},bo K H ds us->bo K H (ds.take m) (us.take m)/\bo K H (ds.drop m) (us.drop m)
 | 0,_,_,h=>⟨rfl,h⟩
 | m+1,[],_,h=>by
  cases h
  exact⟨rfl,rfl⟩
 | m+1,d::ds,_,⟨x,r,rfl,h1,h2⟩=>by
  obtain⟨a,b⟩:=fE m h2
  exact⟨⟨x,_,rfl,h1,a⟩,b⟩
theorem gk {H:Hp} {L a:Nat} {xs:List V} (lo hi:Option Int) (g:fe K F H L a xs):fe K F H L a (eI xs lo hi):=by
 obtain⟨ds,g1,g2,g3⟩:=g
 unfold eI
 generalize HT.bV xs.length 0 lo=m
 generalize HT.bV xs.length xs.length hi-m=n
 refine⟨(ds.drop m).take n,(fE n (fE m g1).2).1,λd hd=>g2 d (List.mem_of_mem_drop (List.mem_of_mem_take hd)),?_⟩
 have h1:=(fM m ds).2
 have h2:=(fM n (ds.drop m)).1
 omega
theorem sY {H:Hp} {L:Nat}:∀{xs:List V} {a:Nat},fe K F H L a xs->fe K F H L a xs.reverse
 | [],a,h=>h
 | x::xs,a,⟨ds,h1,h2,h3⟩=>by
  obtain⟨d,es,rfl⟩:∃ d es,ds=d::es:=by
   cases ds with
   | nil=>cases h1
   | cons d es=>exact⟨d,es,rfl⟩
  obtain⟨x',r',e,z1,z2⟩:=h1
  cases e
  simp only [aJ] at h3
  have ih:=sY (xs:=xs) (a:=aJ es) ⟨es,z2,λy hy=>h2 y (List.mem_cons_of_mem _ hy),Nat.le_refl _⟩
  rw [List.reverse_cons]
  have g1:GD K F H L (bP d) x:=⟨d,z1,h2 d (List.mem_cons_self ..),Nat.le_refl _⟩
  exact (rD ih (gC g1 g0)).mono (Nat.le_refl _) (by omega)
theorem uX {H:Hp} {L N:Nat} {xs:List V} (h:fe K F H L N xs):∀ x∈xs,GD K F H L N x:=by
 obtain⟨ds,h1,h2,h3⟩:=h
 intro x hx
 obtain⟨i,hi⟩:=List.mem_iff_getElem?.mp hx
 obtain⟨d,hd,hv⟩:=h1.get hi
 have dm:=List.mem_of_getElem? hd
 exact⟨d,hv,h2 d dm,Nat.le_trans (hG dm) h3⟩
theorem dJ {H:Hp} {a:Addr} {xs:List V} {lo hi:Option Int} {Q:VK} (hS:aT K H a xs) (q:∀ p H',au H H'->aT K H' p (eI xs lo hi)->Q (.ref p) H'):ub K (.ref a) lo hi H Q :=
 ⟨a,xs,rfl,hS,λp H' s hp=>q p H' s hp⟩
theorem dI {H:Hp} {L m n:Nat} {a b:Addr} {xs ys:List V} {Q:VK} (hS:aT K H a xs) (hT:aT K H b ys) (g:fe K F H L m xs) (g':fe K F H L n ys) (l:m+n<=10^6) (q:∀ p H',au H H'->aT K H' p (xs++ys)->fe K F H' L (m+n) (xs++ys)->Q (.ref p) H'):qK K (.ref a) (.ref b) H Q:=by
 refine⟨a,b,xs,ys,rfl,rfl,hS,hT,?_,λp H' s hp=>q p H' s hp ((rD g g').same s)⟩
 obtain⟨ds,g1,_,g3⟩:=g
 obtain⟨es,g1',_,g3'⟩:=g'
 have:=b8 ds
 have:=b8 es
 exact Nat.le_trans (show xs.length+ys.length<=10^6 by rw [g1.length,g1'.length];omega) (by decide)
theorem cJ {n:Nat} (h2:2<=n) (h:∀ k,k<n->2<=k->¬k∣n):Num.Pm (n:Int):=⟨by omega,λd d2 dn hd=>h d.toNat (by omega) (by omega) (Int.natCast_dvd_natCast.mp (by rw [show ((d.toNat:Nat):Int)=d by omega];exact hd))⟩
theorem cH {α:Type} {xs:List α} {i:Nat} {v:α} (h:xs[i]?=some v):ka xs (i:Int)=some v:=by
 have hl:=(List.getElem?_eq_some_iff.mp h).1
 unfold ka oX
 rw [if_pos (by omega),if_pos (by omega),Option.bind_some,Int.toNat_natCast]
 exact h
def RP (r:PyData):Prop:=∃ q d k,r=.tuple [d,.int k]/\Num.fO q d/\1<=k/\k<=300
theorem lG {H:Hp} {r:PyData} {x:V} (h:RP r) (hv:dv K H r x):∃ pt pa q g k u d,x=.ref pt/\aT K H pt [.ref pa,.int k]/\aT K H pa [.int q,.int g,u]/\Num.fO q d/\dv K H d (.ref pa)/\1<=k/\k<=300/\2<=q/\q<=10^9:=by
 obtain⟨q,d,k,rfl,hp,k1,k3⟩:=h
 obtain⟨pt,ys,rfl,hT,y1,r1,rfl,d1,y2,r2,rfl,d2,z⟩:=hv
 cases z
 cases d2
 obtain⟨g,rows,rfl⟩:=hp.head
 have d1':=d1
 obtain⟨pa,x1,x2,x3,rfl,hS,f1,f2,f3⟩:=mU d1
 cases f1
 cases f2
 exact⟨pt,pa,q,g,k,x3,_,rfl,hT,hS,hp,d1',k1,k3,(ja hp).2.1,(ja hp).1⟩
theorem jV {H:Hp} {N:Nat} {rows:List PyData} {xs:List V} (h:∀ r∈rows,RP r) (hv:bo K H rows xs) (hn:aJ rows<=N):fe K F H 91 N xs:=by
 have nl:dO rows=true:=gF λr hr=>by
  obtain⟨q,d,k,rfl,hp,k1,k3⟩:=h r hr
  simp only [mE,dO,Bool.and_true]
  exact jb hp
 refine⟨rows,bo.eQ iY rows nl hv,λr hr=>?_,hn⟩
 obtain⟨q,d,k,rfl,hp,k1,k3⟩:=h r hr
 intro y hy
 simp only [List.mem_cons,List.not_mem_nil,or_false] at hy
 rcases hy with rfl | rfl
 ·exact nE hp
 ·show k<=10^60;omega
def Got (K:PySem.W.Frag) (L N:Nat) (H:Hp) (Q:VK):Prop:=∀ u H',au H H'->GD K (Nw H) H' L N u->Q u H'
theorem oO {x5:V} (hx5:x5∈[V.int 2,V.int 3,V.int 5,V.int 7,V.int 11]):∃ q:Int,x5=.int q/\Num.Pm q/\q<=10^9:=by
 simp only [List.mem_cons,List.not_mem_nil,or_false] at hx5
 rcases hx5 with rfl | rfl | rfl | rfl | rfl
 ·exact⟨2,rfl,cJ (n:=2) (by decide) (by decide),by decide⟩
 ·exact⟨3,rfl,cJ (n:=3) (by decide) (by decide),by decide⟩
 ·exact⟨5,rfl,cJ (n:=5) (by decide) (by decide),by decide⟩
 ·exact⟨7,rfl,cJ (n:=7) (by decide) (by decide),by decide⟩
 ·exact⟨11,rfl,cJ (n:=11) (by decide) (by decide),by decide⟩
theorem nY {x5:V} (hx5:x5∈[V.int 2,V.int 3,V.int 5,V.int 7,V.int 11,V.int 13,V.int 17]):∃ q:Int,x5=.int q/\Num.Pm q/\q<=10^9:=by
 simp only [List.mem_cons,List.not_mem_nil,or_false] at hx5
 rcases hx5 with rfl | rfl | rfl | rfl | rfl | rfl | rfl
 ·exact⟨2,rfl,cJ (n:=2) (by decide) (by decide),by decide⟩
 ·exact⟨3,rfl,cJ (n:=3) (by decide) (by decide),by decide⟩
 ·exact⟨5,rfl,cJ (n:=5) (by decide) (by decide),by decide⟩
 ·exact⟨7,rfl,cJ (n:=7) (by decide) (by decide),by decide⟩
 ·exact⟨11,rfl,cJ (n:=11) (by decide) (by decide),by decide⟩
 ·exact⟨13,rfl,cJ (n:=13) (by decide) (by decide),by decide⟩
 ·exact⟨17,rfl,cJ (n:=17) (by decide) (by decide),by decide⟩
def fc (K:PySem.W.Frag):Sp:=λvs H Q _=>∃(v:V) (way m:Int) (r:PyData),vs=[v,.int way,.int m]/\0<=m/\m<=2*10^59/\RP r/\dv K H r v/\Got K 92 4000 H Q
theorem cL:az ["_law_part","_law_way","_law_number","_law_paper","_law_many","_law_some"] ["_law_part","_law_way","_law_number"] (ao (top 40)):=eZ
theorem jO (D:ax K mg "_law_bent_part" (top 40)) (c_prime_paper:Callee P w K mg base (d7 P w) 67 "prime_paper" ["n"] (d5 K)):Callee P w K mg base bc 68 "_law_bent_part" ["_law_part","_law_way","_law_number"] (fc K):=by
 refine cO D cL (λf cdv A outer s H vs Q E hr h=>?_)
 obtain⟨v,way,m,r,rfl,m0,m9,hR,hv,q⟩:=h
 have nd:=cL.nd
 refine⟨_,(@ah _ _ _ _ _ (dR (pv 0) (dC (n:=2) rfl (aI (aD (i:=3) nd rfl (Or.inl rfl) (.inr rfl)) (aI (aD (i:=4) nd rfl (Or.inl rfl) (.inr rfl)) cn)))) (@ah _ _ _ _ _ (@cz _ _ 5 _ _ _ _ nd rfl (Or.inl rfl) (@aU _ _ _ _ (@aa _ _ _ _ _ (@aq _ _ _ _ _ (@aa _ _ _ _ _ (pv 3) (@aa _ _ _ _ _ (@aj _ _ _ _ _ _ _ _ aQ (pv 4) ae) ag (by rfl)) (by rfl))) (@aa _ _ _ _ _ (@aq _ _ _ _ _ (@aa _ _ _ _ _ (pv 3) (@aa _ _ _ _ _ (@aj _ _ _ _ _ _ _ _ aW (pv 4) ae) ag (by rfl)) (by rfl))) (@aa _ _ _ _ _ (@aq _ _ _ _ _ (@aa _ _ _ _ _ (pv 3) (@aa _ _ _ _ _ (@aj _ _ _ _ _ _ _ _ aQ (@aj _ _ _ _ _ _ _ _ b3 ae ae) (pv 2)) ag (by rfl)) (by rfl))) (@aa _ _ _ _ _ (@aq _ _ _ _ _ (@aa _ _ _ _ _ (pv 3) (@aa _ _ _ _ _ bT ag (by rfl)) (by rfl))) (@aa _ _ _ _ _ (@aU _ _ _ _ (@aa _ _ _ _ _ (pv 3) (@aa _ _ _ _ _ (pv 4) ag (by rfl)) (by rfl))) ag (by rfl)) (by rfl)) (by rfl)) (by rfl)) (by rfl))) (by rfl) (by first | exact .inl rfl | exact .inr rfl | assumption)) (@ah _ _ _ _ _ (@cz _ _ 5 _ _ _ _ nd rfl (Or.inl rfl) (@aj _ _ _ _ _ _ _ _ dP (pv 5) (@aU _ _ _ _ (@aa _ _ _ _ _ (@aq _ _ _ _ _ (@aa _ _ _ _ _ (@aG _ _ _ _ _ _ _ _ _ _ _ _ c_prime_paper (hr.mono (by decide)) rfl aS (@aa _ _ _ _ _ (@aB _ _ _ _ _ _ _ aK (@aU _ _ _ _ (fu rfl)) (@aj _ _ _ _ _ _ _ _ ay (pv 2) ae) (λ_ _=>rfl)) ag (by rfl)) (by decide) (by rfl) (by rfl)) (@aa _ _ _ _ _ (pv 4) ag (by rfl)) (by rfl))) (@aa _ _ _ _ _ (@aq _ _ _ _ _ (@aa _ _ _ _ _ (pv 3) (@aa _ _ _ _ _ (pv 4) (@aa _ _ _ _ _ (pv 4) ag (by rfl)) (by rfl)) (by rfl))) (@aa _ _ _ _ _ (@aq _ _ _ _ _ (@aa _ _ _ _ _ (pv 3) ag (by rfl))) (@aa _ _ _ _ _ (@aq _ _ _ _ _ (@aa _ _ _ _ _ (pv 4) (@aa _ _ _ _ _ (pv 3) ag (by rfl)) (by rfl))) ag (by rfl)) (by rfl)) (by rfl)) (by rfl)))) (by rfl) (by first | exact .inl rfl | exact .inr rfl | assumption)) (@ak _ _ _ (@aA _ _ _ _ (@aB _ _ _ _ _ _ _ aK (@aj _ _ _ _ _ _ _ _ dP (pv 5) (@aU _ _ _ _ (@aa _ _ _ _ _ kE (@aa _ _ _ _ _ (@aq _ _ _ _ _ (@aa _ _ _ _ _ (@aB _ _ _ _ _ _ _ aO (pv 3) ae (λ_ _=>rfl)) (@aa _ _ _ _ _ (pv 4) ag (by rfl)) (by rfl))) (@aa _ _ _ _ _ (@aq _ _ _ _ _ (@aa _ _ _ _ _ (pv 3) (@aa _ _ _ _ _ (@aj _ _ _ _ _ _ _ _ aW ae (pv 4)) ag (by rfl)) (by rfl))) ag (by rfl)) (by rfl)) (by rfl)))) (@aj _ _ _ _ _ _ _ _ ay (pv 1) ae) (λ_ _=>rfl))))))),?_⟩
 show b9 _ _ _ [some v,some (.int way),some (.int m),none,none,none] H
 obtain⟨pt,pa,p,g,k,u,d,rfl,hT,hU,hp,hd,k1,k3,p2,p9⟩:=lG hR hv
 k_data
 refine⟨pt,_,rfl,hT,rfl,?_⟩
 k_data
 refine⟨by show 2<=sizeLine;decide,λa1 ha1=>?_⟩
 have s1:=ai (o:=.tup [V.ref pa,V.int (k+1)]) ha1
 have e1:upd H a1 (.tup [V.ref pa,V.int (k+1)]) a1=some (.tup [V.ref pa,V.int (k+1)]):=af
 generalize upd H a1 _=H1 at *
 have S1:=s1
 refine⟨by show 2<=sizeLine;decide,λa2 ha2=>?_⟩
 have s2:=ai (o:=.tup [V.ref pa,V.int (k-1)]) ha2
 have e2:upd H1 a2 (.tup [V.ref pa,V.int (k-1)]) a2=some (.tup [V.ref pa,V.int (k-1)]):=af
 generalize upd H1 a2 _=H2 at *
 have S2:=S1.trans s2
 refine⟨by show 2<=sizeLine;decide,λa3 ha3=>?_⟩
 have s3:=ai (o:=.tup [V.ref pa,V.int (1000000000000000000000000000000000000000+m)]) ha3
 have e3:upd H2 a3 (.tup [V.ref pa,V.int (1000000000000000000000000000000000000000+m)]) a3=some (.tup [V.ref pa,V.int (1000000000000000000000000000000000000000+m)]):=af
 generalize upd H2 a3 _=H3 at *
 have S3:=S2.trans s3
 refine⟨by show 2<=sizeLine;decide,λa4 ha4=>?_⟩
 have s4:=ai (o:=.tup [V.ref pa,V.bl true]) ha4
 have e4:upd H3 a4 (.tup [V.ref pa,V.bl true]) a4=some (.tup [V.ref pa,V.bl true]):=af
 generalize upd H3 a4 _=H4 at *
 have S4:=S3.trans s4
 refine⟨by show 2<=sizeLine;decide,λa5 ha5=>?_⟩
 have s5:=ai (o:=.lst [V.ref pa,V.int k]) ha5
 have e5:upd H4 a5 (.lst [V.ref pa,V.int k]) a5=some (.lst [V.ref pa,V.int k]):=af
 generalize upd H4 a5 _=H5 at *
 have S5:=S4.trans s5
 refine⟨by show 5<=sizeLine;decide,λa6 ha6=>?_⟩
 have s6:=ai (o:=.lst [V.ref a1,V.ref a2,V.ref a3,V.ref a4,V.ref a5]) ha6
 have e6:upd H5 a6 (.lst [V.ref a1,V.ref a2,V.ref a3,V.ref a4,V.ref a5]) a6=some (.lst [V.ref a1,V.ref a2,V.ref a3,V.ref a4,V.ref a5]):=af
 generalize upd H5 a6 _=H6 at *
 have S6:=S5.trans s6
 refine⟨by show 5<=sizeLine;decide,λa7 ha7=>?_⟩
 have s7:=ai (o:=.lst [V.int 2,V.int 3,V.int 5,V.int 7,V.int 11]) ha7
 have e7:upd H6 a7 (.lst [V.int 2,V.int 3,V.int 5,V.int 7,V.int 11]) a7=some (.lst [V.int 2,V.int 3,V.int 5,V.int 7,V.int 11]):=af
 generalize upd H6 a7 _=H7 at *
 have S7:=S6.trans s7
 refine cm (bf.of e7) (by omega) (by show _<(5:Int);omega) λx5 hx5=>?_
 obtain⟨q',rfl,hq',q9⟩:=oO hx5
 refine⟨q',rfl,hq',q9,λd8 v8 H8 hd8 s8 hv8=>?_⟩
 have S8:=S7.trans s8
 refine⟨by show 2<=sizeLine;decide,λa9 ha9=>?_⟩
 have s9:=ai (o:=.tup [v8,V.int k]) ha9
 have e9:upd H8 a9 (.tup [v8,V.int k]) a9=some (.tup [v8,V.int k]):=af
 generalize upd H8 a9 _=H9 at *
 have S9:=S8.trans s9
 refine⟨by show 3<=sizeLine;decide,λa10 ha10=>?_⟩
 have s10:=ai (o:=.tup [V.ref pa,V.int k,V.int k]) ha10
 have e10:upd H9 a10 (.tup [V.ref pa,V.int k,V.int k]) a10=some (.tup [V.ref pa,V.int k,V.int k]):=af
 generalize upd H9 a10 _=H10 at *
 have S10:=S9.trans s10
 refine⟨by show 1<=sizeLine;decide,λa11 ha11=>?_⟩
 have s11:=ai (o:=.tup [V.ref pa]) ha11
 have e11:upd H10 a11 (.tup [V.ref pa]) a11=some (.tup [V.ref pa]):=af
 generalize upd H10 a11 _=H11 at *
 have S11:=S10.trans s11
 refine⟨by show 2<=sizeLine;decide,λa12 ha12=>?_⟩
 have s12:=ai (o:=.tup [V.int k,V.ref pa]) ha12
 have e12:upd H11 a12 (.tup [V.int k,V.ref pa]) a12=some (.tup [V.int k,V.ref pa]):=af
 generalize upd H11 a12 _=H12 at *
 have S12:=S11.trans s12
 refine⟨by show 4<=sizeLine;decide,λa13 ha13=>?_⟩
 have s13:=ai (o:=.lst [V.ref a9,V.ref a10,V.ref a11,V.ref a12]) ha13
 have e13:upd H12 a13 (.lst [V.ref a9,V.ref a10,V.ref a11,V.ref a12]) a13=some (.lst [V.ref a9,V.ref a10,V.ref a11,V.ref a12]):=af
 generalize upd H12 a13 _=H13 at *
 have S13:=S12.trans s13
 refine⟨a6,a13,_,_,rfl,rfl,(((((((s7.trans s8).trans s9).trans s10).trans s11).trans s12).trans s13) _ _ e6),e13,by show 9<=sizeLine;decide,λa14 ha14=>?_⟩
 simp only [List.cons_append,List.nil_append] at *
 have s14:=ai (o:=.lst [V.ref a1,V.ref a2,V.ref a3,V.ref a4,V.ref a5,V.ref a9,V.ref a10,V.ref a11,V.ref a12]) ha14
 have e14:upd H13 a14 (.lst [V.ref a1,V.ref a2,V.ref a3,V.ref a4,V.ref a5,V.ref a9,V.ref a10,V.ref a11,V.ref a12]) a14=some (.lst [V.ref a1,V.ref a2,V.ref a3,V.ref a4,V.ref a5,V.ref a9,V.ref a10,V.ref a11,V.ref a12]):=af
 generalize upd H13 a14 _=H14 at *
 have S14:=S13.trans s14
 refine br (hU.same S14) ip ?_
 refine⟨by show 2<=sizeLine;decide,λa15 ha15=>?_⟩
 have s15:=ai (o:=.tup [V.int p,V.int k]) ha15
 have e15:upd H14 a15 (.tup [V.int p,V.int k]) a15=some (.tup [V.int p,V.int k]):=af
 generalize upd H14 a15 _=H15 at *
 have S15:=S14.trans s15
 refine⟨by show 2<=sizeLine;decide,λa16 ha16=>?_⟩
 have s16:=ai (o:=.tup [V.ref pa,V.int (0-k)]) ha16
 have e16:upd H15 a16 (.tup [V.ref pa,V.int (0-k)]) a16=some (.tup [V.ref pa,V.int (0-k)]):=af
 generalize upd H15 a16 _=H16 at *
 have S16:=S15.trans s16
 refine⟨by show 3<=sizeLine;decide,λa17 ha17=>?_⟩
 have s17:=ai (o:=.lst [V.non,V.ref a15,V.ref a16]) ha17
 have e17:upd H16 a17 (.lst [V.non,V.ref a15,V.ref a16]) a17=some (.lst [V.non,V.ref a15,V.ref a16]):=af
 generalize upd H16 a17 _=H17 at *
 have S17:=S16.trans s17
 refine⟨a14,a17,_,_,rfl,rfl,(((s15.trans s16).trans s17) _ _ e14),e17,by show 12<=sizeLine;decide,λa18 ha18=>?_⟩
 simp only [List.cons_append,List.nil_append] at *
 have s18:=ai (o:=.lst [V.ref a1,V.ref a2,V.ref a3,V.ref a4,V.ref a5,V.ref a9,V.ref a10,V.ref a11,V.ref a12,V.non,V.ref a15,V.ref a16]) ha18
 have e18:upd H17 a18 (.lst [V.ref a1,V.ref a2,V.ref a3,V.ref a4,V.ref a5,V.ref a9,V.ref a10,V.ref a11,V.ref a12,V.non,V.ref a15,V.ref a16]) a18=some (.lst [V.ref a1,V.ref a2,V.ref a3,V.ref a4,V.ref a5,V.ref a9,V.ref a10,V.ref a11,V.ref a12,V.non,V.ref a15,V.ref a16]):=af
 generalize upd H17 a18 _=H18 at *
 have S18:=S17.trans s18
 have U18:au H18 H18:=au.refl _
 have U17:=s18.trans U18
 have U16:=s17.trans U17
 have U15:=s16.trans U16
 have U14:=s15.trans U15
 have U13:=s14.trans U14
 have U12:=s13.trans U13
 have U11:=s12.trans U12
 have U10:=s11.trans U11
 have U9:=s10.trans U10
 have U8:=s9.trans U9
 have U7:=s8.trans U8
 have U6:=s7.trans U7
 have U5:=s6.trans U6
 have U4:=s5.trans U5
 have U3:=s4.trans U4
 have U2:=s3.trans U3
 have U1:=s2.trans U2
 have U0:=s1.trans U1
 have gp:GD K (Nw H) H18 91 358 (.ref pa):=((gP hp hd).same S18).mono (by decide) (by decide)
 have gv:GD K (Nw H) H18 91 358 v8:=((gP hd8 hv8).same U8).mono (by decide) (by decide)
 have all:fe K (Nw H) H18 92 4000 [V.ref a1,V.ref a2,V.ref a3,V.ref a4,V.ref a5,V.ref a9,V.ref a10,V.ref a11,V.ref a12,V.non,V.ref a15,V.ref a16]:=fe.mono (L:=92) (gC (gT (aT.of (U1 _ _ e1)) (gC gp (gC (gI (by omega)) g0))) (gC (gT (aT.of (U2 _ _ e2)) (gC gp (gC (gI (by omega)) g0))) (gC (gT (aT.of (U3 _ _ e3)) (gC gp (gC (gI (by omega)) g0))) (gC (gT (aT.of (U4 _ _ e4)) (gC gp (gC gB g0))) (gC (gL (U5 _ _ e5) (nw S4 ha5) (gC gp (gC (gI (by omega)) g0))) (gC (gT (aT.of (U9 _ _ e9)) (gC gv (gC (gI (by omega)) g0))) (gC (gT (aT.of (U10 _ _ e10)) (gC gp (gC (gI (by omega)) (gC (gI (by omega)) g0)))) (gC (gT (aT.of (U11 _ _ e11)) (gC gp g0)) (gC (gT (aT.of (U12 _ _ e12)) (gC (gI (by omega)) (gC gp g0))) (gC gN (gC (gT (aT.of (U15 _ _ e15)) (gC (gI (by omega)) (gC (gI (by omega)) g0))) (gC (gT (aT.of (U16 _ _ e16)) (gC gp (gC (gI (by omega)) g0))) g0)))))))))))) (Nat.le_refl _) (by decide)
 refine cm (bf.of e18) (by omega) (by show _<(12:Int);omega) λx hx=>q x _ S18 (uX all x hx)
end
end K
namespace K
open PySem PySem.Spec PyProof.Rows L2
section
variable {P:Program} {w:World} {K:PySem.W.Frag} {mg:Str->Option Value} {base:Heap}
structure Hid (T:Prop):Prop where
 un:T
theorem uW {T G:Prop} (m:Hid T->G) (t:T):G:=m ⟨t⟩
def jq (K:PySem.W.Frag):Sp:=λvs H Q _=>∃(v:V) (at_:Nat) (m:Int) (rows:List PyData),vs=[v,.int at_,.int m]/\0<=m/\(rows=[]∨at_<rows.length)/\aJ rows<=10^4/\(∀ r∈rows,RP r)/\dv K H (.tuple rows) v/\Got K 92 30000 H Q
theorem bY:az ["_law_parts","_law_at","_law_number","_law_paper","_law_many","_law_q","_law_ahead"] ["_law_parts","_law_at","_law_number"] (ao (top 41)):=eZ
theorem pJ (D:ax K mg "_law_right_product" (top 41)) (c_prime_paper:Callee P w K mg base (d7 P w) 67 "prime_paper" ["n"] (d5 K)) (n_len:mg "len"=none) (n_tuple:mg "tuple"=none):Callee P w K mg base bc 68 "_law_right_product" ["_law_parts","_law_at","_law_number"] (jq K):=by
 refine cO D bY (λf cdv A outer s H vs Q E hr h=>?_)
 obtain⟨v,at_,m,rows,rfl,m0,hat,hn,hR,hv,q⟩:=h
 have nd:=bY.nd
 refine⟨_,(@ah _ _ _ _ _ (@aZ _ _ _ _ _ _ _ _ (PW.pt (je (@aw _ _ _ _ _ _ _ _ cu (aE bN rfl n_len PySem.boot_len (@aa _ _ _ _ _ (pv 0) ag (by rfl))) ae (av _)) (je (@aw _ _ _ _ _ _ _ _ bO (@aj _ _ _ _ _ _ _ _ ay (@aj _ _ _ _ _ _ _ _ aL (pv 2) ae) ae) ae (av _)) (jf (@aw _ _ _ _ _ _ _ _ cu (@aB _ _ _ _ _ _ _ aO (@aB _ _ _ _ _ _ _ aO (pv 0) (pv 1) (λ_ _=>rfl)) ae (λ_ _=>rfl)) ae (av _)))))) (@ah _ _ _ _ _ (dR (@aB _ _ _ _ _ _ _ aO (pv 0) (pv 1) (λ_ _=>rfl)) (dC (n:=2) rfl (aI (aD (i:=3) nd rfl (Or.inl rfl) (.inr rfl)) (aI (aD (i:=4) nd rfl (Or.inl rfl) (.inr rfl)) cn)))) (@ak _ _ _ (@aA _ _ _ _ (@aj _ _ _ _ _ _ _ _ bR (@aj _ _ _ _ _ _ _ _ bR (bt bW (pv 0) bL (bI (pv 1))) (@aq _ _ _ _ _ (@aa _ _ _ _ _ (@aq _ _ _ _ _ (@aa _ _ _ _ _ (pv 3) (@aa _ _ _ _ _ ae ag (by rfl)) (by rfl))) (@aa _ _ _ _ _ (@aq _ _ _ _ _ (@aa _ _ _ _ _ (pv 3) (@aa _ _ _ _ _ (@aj _ _ _ _ _ _ _ _ aW (pv 4) ae) ag (by rfl)) (by rfl))) ag (by rfl)) (by rfl)))) (bt bW (pv 0) (bI (@aj _ _ _ _ _ _ _ _ aQ (pv 1) ae)) bL))))) aF) (@ah _ _ _ _ _ (@cz _ _ 5 _ _ _ _ nd rfl (Or.inr rfl) (@aB _ _ _ _ _ _ _ aK (@aU _ _ _ _ (fu rfl)) (@aj _ _ _ _ _ _ _ _ ay (@aj _ _ _ _ _ _ _ _ aL (pv 2) ae) ae) (λ_ _=>rfl)) (by rfl) (by first | exact .inl rfl | exact .inr rfl | assumption)) (@ah _ _ _ _ _ (@cz _ _ 6 _ _ _ _ nd rfl (Or.inl rfl) (@bH _ _ _ _ _ _ _ _ _ b5 rfl n_tuple L2.boot_tuple (@aa _ _ _ _ _ (@fS _ _ _ _ _ _ _ _ _ _ _ _ _ _ rfl (qi (N':=["_law_part","_law_q"]) (js:=[none,some 5]) rfl rfl) (@fH _ _ _ _ (pv 0)) (λ_ _ _ _=>(aD (i:=0) (show List.Nodup [("_law_part":Str),("_law_q":Str)] from by decide +kernel) rfl (Or.inl rfl) (.inr rfl))) (λ_ _ _ _=>(nO (@aw _ _ _ _ _ _ _ _ cT (@aB _ _ _ _ _ _ _ (dw K rfl) (@aB _ _ _ _ _ _ _ (dw K rfl) (pv 0) ae (λ_ _=>rfl)) ae (λ_ _=>rfl)) (pv 1) (av _)))) (λ_ _ _ _=>(pv 0)) (by intro _;rfl)) ag (by rfl)) (by decide) (by decide) (by rfl) (by rfl)) (by rfl) (by first | exact .inl rfl | exact .inr rfl | assumption)) (@ak _ _ _ (@aA _ _ _ _ (@aj _ _ _ _ _ _ _ _ bR (@aj _ _ _ _ _ _ _ _ bR (pv 6) (@aq _ _ _ _ _ (@aa _ _ _ _ _ (@aq _ _ _ _ _ (@aa _ _ _ _ _ (@aG _ _ _ _ _ _ _ _ _ _ _ _ c_prime_paper (hr.mono (by decide)) rfl aS (@aa _ _ _ _ _ (pv 5) ag (by rfl)) (by decide) (by rfl) (by rfl)) (@aa _ _ _ _ _ ae ag (by rfl)) (by rfl))) ag (by rfl)))) (bt bW (pv 0) (bI (aE bN rfl n_len PySem.boot_len (@aa _ _ _ _ _ (pv 6) ag (by rfl)))) bL))))))),?_⟩
 show b9 _ _ _ [some v,some (.int at_),some (.int m),none,none,none,none] H
 obtain⟨a,xs,rfl,hS,dd⟩:=hv
 have xl:=dd.length
 have rl:=b8 rows
 have gx:=jV (F:=Nw H) hR dd hn
 k_data
 refine cI hS ⟨_,rfl,?_⟩
 refine' uW (λtl=>?main) ?tail
 case main =>
  refine aH (λc0=>⟨eg (by decide),aH (λc1=>?_) (λ_=>tl.un)⟩) (λ_=>tl.un)
  have al:at_<xs.length:=by
   rcases hat with z | z
   ·rw [z] at xl
    exact absurd c0 (by rw [xl];decide)
   ·omega
  obtain⟨x,hx⟩:∃ x,xs[at_]?=some x:=⟨_,List.getElem?_eq_getElem al⟩
  obtain⟨r,hr',hvr⟩:=dd.get hx
  obtain⟨pt,pa,p,g,k,u,d,rfl,hT,hU,hp,hd,k1,k3,p2,p9⟩:=lG (hR r (List.mem_of_getElem? hr')) hvr
  refine br hS (cH hx) (br hT ow ⟨k,rfl,aH (λc2=>?_) (λ_=>tl.un)⟩)
  refine br hS (cH hx) ⟨pt,_,rfl,hT,rfl,?_⟩
  clear tl
  k_data
  refine dJ hS λa1 H1 s1 t1=>?_
  have S1:=s1
  refine⟨by show 2<=sizeLine;decide,λa2 ha2=>?_⟩
  have s2:=ai (o:=.tup [V.ref pa,V.int 1]) ha2
  have e2:upd H1 a2 (.tup [V.ref pa,V.int 1]) a2=some (.tup [V.ref pa,V.int 1]):=af
  generalize upd H1 a2 _=H2 at *
  have S2:=S1.trans s2
  refine⟨by show 2<=sizeLine;decide,λa3 ha3=>?_⟩
  have s3:=ai (o:=.tup [V.ref pa,V.int (k-1)]) ha3
  have e3:upd H2 a3 (.tup [V.ref pa,V.int (k-1)]) a3=some (.tup [V.ref pa,V.int (k-1)]):=af
  generalize upd H2 a3 _=H3 at *
  have S3:=S2.trans s3
  refine⟨by show 2<=sizeLine;decide,λa4 ha4=>?_⟩
  have s4:=ai (o:=.tup [V.ref a2,V.ref a3]) ha4
  have e4:upd H3 a4 (.tup [V.ref a2,V.ref a3]) a4=some (.tup [V.ref a2,V.ref a3]):=af
  generalize upd H3 a4 _=H4 at *
  have S4:=S3.trans s4
  have gp:GD K (Nw H) H4 90 358 (.ref pa):=(gP hp hd).same S4
  have g4:fe K (Nw H) H4 91 720 [V.ref a2,V.ref a3]:=gC (gT (aT.of ((s3.trans s4) _ _ e2)) (gC gp (gC (gI (by omega)) g0))) (gC (gT (aT.of (s4 _ _ e3)) (gC gp (gC (gI (by omega)) g0))) g0)
  refine dI (t1.same ((s2.trans s3).trans s4)) (aT.of e4) ((gk _ _ gx).same S4) g4 (by decide) λp5 H5 s5 t5 g5=>?_
  have S5:=S4.trans s5
  refine dJ (hS.same S5) λp6 H6 s6 t6=>?_
  have S6:=S5.trans s6
  refine dI (t5.same s6) t6 (g5.same s6) ((gk _ _ gx).same S6) (by decide) λp7 H7 s7 t7 g7=>?_
  exact q _ _ (S6.trans s7) ((gT t7 g7).mono (by decide) (by decide))
 clear hat
 refine⟨by show 7<=sizeLine;decide,λp1 hp1=>⟨eg (by decide),?_⟩⟩
 refine cm (bf.of af) (by omega) (by show _<(7:Int);omega) λv hv=>?_
 obtain⟨q',rfl,hq',q9⟩:=nY hv
 have s1:=ai (o:=.lst [V.int 2,V.int 3,V.int 5,V.int 7,V.int 11,V.int 13,V.int 17]) hp1
 generalize upd H p1 _=H1 at *
 have hS1:=hS.same s1
 refine⟨⟨_,hS1⟩,?_⟩
 refine eh (xs:=xs) (λi zs H3=>H3=H1/\zs.length<=i/\fe K (Nw H) H1 91 (aJ (rows.take i)) zs) ⟨rfl,Nat.le_refl _,g0⟩ (Nat.le_trans (show xs.length<=10^4 by omega) (by decide)) (λi zs H3 hi ⟨z1,z2,_⟩=>⟨by rw [z1];exact hS1,by omega⟩) ?_ ?_
 ·rintro i x zs H3 hx ⟨rfl,zl,gz⟩
  obtain⟨r,hr',hvr⟩:=dd.get hx
  have rm:=List.mem_of_getElem? hr'
  have hvr1:=dv.same s1 _ hvr
  have hvr2:=hvr1
  obtain⟨pt,pa,p,g,k,u,d,rfl,hT,hU,hp,hd,k1,k3,p2,p9⟩:=lG (hR r rm) hvr2
  have tk:aJ (rows.take (i+1))=aJ (rows.take i)+bP r:=by
   rw [List.take_add_one,hr',di]
   simp [aJ]
  have gr:GD K (Nw H) H3 91 (bP r) (.ref pt):=by
   obtain⟨q1,d1,k1,rfl,hp1,k1,k3⟩:=hR r rm
   refine⟨_,dv.eQ iY _ (by simp only [mE,dO,Bool.and_true];exact jb hp1) hvr1,?_,Nat.le_refl _⟩
   intro y hy
   simp only [List.mem_cons,List.not_mem_nil,or_false] at hy
   rcases hy with rfl | rfl
   ·exact nE hp1
   ·show _<=(10:Int)^60;omega
  rw [tk]
  show dF 0 _ [none,some (.int q')] _ _
  k_data
  refine⟨⟨rfl,True.intro⟩,br hT ip (br hU ip ⟨p,rfl,?_⟩)⟩
  refine aH (λc=>?_) (λc=>?_)
  ·exact⟨rfl,by rw [List.length_append];show _+1<=_;omega,rD gz (gC gr g0)⟩
  ·exact⟨rfl,by omega,gz.mono (Nat.le_refl _) (by omega)⟩
 ·rintro zs H3 p2 ⟨rfl,zl,gz⟩ hp2
  rw [xl,List.take_length] at gz
  have gz:=gz.mono (Nat.le_refl _) hn
  have s2:=ai (o:=.lst zs) hp2
  refine⟨p2,rfl,zs,.inl ⟨bf.of af,λl hl=>?_⟩⟩
  generalize upd H3 p2 _=H4 at *
  have s3:=ai (o:=.tup zs) hl
  have e3:upd H4 l (.tup zs) l=some (.tup zs):=af
  generalize upd H4 l _=H5 at *
  have S5:=(s1.trans s2).trans s3
  refine⟨q',rfl,hq',q9,λd v H6 hd s6 hv6=>⟨by show 2<=sizeLine;decide,λq1 hq1=>⟨by show 1<=sizeLine;decide,λq2 hq2=>?_⟩⟩⟩
  have s7:=ai (o:=.tup [v,V.int 0]) hq1
  have e7:upd H6 q1 (.tup [v,V.int 0]) q1=some (.tup [v,V.int 0]):=af
  generalize upd H6 q1 _=H7 at *
  have s8:=ai (o:=.tup [V.ref q1]) hq2
  have e8:upd H7 q2 (.tup [V.ref q1]) q2=some (.tup [V.ref q1]):=af
  generalize upd H7 q2 _=H8 at *
  have T8:=(s6.trans s7).trans s8
  have g8:fe K (Nw H) H8 91 400 [V.ref q1]:=(gC (gT (aT.of (s8 _ _ e7)) (gC ((gP hd hv6).same (s7.trans s8)) (gC (gI (by decide)) g0))) g0).mono (Nat.le_refl _) (by decide)
  refine dI (aT.of (T8 _ _ e3)) (aT.of e8) (gz.same ((s2.trans s3).trans T8)) g8 (by decide) λp9 H9 s9 t9 g9=>?_
  refine cI (aT.of ((T8.trans s9) _ _ e3)) ⟨_,rfl,?_⟩
  have S9:=(S5.trans T8).trans s9
  refine dJ (hS.same S9) λp10 H10 s10 t10=>?_
  refine dI (t9.same s10) t10 (g9.same s10) ((gk _ _ gx).same (S9.trans s10)) (by decide) λp11 H11 s11 t11 g11=>?_
  exact q _ _ ((S9.trans s10).trans s11) ((gT t11 g11).mono (by decide) (by decide))
def u7 (n:Nat):Bool:=(List.range 126).all λi=>(List.range 126).all λj=>!decide (n%(2*(126*i+j)+3)=0)
theorem nP {n:Nat} (h:u7 n=true) (n1:3<=n) (n2:n%2=1) (n9:n<31625*31625):Num.Pm (n:Int):=by
 refine qJ (d:=31625) (by omega) (by decide) (λk k2 kd hd=>?_) (by omega)
 have hd':k.toNat∣n:=Int.natCast_dvd_natCast.mp (by rw [show ((k.toNat:Nat):Int)=k by omega];exact hd)
 rcases (by omega:k%2=0∨k%2=1) with z | z
 ·have:=Nat.mod_eq_zero_of_dvd (Nat.dvd_trans (show 2∣k.toNat by omega) hd')
  omega
 ·have hk:((k.toNat-3)/2/126)<126:=by omega
  have h1:=List.all_eq_true.mp h ((k.toNat-3)/2/126) (List.mem_range.mpr hk)
  have h2:=List.all_eq_true.mp h1 ((k.toNat-3)/2%126) (List.mem_range.mpr (Nat.mod_lt _ (by decide)))
  have e:2*(126*((k.toNat-3)/2/126)+(k.toNat-3)/2%126)+3=k.toNat:=by omega
  rw [e,Nat.mod_eq_zero_of_dvd hd'] at h2
  simp at h2
theorem vd:Num.Pm 500000003:=nP (n:=500000003) (by decide +kernel) (by decide) (by decide) (by decide)
theorem ve:Num.Pm 10000019:=nP (n:=10000019) (by decide +kernel) (by decide) (by decide) (by decide)
theorem kC {X:Cx} (K:PySem.W.Frag) (h:X.K=K):eO X (compareOp .In) (vG K false):=h▸mf
def TL (d:PyData):Prop:=∃ p g rows,d=.tuple [.int p,.int g,.tuple rows]/\2<=p/\p<=10^59/\1<=g/\g<=10^59/\aJ rows<=10^4/\∀ r∈rows,RP r
def vW (d:PyData):Prop:=∃ p g rows,d=.tuple [.int p,.int g,.tuple rows]/\2<=rows.length
def lJ (K:PySem.W.Frag):Sp:=λvs H Q _=>∃ m:Int,vs=[.int m]/\0<=m/\m<10^60/\∀ d v H',TL d->vW d->au H H'->dv K H' d v->Q v H'
theorem ju {m:Nat}:∀{l:List PyData},(∀ r∈l,bP r<=m)->aJ l<=m*l.length
 | [],_=>Nat.zero_le _
 | x::r,hl=>by
  have h1:=ju (l:=r) λy z=>hl y (List.mem_cons_of_mem _ z)
  have h2:=hl x (List.mem_cons_self ..)
  show bP x+aJ r<=m*(r.length+1)
  rw [Nat.mul_succ]
  omega
theorem uc {r:PyData} (h:RP r):bP r<=360:=by
 obtain⟨q,d,k,rfl,hp,_⟩:=h
 have:=eB hp
 simp only [bP,aJ]
 omega
theorem fU {q k:Int} {d:PyData} (h:Num.fO q d) (k1:1<=k) (k3:k<=300):RP (.tuple [d,.int k]):=⟨q,d,k,rfl,h,k1,k3⟩
theorem mL {x5:V} (hx5:x5∈[V.int 2,V.int 3,V.int 5,V.int 7,V.int 11,V.int 13,V.int 31,V.int 41,V.int 61,V.int 151,V.int 331,V.int 1321]):∃ q:Int,x5=.int q/\Num.Pm q/\q<=10^9:=by
 have key:∀ n:Nat,2<=n->n<3600->(∀ k,k<60->2<=k->k<n->¬k∣n)->Num.Pm (n:Int):=λn h2 h9 h=>by
  refine⟨by omega,λd d2 dn hd=>?_⟩
  obtain⟨c,hc⟩:=hd
  have c2:2<=c:=by
   rcases (by omega:c<=0∨c=1∨2<=c) with y | y | y
   ·have:=Int.mul_nonpos_of_nonneg_of_nonpos (show 0<=d by omega) y
    omega
   ·rw [y] at hc
    omega
   ·exact y
  have hcn:c<n:=by
   have:=Int.mul_le_mul_of_nonneg_right d2 (show 0<=c by omega)
   omega
  rcases (by omega:d<60∨60<=d) with z | z
  ·exact h d.toNat (by omega) (by omega) (by omega) (Int.natCast_dvd_natCast.mp (by rw [show ((d.toNat:Nat):Int)=d by omega];exact⟨c,hc⟩))
  ·rcases (by omega:c<60∨60<=c) with y | y
   ·exact h c.toNat (by omega) (by omega) (by omega) (Int.natCast_dvd_natCast.mp (by rw [show ((c.toNat:Nat):Int)=c by omega];exact⟨d,by rw [hc,Int.mul_comm]⟩))
   ·have:=Int.mul_le_mul z y (by omega) (by omega)
    omega
 simp only [List.mem_cons,List.not_mem_nil,or_false] at hx5
 rcases hx5 with rfl | rfl | rfl | rfl | rfl | rfl | rfl | rfl | rfl | rfl | rfl | rfl
 ·exact⟨2,rfl,key 2 (by decide) (by decide) (by decide),by decide⟩
 ·exact⟨3,rfl,key 3 (by decide) (by decide) (by decide),by decide⟩
 ·exact⟨5,rfl,key 5 (by decide) (by decide) (by decide),by decide⟩
 ·exact⟨7,rfl,key 7 (by decide) (by decide) (by decide),by decide⟩
 ·exact⟨11,rfl,key 11 (by decide) (by decide) (by decide),by decide⟩
 ·exact⟨13,rfl,key 13 (by decide) (by decide) (by decide),by decide⟩
 ·exact⟨31,rfl,key 31 (by decide) (by decide) (by decide),by decide⟩
 ·exact⟨41,rfl,key 41 (by decide) (by decide) (by decide),by decide⟩
 ·exact⟨61,rfl,key 61 (by decide) (by decide) (by decide),by decide⟩
 ·exact⟨151,rfl,key 151 (by decide) (by decide) (by decide),by decide⟩
 ·exact⟨331,rfl,key 331 (by decide) (by decide) (by decide),by decide⟩
 ·exact⟨1321,rfl,key 1321 (by decide) (by decide) (by decide),by decide⟩
def vw (K:PySem.W.Frag) (H1:Hp) (i:Nat) (zs:List V) (H3:Hp):Prop:=au H1 H3/\∃ rows,bo K H3 rows zs/\rows.length=i/\∀ r∈rows,RP r
theorem eS:az ["_law_number","_law_parts","_law_p","_law_some"] ["_law_number"] (ao (top 42)):=eZ
theorem nt (D:ax K mg "_law_great" (top 42)) (c_prime_paper:Callee P w K mg base (d7 P w) 67 "prime_paper" ["n"] (d5 K)) (n_int:mg "int"=none) (n_tuple:mg "tuple"=none):Callee P w K mg base bc 68 "_law_great" ["_law_number"] (lJ K):=by
 refine cO D eS (λf cdv A outer s H vs Q E hr h=>?_)
 obtain⟨m,rfl,m0,m9,q⟩:=h
 have nd:=eS.nd
 refine⟨_,(@ah _ _ _ _ _ (@aZ _ _ _ _ _ _ _ _ (@aw _ _ _ _ _ _ _ _ bO (@aj _ _ _ _ _ _ _ _ ay (pv 0) ae) ae (av _)) (@ah _ _ _ _ _ (@cz _ _ 1 _ _ _ _ nd rfl (Or.inl rfl) (@aq _ _ _ _ _ (@aa _ _ _ _ _ (@aq _ _ _ _ _ (@aa _ _ _ _ _ (@aG _ _ _ _ _ _ _ _ _ _ _ _ c_prime_paper (hr.mono (by decide)) rfl aS (@aa _ _ _ _ _ ae ag (by rfl)) (by decide) (by rfl) (by rfl)) (@aa _ _ _ _ _ ae ag (by rfl)) (by rfl))) (@aa _ _ _ _ _ (@aq _ _ _ _ _ (@aa _ _ _ _ _ (@aG _ _ _ _ _ _ _ _ _ _ _ _ c_prime_paper (hr.mono (by decide)) rfl aS (@aa _ _ _ _ _ ae ag (by rfl)) (by decide) (by rfl) (by rfl)) (@aa _ _ _ _ _ ae ag (by rfl)) (by rfl))) ag (by rfl)) (by rfl))) (by rfl) (by first | exact .inl rfl | exact .inr rfl | assumption)) (@ak _ _ _ (@aA _ _ _ _ (@aq _ _ _ _ _ (@aa _ _ _ _ _ (@aj _ _ _ _ _ _ _ _ aQ (@aj _ _ _ _ _ _ _ _ b3 ae ae) ae) (@aa _ _ _ _ _ (@aB _ _ _ _ _ _ _ aK (@aU _ _ _ _ (@aa _ _ _ _ _ ae (@aa _ _ _ _ _ (@aj _ _ _ _ _ _ _ _ aQ ae (@aj _ _ _ _ _ _ _ _ ay (@aj _ _ _ _ _ _ _ _ aL (pv 0) ae) (@aj _ _ _ _ _ _ _ _ aQ (@aj _ _ _ _ _ _ _ _ b3 ae ae) ae))) ag (by rfl)) (by rfl))) (@aj _ _ _ _ _ _ _ _ ay (@aj _ _ _ _ _ _ _ _ aL (pv 0) ae) ae) (λ_ _=>rfl)) (@aa _ _ _ _ _ (pv 1) ag (by rfl)) (by rfl)) (by rfl)))))) aF) (@ah _ _ _ _ _ (@aZ _ _ _ _ _ _ _ _ (@aw _ _ _ _ _ _ _ _ bO (@aj _ _ _ _ _ _ _ _ ay (pv 0) ae) ae (av _)) (@ah _ _ _ _ _ (@cz _ _ 2 _ _ _ _ nd rfl (Or.inl rfl) (@aj _ _ _ _ _ _ _ _ aQ (@aj _ _ _ _ _ _ _ _ bb (@aj _ _ _ _ _ _ _ _ bb (@aj _ _ _ _ _ _ _ _ bb ae (@aj _ _ _ _ _ _ _ _ b3 ae ae)) (@aj _ _ _ _ _ _ _ _ b3 ae ae)) (@aj _ _ _ _ _ _ _ _ b3 ae ae)) ae) (by rfl) (by first | exact .inl rfl | exact .inr rfl | assumption)) (@ak _ _ _ (@aA _ _ _ _ (@aq _ _ _ _ _ (@aa _ _ _ _ _ (pv 2) (@aa _ _ _ _ _ (@aj _ _ _ _ _ _ _ _ aQ ae (@aj _ _ _ _ _ _ _ _ ay (@aj _ _ _ _ _ _ _ _ aL (pv 0) ae) (@aB _ _ _ _ _ _ _ aK (@aU _ _ _ _ (@aa _ _ _ _ _ ae (@aa _ _ _ _ _ (@aj _ _ _ _ _ _ _ _ aW (pv 2) ae) ag (by rfl)) (by rfl))) (@aj _ _ _ _ _ _ _ _ ay (@aj _ _ _ _ _ _ _ _ aL (pv 0) ae) ae) (λ_ _=>rfl)))) (@aa _ _ _ _ _ (@aq _ _ _ _ _ (@aa _ _ _ _ _ (@aq _ _ _ _ _ (@aa _ _ _ _ _ (@aG _ _ _ _ _ _ _ _ _ _ _ _ c_prime_paper (hr.mono (by decide)) rfl aS (@aa _ _ _ _ _ ae ag (by rfl)) (by decide) (by rfl) (by rfl)) (@aa _ _ _ _ _ ae ag (by rfl)) (by rfl))) (@aa _ _ _ _ _ (@aq _ _ _ _ _ (@aa _ _ _ _ _ (@aG _ _ _ _ _ _ _ _ _ _ _ _ c_prime_paper (hr.mono (by decide)) rfl aS (@aa _ _ _ _ _ ae ag (by rfl)) (by decide) (by rfl) (by rfl)) (@aa _ _ _ _ _ ae ag (by rfl)) (by rfl))) ag (by rfl)) (by rfl))) ag (by rfl)) (by rfl)) (by rfl)))))) aF) (@ah _ _ _ _ _ (@aZ _ _ _ _ _ _ _ _ (@aw _ _ _ _ _ _ _ _ bO (@aj _ _ _ _ _ _ _ _ ay (pv 0) ae) ae (av _)) (@ah _ _ _ _ _ (@cz _ _ 3 _ _ _ _ nd rfl (Or.inl rfl) (@aU _ _ _ _ (fu rfl)) (by rfl) (by first | exact .inl rfl | exact .inr rfl | assumption)) (@ah _ _ _ _ _ (@cz _ _ 1 _ _ _ _ nd rfl (Or.inl rfl) (@bH _ _ _ _ _ _ _ _ _ b5 rfl n_tuple L2.boot_tuple (@aa _ _ _ _ _ (@fS _ _ _ _ _ _ _ _ _ _ _ _ _ _ rfl (qi (N':=["_law_q"]) (js:=[none]) rfl rfl) (@eC _ _ _ _ (pv 3)) (λ_ _ _ _=>(aD (i:=0) (show List.Nodup [("_law_q":Str)] from by decide +kernel) rfl (Or.inl rfl) (.inr rfl))) (λ_ _ _ _=>cw) (λ_ _ _ _=>(@aq _ _ _ _ _ (@aa _ _ _ _ _ (@aG _ _ _ _ _ _ _ _ _ _ _ _ c_prime_paper (hr.mono (by decide)) rfl aS (@aa _ _ _ _ _ (pv 0) ag (by rfl)) (by decide) (by rfl) (by rfl)) (@aa _ _ _ _ _ (@aj _ _ _ _ _ _ _ _ aQ ae (@bH _ _ _ _ _ _ _ _ _ iw rfl n_int L2.boot_int (@aa _ _ _ _ _ (@bB _ _ _ _ _ _ _ _ bO (pv 0) ae (av _)) ag (by rfl)) (by decide) (by decide) (by rfl) (by rfl))) ag (by rfl)) (by rfl)))) (by intro _;rfl)) ag (by rfl)) (by decide) (by decide) (by rfl) (by rfl)) (by rfl) (by first | exact .inl rfl | exact .inr rfl | assumption)) (@ak _ _ _ (@aA _ _ _ _ (@aq _ _ _ _ _ (@aa _ _ _ _ _ ae (@aa _ _ _ _ _ (@aB _ _ _ _ _ _ _ aK (@aU _ _ _ _ (@aa _ _ _ _ _ ae (@aa _ _ _ _ _ (@aj _ _ _ _ _ _ _ _ aQ ae (@aj _ _ _ _ _ _ _ _ ay (@aj _ _ _ _ _ _ _ _ aL (pv 0) ae) ae)) ag (by rfl)) (by rfl))) (@aj _ _ _ _ _ _ _ _ ay (@aj _ _ _ _ _ _ _ _ aL (pv 0) ae) ae) (λ_ _=>rfl)) (@aa _ _ _ _ _ (pv 1) ag (by rfl)) (by rfl)) (by rfl))))))) aF) (@ah _ _ _ _ _ (@cz _ _ 3 _ _ _ _ nd rfl (Or.inl rfl) (@aU _ _ _ _ (fu rfl)) (by rfl) (by first | exact .inl rfl | exact .inr rfl | assumption)) (@ah _ _ _ _ _ (@cz _ _ 1 _ _ _ _ nd rfl (Or.inl rfl) (@bH _ _ _ _ _ _ _ _ _ b5 rfl n_tuple L2.boot_tuple (@aa _ _ _ _ _ (@fS _ _ _ _ _ _ _ _ _ _ _ _ _ _ rfl (qi (N':=["_law_q"]) (js:=[none]) rfl rfl) (@eC _ _ _ _ (pv 3)) (λ_ _ _ _=>(aD (i:=0) (show List.Nodup [("_law_q":Str)] from by decide +kernel) rfl (Or.inl rfl) (.inr rfl))) (λ_ _ _ _=>cw) (λ_ _ _ _=>(@aq _ _ _ _ _ (@aa _ _ _ _ _ (@aG _ _ _ _ _ _ _ _ _ _ _ _ c_prime_paper (hr.mono (by decide)) rfl aS (@aa _ _ _ _ _ (pv 0) ag (by rfl)) (by decide) (by rfl) (by rfl)) (@aa _ _ _ _ _ (@aj _ _ _ _ _ _ _ _ aQ ae (@bH _ _ _ _ _ _ _ _ _ iw rfl n_int L2.boot_int (@aa _ _ _ _ _ (@bB _ _ _ _ _ _ _ _ (kC K rfl) (pv 0) (@aq _ _ _ _ _ (@aa _ _ _ _ _ ae (@aa _ _ _ _ _ ae ag (by rfl)) (by rfl))) (by with_unfolding_all rfl)) ag (by rfl)) (by decide) (by decide) (by rfl) (by rfl))) ag (by rfl)) (by rfl)))) (by intro _;rfl)) ag (by rfl)) (by decide) (by decide) (by rfl) (by rfl)) (by rfl) (by first | exact .inl rfl | exact .inr rfl | assumption)) (@ak _ _ _ (@aA _ _ _ _ (@aq _ _ _ _ _ (@aa _ _ _ _ _ ae (@aa _ _ _ _ _ (@aB _ _ _ _ _ _ _ aK (@aU _ _ _ _ (@aa _ _ _ _ _ ae (@aa _ _ _ _ _ (@aj _ _ _ _ _ _ _ _ aQ ae (@aj _ _ _ _ _ _ _ _ ay (@aj _ _ _ _ _ _ _ _ aL (pv 0) ae) (@aj _ _ _ _ _ _ _ _ bb ae (@aj _ _ _ _ _ _ _ _ b3 ae ae)))) ag (by rfl)) (by rfl))) (@aj _ _ _ _ _ _ _ _ ay (@aj _ _ _ _ _ _ _ _ aL (pv 0) ae) ae) (λ_ _=>rfl)) (@aa _ _ _ _ _ (pv 1) ag (by rfl)) (by rfl)) (by rfl)))))))))),?_⟩
 show b9 _ _ _ [some (.int m),none,none,none] H
 have fin:∀(p g:Int) (rows:List PyData) (xs:List V) (pr pN:Addr) (H1:Hp),2<=p->p<=10^59->1<=g->g<=10^59->2<=rows.length->rows.length<=12->(∀ r∈rows,RP r)->au H H1->H1 pr=some (.tup xs)->bo K H1 rows xs->H1 pN=none->Q (.ref pN) (upd H1 pN (.tup [.int p,.int g,.ref pr])):=by
  intro p g rows xs pr pN H1 p2 p9 g1 g9 l2 l9 hR sH e1 d1 hN
  have sN:=ai (o:=.tup [V.int p,V.int g,V.ref pr]) hN
  have z1:=ju λr hr=>uc (hR r hr)
  have z2:=Nat.mul_le_mul_left 360 l9
  exact q _ _ _ ⟨p,g,rows,rfl,p2,p9,g1,g9,by omega,hR⟩ ⟨p,g,rows,rfl,l2⟩ (sH.trans sN) (dv.tup af ⟨_,_,rfl,rfl,_,_,rfl,rfl,.one (dv.tup (sN _ _ e1) (bo.same sN _ d1))⟩)
 have two:Num.Pm 2:=cJ (n:=2) (by decide) (by decide)
 have three:Num.Pm 3:=cJ (n:=3) (by decide) (by decide)
 k_data
 refine aH (λc0=>?_) (λc0=>?_)
 ·clear c0
  refine⟨2,rfl,two,by decide,λd1 v1 H1 hd1 s1 hv1=>?_⟩
  have S1:=s1
  refine⟨by show 2<=sizeLine;decide,λa2 ha2=>?_⟩
  have s2:=ai (o:=.tup [v1,V.int 1]) ha2
  have e2:upd H1 a2 (.tup [v1,V.int 1]) a2=some (.tup [v1,V.int 1]):=af
  generalize upd H1 a2 _=H2 at *
  have S2:=S1.trans s2
  refine⟨500000003,rfl,vd,by decide,λd3 v3 H3 hd3 s3 hv3=>?_⟩
  have S3:=S2.trans s3
  refine⟨by show 2<=sizeLine;decide,λa4 ha4=>?_⟩
  have s4:=ai (o:=.tup [v3,V.int 1]) ha4
  have e4:upd H3 a4 (.tup [v3,V.int 1]) a4=some (.tup [v3,V.int 1]):=af
  generalize upd H3 a4 _=H4 at *
  have S4:=S3.trans s4
  refine⟨by show 2<=sizeLine;decide,λa5 ha5=>?_⟩
  have s5:=ai (o:=.tup [V.ref a2,V.ref a4]) ha5
  have e5:upd H4 a5 (.tup [V.ref a2,V.ref a4]) a5=some (.tup [V.ref a2,V.ref a4]):=af
  generalize upd H4 a5 _=H5 at *
  have S5:=S4.trans s5
  refine⟨eg (by decide),?_⟩
  refine⟨by show 2<=sizeLine;decide,λa6 ha6=>?_⟩
  have s6:=ai (o:=.lst [V.int 5,V.int (1+m/8%1000000006)]) ha6
  have e6:upd H5 a6 (.lst [V.int 5,V.int (1+m/8%1000000006)]) a6=some (.lst [V.int 5,V.int (1+m/8%1000000006)]):=af
  generalize upd H5 a6 _=H6 at *
  have S6:=S5.trans s6
  refine⟨eg (by decide),i3 (lo:=1) (hi:=10^59) e6 (by omega) (by omega) (by omega) (by omega) λg g1 g9=>⟨by show 3<=sizeLine;decide,λpN hN=>?_⟩⟩
  have U6:au H6 H6:=au.refl _
  have U5:=s6.trans U6
  have U4:=s5.trans U5
  have U3:=s4.trans U4
  have U2:=s3.trans U3
  have U1:=s2.trans U2
  have U0:=s1.trans U1
  exact fin _ g [.tuple [d1,.int 1],.tuple [d3,.int 1]] _ _ pN _ (by decide) (by decide) g1 (by omega) (by show 2<=2;decide) (by show 2<=12;decide) (λr hr=>by
    simp only [List.mem_cons,List.not_mem_nil,or_false] at hr
    rcases hr with rfl | rfl
    ·exact fU hd1 (by decide) (by decide)
    ·exact fU hd3 (by decide) (by decide)) S6 (U5 _ _ e5) ⟨_,_,rfl,dv.tup (U2 _ _ e2) ⟨_,_,rfl,dv.same U1 _ hv1,.one rfl⟩,.one (dv.tup (U4 _ _ e4) ⟨_,_,rfl,dv.same U3 _ hv3,.one rfl⟩)⟩ hN
 refine aH (λc1=>?_) (λc1=>?_)
 ·clear c0 c1
  refine⟨eg (by decide),eg (by decide),eg (by decide),eg (by decide),eg (by decide),eg (by decide),eg (by decide),?_⟩
  refine⟨by show 2<=sizeLine;decide,λa1 ha1=>?_⟩
  have s1:=ai (o:=.lst [V.int 40,V.int 2353913150770005286438421033702874906038383291674012942336]) ha1
  have e1:upd H a1 (.lst [V.int 40,V.int 2353913150770005286438421033702874906038383291674012942336]) a1=some (.lst [V.int 40,V.int 2353913150770005286438421033702874906038383291674012942336]):=af
  generalize upd H a1 _=H1 at *
  have S1:=s1
  refine⟨eg (by decide),i3 (lo:=1) (hi:=10^58) e1 (by omega) (by omega) (by decide) (by decide) λx x1 x9=>⟨x,rfl,by omega,?_⟩⟩
  refine⟨2,rfl,two,by decide,λd2 v2 H2 hd2 s2 hv2=>?_⟩
  have S2:=S1.trans s2
  refine⟨by show 2<=sizeLine;decide,λa3 ha3=>?_⟩
  have s3:=ai (o:=.tup [v2,V.int 189]) ha3
  have e3:upd H2 a3 (.tup [v2,V.int 189]) a3=some (.tup [v2,V.int 189]):=af
  generalize upd H2 a3 _=H3 at *
  have S3:=S2.trans s3
  refine⟨3,rfl,three,by decide,λd4 v4 H4 hd4 s4 hv4=>?_⟩
  have S4:=S3.trans s4
  refine⟨by show 2<=sizeLine;decide,λa5 ha5=>?_⟩
  have s5:=ai (o:=.tup [v4,V.int 1]) ha5
  have e5:upd H4 a5 (.tup [v4,V.int 1]) a5=some (.tup [v4,V.int 1]):=af
  generalize upd H4 a5 _=H5 at *
  have S5:=S4.trans s5
  refine⟨by show 2<=sizeLine;decide,λa6 ha6=>?_⟩
  have s6:=ai (o:=.tup [V.ref a3,V.ref a5]) ha6
  have e6:upd H5 a6 (.tup [V.ref a3,V.ref a5]) a6=some (.tup [V.ref a3,V.ref a5]):=af
  generalize upd H5 a6 _=H6 at *
  have S6:=S5.trans s6
  refine⟨by show 3<=sizeLine;decide,λpN hN=>?_⟩
  have U6:au H6 H6:=au.refl _
  have U5:=s6.trans U6
  have U4:=s5.trans U5
  have U3:=s4.trans U4
  have U2:=s3.trans U3
  have U1:=s2.trans U2
  have U0:=s1.trans U1
  have y0:=Int.emod_nonneg (m/8) (show x≠0 by omega)
  have y1:=Int.emod_lt_of_pos (m/8) (show 0<x by omega)
  exact fin _ _ [.tuple [d2,.int 189],.tuple [d4,.int 1]] _ _ pN _ (by decide) (by decide) (by omega) (by omega) (by show 2<=2;decide) (by show 2<=12;decide) (λr hr=>by
    simp only [List.mem_cons,List.not_mem_nil,or_false] at hr
    rcases hr with rfl | rfl
    ·exact fU hd2 (by decide) (by decide)
    ·exact fU hd4 (by decide) (by decide)) S6 (U6 _ _ e6) ⟨_,_,rfl,dv.tup (U3 _ _ e3) ⟨_,_,rfl,dv.same U2 _ hv2,.one rfl⟩,.one (dv.tup (U5 _ _ e5) ⟨_,_,rfl,dv.same U4 _ hv4,.one rfl⟩)⟩ hN
 refine aH (λc2=>?_) (λc2=>?_)
 ·clear c0 c1 c2
  refine⟨by show 7<=sizeLine;decide,λa1 ha1=>?_⟩
  have s1:=ai (o:=.lst [V.int 2,V.int 3,V.int 7,V.int 11,V.int 31,V.int 151,V.int 331]) ha1
  have e1:upd H a1 (.lst [V.int 2,V.int 3,V.int 7,V.int 11,V.int 31,V.int 151,V.int 331]) a1=some (.lst [V.int 2,V.int 3,V.int 7,V.int 11,V.int 31,V.int 151,V.int 331]):=af
  generalize upd H a1 _=H1 at *
  refine⟨⟨_,bf.of e1⟩,?_⟩
  refine dj (xs:=[V.int 2,V.int 3,V.int 7,V.int 11,V.int 31,V.int 151,V.int 331]) (λi zs H3=>vw K H1 i zs H3) ⟨au.refl _,[],rfl,rfl,λ_ z=>(List.not_mem_nil z).elim⟩ (by show 7<=sizeLine;decide) (λi zs H3 hi ⟨z1,rows,z2,z3,_⟩=>⟨bf.of (z1 _ _ e1),by rw [z2.length,z3];exact Nat.le_refl _⟩) ?_ ?_
  ·rintro i x zs H3 hx ⟨s3,rows,dz,rl,hR⟩
   obtain⟨q',rfl,hq',q9⟩:=mL (x5:=x) (by
    have:=List.mem_of_getElem? hx
    simp only [List.mem_cons,List.not_mem_nil,or_false] at this ⊢
    rcases this with rfl | rfl | rfl | rfl | rfl | rfl | rfl<;>simp)
   show dF 0 _ [none] _ _
   k_data
   refine⟨True.intro,q',rfl,hq',q9,λd v H4 hd s4 hv=>?_⟩
   refine .inr ⟨by show 2<=sizeLine;decide,λa5 ha5=>?_⟩
   have s5:=ai (o:=.tup [v,V.int (1+if q'=3 then 1 else 0)]) ha5
   have kb:1<=1+(if q'=3 then (1:Int) else 0)/\1+(if q'=3 then (1:Int) else 0)<=300:=by split<;>omega
   have dn:dv K (upd H4 a5 (.tup [v,V.int (1+if q'=3 then 1 else 0)])) (.tuple [d,.int (1+if q'=3 then 1 else 0)]) (.ref a5):=dv.tup af ⟨_,_,rfl,dv.same s5 _ hv,.one rfl⟩
   refine⟨(s3.trans s4).trans s5,rows++[.tuple [d,.int (1+if q'=3 then 1 else 0)]],bo.append (bo.same (s4.trans s5) _ dz) (.one dn),by rw [List.length_append,rl];rfl,λr hr=>?_⟩
   rcases List.mem_append.mp hr with z | z
   ·exact hR r z
   ·rw [List.mem_singleton.mp z]
    exact fU hd kb.1 kb.2
  ·rintro zs H3 p3 ⟨s3,rows,dz,rl,hR⟩ hp3
   have s4:=ai (o:=.lst zs) hp3
   refine⟨p3,rfl,zs,.inl ⟨bf.of af,λl hl=>?_⟩⟩
   generalize upd H3 p3 _=H4 at *
   have s5:=ai (o:=.tup zs) hl
   have e5:upd H4 l (.tup zs) l=some (.tup zs):=af
   generalize upd H4 l _=H5 at *
   refine⟨eg (by decide),by show 2<=sizeLine;decide,λa6 ha6=>⟨eg (by decide),?_⟩⟩
   have s6:=ai (o:=.lst [V.int 7,V.int (1+m/8%2147483646)]) ha6
   have e6:upd H5 a6 (.lst [V.int 7,V.int (1+m/8%2147483646)]) a6=some (.lst [V.int 7,V.int (1+m/8%2147483646)]):=af
   generalize upd H5 a6 _=H6 at *
   refine i3 (lo:=1) (hi:=10^59) e6 (by omega) (by omega) (by omega) (by omega) λg g1 g9=>⟨by show 3<=sizeLine;decide,λpN hN=>?_⟩
   exact fin _ g rows _ l pN _ (by decide) (by decide) g1 (by omega) (by rw [rl];show 2<=7;decide) (by rw [rl];show 7<=12;decide) hR ((((s1.trans s3).trans s4).trans s5).trans s6) (s6 _ _ e5) (bo.same ((s4.trans s5).trans s6) _ dz) hN
 ·clear c0 c1 c2
  refine⟨by show 12<=sizeLine;decide,λa1 ha1=>?_⟩
  have s1:=ai (o:=.lst [V.int 2,V.int 3,V.int 5,V.int 7,V.int 11,V.int 13,V.int 31,V.int 41,V.int 61,V.int 151,V.int 331,V.int 1321]) ha1
  have e1:upd H a1 (.lst [V.int 2,V.int 3,V.int 5,V.int 7,V.int 11,V.int 13,V.int 31,V.int 41,V.int 61,V.int 151,V.int 331,V.int 1321]) a1=some (.lst [V.int 2,V.int 3,V.int 5,V.int 7,V.int 11,V.int 13,V.int 31,V.int 41,V.int 61,V.int 151,V.int 331,V.int 1321]):=af
  generalize upd H a1 _=H1 at *
  refine⟨⟨_,bf.of e1⟩,?_⟩
  refine dj (xs:=[V.int 2,V.int 3,V.int 5,V.int 7,V.int 11,V.int 13,V.int 31,V.int 41,V.int 61,V.int 151,V.int 331,V.int 1321]) (λi zs H3=>vw K H1 i zs H3) ⟨au.refl _,[],rfl,rfl,λ_ z=>(List.not_mem_nil z).elim⟩ (by show 12<=sizeLine;decide) (λi zs H3 hi ⟨z1,rows,z2,z3,_⟩=>⟨bf.of (z1 _ _ e1),by rw [z2.length,z3];exact Nat.le_refl _⟩) ?_ ?_
  ·rintro i x zs H3 hx ⟨s3,rows,dz,rl,hR⟩
   obtain⟨q',rfl,hq',q9⟩:=mL (x5:=x) (by
    have:=List.mem_of_getElem? hx
    simp only [List.mem_cons,List.not_mem_nil,or_false] at this ⊢
    rcases this with rfl | rfl | rfl | rfl | rfl | rfl | rfl | rfl | rfl | rfl | rfl | rfl<;>simp)
   show dF 0 _ [none] _ _
   k_data
   refine⟨True.intro,q',rfl,hq',q9,λd v H4 hd s4 hv=>?_⟩
   refine⟨by show 2<=sizeLine;decide,λa4 ha4=>?_⟩
   have s4a:=ai (o:=.tup [V.int 3,V.int 5]) ha4
   have e4a:upd H4 a4 (.tup [V.int 3,V.int 5]) a4=some (.tup [V.int 3,V.int 5]):=af
   generalize upd H4 a4 _=H4a at *
   refine⟨a4,_,rfl,.inr (aT.of e4a),rfl,rfl,?_⟩
   k_data
   refine .inr ⟨by show 2<=sizeLine;decide,λa5 ha5=>?_⟩
   have s5:=ai (o:=.tup [v,V.int (1+if qw (V.int q') [V.int 3,V.int 5]=true then 1 else 0)]) ha5
   have kb:1<=1+(if qw (V.int q') [V.int 3,V.int 5]=true then (1:Int) else 0)/\1+(if qw (V.int q') [V.int 3,V.int 5]=true then (1:Int) else 0)<=300:=by split<;>omega
   have dn:dv K (upd H4a a5 (.tup [v,V.int (1+if qw (V.int q') [V.int 3,V.int 5]=true then 1 else 0)])) (.tuple [d,.int (1+if qw (V.int q') [V.int 3,V.int 5]=true then 1 else 0)]) (.ref a5):=dv.tup af ⟨_,_,rfl,dv.same (s4a.trans s5) _ hv,.one rfl⟩
   refine⟨((s3.trans s4).trans s4a).trans s5,rows++[.tuple [d,.int (1+if qw (V.int q') [V.int 3,V.int 5]=true then 1 else 0)]],bo.append (bo.same ((s4.trans s4a).trans s5) _ dz) (.one dn),by rw [List.length_append,rl];rfl,λr hr=>?_⟩
   rcases List.mem_append.mp hr with z | z
   ·exact hR r z
   ·rw [List.mem_singleton.mp z]
    exact fU hd kb.1 kb.2
  ·rintro zs H3 p3 ⟨s3,rows,dz,rl,hR⟩ hp3
   have s4:=ai (o:=.lst zs) hp3
   refine⟨p3,rfl,zs,.inl ⟨bf.of af,λl hl=>?_⟩⟩
   generalize upd H3 p3 _=H4 at *
   have s5:=ai (o:=.tup zs) hl
   have e5:upd H4 l (.tup zs) l=some (.tup zs):=af
   generalize upd H4 l _=H5 at *
   refine⟨eg (by decide),eg (by decide),eg (by decide),by show 2<=sizeLine;decide,λa6 ha6=>⟨eg (by decide),?_⟩⟩
   have s6:=ai (o:=.lst [V.int 37,V.int (1+m/8%2000000000000000000)]) ha6
   have e6:upd H5 a6 (.lst [V.int 37,V.int (1+m/8%2000000000000000000)]) a6=some (.lst [V.int 37,V.int (1+m/8%2000000000000000000)]):=af
   generalize upd H5 a6 _=H6 at *
   refine i3 (lo:=1) (hi:=10^59) e6 (by omega) (by omega) (by omega) (by omega) λg g1 g9=>⟨by show 3<=sizeLine;decide,λpN hN=>?_⟩
   exact fin _ g rows _ l pN _ (by decide) (by decide) g1 (by omega) (by rw [rl];show 2<=12;decide) (by rw [rl];show 12<=12;decide) hR ((((s1.trans s3).trans s4).trans s5).trans s6) (s6 _ _ e5) (bo.same ((s4.trans s5).trans s6) _ dz) hN
end
end K
theorem L2.boot_str:PySem.bootBuiltins "str"=some (.type "str"):=by decide +kernel
namespace K
open PySem PySem.Spec PyProof.Rows L2
section
variable {P:Program} {w:World} {K:PySem.W.Frag} {mg:Str->Option Value} {base:Heap} {F:Addr->Prop}
theorem aN {H:Hp} {L N:Nat}:∀ y∈([]:List V),GD K F H L N y:=λ_ z=>(List.not_mem_nil z).elim
theorem aC {H:Hp} {L N L' N':Nat} {x:V} {xs:List V} (h:GD K F H L N x) (l:L<=L') (n:N<=N') (t:∀ y∈xs,GD K F H L' N' y):∀ y∈x::xs,GD K F H L' N' y:=λy hy=>by
 rcases List.mem_cons.mp hy with rfl | z
 ·exact h.mono l n
 ·exact t y z
def gX (K:PySem.W.Frag) (L:Nat):Sp:=λvs H Q _=>∃(v:V) (way m deep:Int) (d:PyData),vs=[v,.int way,.int m,.int deep]/\0<=way/\way<43/\0<=m/\m<10^60/\0<=deep/\deep<L/\TL d/\dv K H d v/\Got K (95+3*L) (10000+21000*L) H Q
theorem nG {n:Int} {d:PyData} (h:Num.fO n d):TL d:=by
 have hs:=eB h
 cases h with
 | mk _ g ps ds pm n9 lf hP hl hds =>
  have p2:=pm.two
  have g1:=lf.one
  have g9:=lf.lt
  simp only [bP,aJ] at hs
  refine⟨n,g,_,rfl,p2,by omega,g1,by omega,by omega,λr hr=>?_⟩
  obtain⟨i,q,k,hi,rfl⟩:=dU hr
  have hok:=hP.ok _ (List.mem_of_getElem? hi)
  have k3:k<=30:=hok.2.2
  exact fU (hds i q k hi) hok.2.1 (by omega)
def sM (K:PySem.W.Frag) (H:Hp) (σ0:V->List (Option V)) (n:Nat) (σ:List (Option V)) (H':Hp):Prop:=au H H'/\∃ l vs,σ=σ0 (.ref l)/\H' l=some (.lst vs)/\vs.length=n/\∀ x∈vs,GD K (Nw H) H' 95 31000 x
theorem dD:az ["_law_paper","_law_way","_law_number","_law_deep","_law_p","_law_full","_law_parts","_law_at","_law_inner","_law_some","_law_more"] ["_law_paper","_law_way","_law_number","_law_deep"] (ao (top 43)):=eZ
theorem nq (D:ax K mg "_law_bent" (top 43)):Callee P w K mg base bc 69 "_law_bent" ["_law_paper","_law_way","_law_number","_law_deep"] (gX K 0):=by
 refine cO D dD (λf cdv A outer s H vs Q E hr h=>?_)
 obtain⟨v,way,m,deep,d,rfl,_,_,_,_,z0,z1,_⟩:=h
 omega
theorem ft {L:Nat} (hL:L<=3) (D:ax K mg "_law_bent" (top 43)) (c__law_bent:Callee P w K mg base bc (L+69) "_law_bent" ["_law_paper","_law_way","_law_number","_law_deep"] (gX K L)) (c__law_right_product:Callee P w K mg base bc 68 "_law_right_product" ["_law_parts","_law_at","_law_number"] (jq K)) (c__law_bent_part:Callee P w K mg base bc 68 "_law_bent_part" ["_law_part","_law_way","_law_number"] (fc K)) (n_list:mg "list"=none) (n_len:mg "len"=none) (n_max:mg "max"=none) (n_str:mg "str"=none):Callee P w K mg base bc (L+70) "_law_bent" ["_law_paper","_law_way","_law_number","_law_deep"] (gX K (L+1)):=by
 refine cO D dD (λf cdv A outer s H vs Q E hr h=>?_)
 obtain⟨v,way,m,deep,d,rfl,w0,w9,m0,m9,z0,z1,hTL,hv,q⟩:=h
 have nd:=dD.nd
 refine⟨_,(ah (dR (pv 0) (dC (n:=3) rfl (aI (aD (i:=4) nd rfl (Or.inl rfl) (.inr rfl)) (aI (aD (i:=5) nd rfl (Or.inl rfl) (.inr rfl)) (aI (aD (i:=6) nd rfl (Or.inl rfl) (.inr rfl)) cn))))) (ah (bU (i:=7) nd (aj ay (pv 2) (aE (ix rfl) rfl n_max L2.boot_max (aa ae (aa (aE bN rfl n_len PySem.boot_len (aa (pv 6) ag)) ag))))) (ah (bM (aZ (PW.pt (je (aw cu (pv 3) ae (av _)) (jf (aw cu (aE bN rfl n_len PySem.boot_len (aa (pv 6) ag)) ae (av _))))) (ah (bU (i:=8) nd (aG c__law_bent (hr.mono (by omega)) rfl aM (aa (aB aO (aB aO (pv 6) (pv 7) (λ_ _=>rfl)) ae (λ_ _=>rfl)) (aa (pv 1) (aa (aj aL (pv 2) ae) (aa (aj aW (pv 3) ae) ag)))))) (ak (aA (aq (aa (pv 4) (aa (pv 5) (aa (aj bR (aj bR (bt bW (pv 6) bL (bI (pv 7))) (aq (aa (aq (aa (pv 8) (aa (aB aO (aB aO (pv 6) (pv 7) (λ_ _=>rfl)) ae (λ_ _=>rfl)) ag))) ag))) (bt bW (pv 6) (bI (aj aQ (pv 7) ae)) bL)) ag))))))) aF)) (ah (bM (bU (i:=9) nd (aU (aa (aq (aa (aj aQ (pv 4) ae) (aa (pv 5) (aa (pv 6) ag)))) (aa (aq (aa (pv 4) (aa (aj aQ (pv 5) ae) (aa (pv 6) ag)))) (aa (aq (aa (pv 4) (aa (aj aW (pv 5) ae) (aa (pv 6) ag)))) (aa (aq (aa (pv 4) (aa (aj aQ (pv 5) (pv 4)) (aa (pv 6) ag)))) ag))))))) (ah (bM (bU (i:=9) nd (aj dP (pv 9) (aU (aa (aq (aa (pv 4) (aa (aj aW ae (pv 5)) (aa (pv 6) ag)))) (aa (aq (aa (pv 4) (aa bT (aa (pv 6) ag)))) (aa (aq (aa bT (aa (pv 5) (aa (pv 6) ag)))) (aa (aq (aa (pv 4) (aa (bH iQ rfl n_str L2.boot_str (aa (pv 5) ag)) (aa (pv 6) ag)))) ag)))))))) (ah (bM (bU (i:=9) nd (aj dP (pv 9) (aU (aa (aq (aa (pv 4) (aa (pv 5) (aa (pR (pv 6) (bI (nL kT ae))) ag)))) (aa (aq (aa (pv 5) (aa (pv 4) (aa (pv 6) ag)))) (aa (aq (aa (pv 4) (aa (pv 5) (aa (bH fj rfl n_list L2.boot_list (aa (pv 6) ag)) ag)))) (aa (aq (aa (pv 4) (aa (pv 5) ag))) ag)))))))) (ah (bM (bU (i:=9) nd (aj dP (pv 9) (aU (aa (aq (aa (pv 4) (aa (pv 5) (aa (pv 6) (aa (pv 6) ag))))) (aa (aU (aa (pv 4) (aa (pv 5) (aa (pv 6) ag)))) (aa (aq (aa (pv 4) (aa (pv 5) (aa kE ag)))) (aa (pv 4) (aa kE (aa (aq (aa (pv 4) (aa (aj ay (pv 2) (pv 4)) (aa (pv 6) ag)))) ag)))))))))) (ah (bM (bU (i:=9) nd (aj dP (pv 9) (aU (aa (aq (aa (pv 4) (aa (aj aW (pv 4) ae) (aa (pv 6) ag)))) (aa (aq (aa (aj aW (pv 4) ae) (aa (pv 5) (aa (pv 6) ag)))) (aa (aq (aa (pv 4) (aa (pv 5) (aa (aq ag) ag)))) (aa (aq ag) ag)))))))) (ah (aZ (aw cu (pv 1) ae (av _)) (ak (aA (aq (aa (pv 4) (aa (pv 5) (aa (aG c__law_right_product (hr.mono (by omega)) rfl aM (aa (pv 6) (aa (pv 7) (aa (pv 2) ag)))) ag)))))) aF) (ah (aZ (PW.pt (cW (aw cT (pv 1) ae (av _)) (eY (aw bO (aE bN rfl n_len PySem.boot_len (aa (pv 6) ag)) ae (av _))))) (ak (aA (aB aK (pv 9) (aj ay (pv 1) ae) (λ_ _=>rfl)))) aF) (ah (aZ (aw cT (pv 1) ae (av _)) (ah (bU (i:=10) nd (aU (aa (aj bR (bt bW (pv 6) bL (bI (pv 7))) (bt bW (pv 6) (bI (aj aQ (pv 7) ae)) bL)) (aa (aj bR (bt bW (pv 6) bL (bI (aj aQ (pv 7) ae))) (bt bW (pv 6) (bI (pv 7)) bL)) (aa (aj bR (pv 6) (pv 6)) ag))))) (ak (aA (aq (aa (pv 4) (aa (pv 5) (aa (aB aK (pv 10) (aj aW (pv 1) ae) (λ_ _=>rfl)) ag))))))) aF) (ak (aA (aq (aa (pv 4) (aa (pv 5) (aa (aj bR (aj bR (bt bW (pv 6) bL (bI (pv 7))) (aq (aa (aG c__law_bent_part (hr.mono (by omega)) rfl aM (aa (aB aO (pv 6) (pv 7) (λ_ _=>rfl)) (aa (aj aW (pv 1) ae) (aa (aj aL (pv 2) ae) ag)))) ag))) (bt bW (pv 6) (bI (aj aQ (pv 7) ae)) bL)) ag))))))))))))))))),?_⟩
 show b9 _ _ _ [some v,some (.int way),some (.int m),some (.int deep),none,none,none,none,none,none,none] H
 obtain⟨p,g,rows,rfl,p2,p9,g1,g9,hn,hR⟩:=hTL
 obtain⟨pa,x1,x2,x3,rfl,hU,f1,f2,f3⟩:=mU hv
 cases f1
 cases f2
 obtain⟨a,xs,rfl,hS,dd⟩:=f3
 have xl:=dd.length
 have gx:=jV (F:=Nw H) hR dd hn
 k_data
 refine⟨pa,_,rfl,hU,rfl,?_⟩
 k_data
 refine cI hS ⟨_,rfl,?_⟩
 have l1:(0:Int)<if (xs.length:Int) > 1 then (xs.length:Int) else 1:=by split<;>omega
 refine⟨l1,?_⟩
 obtain⟨i,hi,il⟩:∃ i:Nat,m%(if (xs.length:Int) > 1 then (xs.length:Int) else 1)=(i:Int)/\(xs.length=0∨i<xs.length):=by
  have h1:=Int.emod_nonneg m (show (if (xs.length:Int) > 1 then (xs.length:Int) else 1)≠0 by omega)
  have h2:=Int.emod_lt_of_pos m l1
  refine⟨(m%(if (xs.length:Int) > 1 then (xs.length:Int) else 1)).toNat,by omega,?_⟩
  generalize m%(if (xs.length:Int) > 1 then (xs.length:Int) else 1)=y at *
  split at h2<;>omega
 rw [hi]
 clear hi l1
 have row:∀(H':Hp),0<xs.length->∃ pt pb k d,xs[i]?=some (.ref pt)/\aT K H pt [.ref pb,.int k]/\dv K H d (.ref pb)/\(∃ q,Num.fO q d)/\1<=k/\k<=300/\∃ r,RP r/\dv K H r (.ref pt):=by
  intro _ l0
  obtain⟨x,hx⟩:∃ x,xs[i]?=some x:=⟨_,List.getElem?_eq_getElem (by omega)⟩
  obtain⟨r,hr',hvr⟩:=dd.get hx
  obtain⟨pt,pb,p',g',k,u,d,rfl,hT,hU',hp,hd,k1,k3,_⟩:=lG (hR r (List.mem_of_getElem? hr')) hvr
  exact⟨pt,pb,k,d,hx,hT,hd,⟨_,hp⟩,k1,k3,r,hR r (List.mem_of_getElem? hr'),hvr⟩
 have fin:∀{u:V} {H':Hp},au H H'->GD K (Nw H) H' 95 31000 u->Q u H':=λs' gu=>q _ _ s' (gu.mono (by omega) (by omega))
 refine⟨λσ' H'=>H'=H/\σ'=[some (.ref pa),some (.int way),some (.int m),some (.int deep),some (.int p),some (.int g),some (.ref a),some (.int i),none,none,none],?_,?_⟩
 ·k_data
  refine aH (λc0=>cI hS ⟨_,rfl,aH (λc1=>?_) (λc1=>rfl)⟩) (λc0=>True.intro)
  obtain⟨pt,pb,k,d,hx,hT,hd,⟨q',hp⟩,k1,k3,_⟩:=row H (by omega)
  refine br hS (cH hx) (br hT ip ⟨eg (by decide),_,way,m/7,deep-1,d,rfl,w0,w9,by omega,by omega,by omega,by omega,nG hp,hd,λu H1 s1 gu=>?_⟩)
  refine dJ (hS.same s1) λa2 H2 s2 t2=>?_
  have S2:=s1.trans s2
  refine br (hS.same S2) (cH hx) (br (hT.same S2) ow ⟨by show 2<=sizeLine;decide,λa3 ha3=>?_⟩)
  have s3:=ai (o:=.tup [u,V.int k]) ha3
  have e3:upd H2 a3 (.tup [u,V.int k]) a3=some (.tup [u,V.int k]):=af
  generalize upd H2 a3 _=H3 at *
  refine⟨by show 1<=sizeLine;decide,λa4 ha4=>?_⟩
  have s4:=ai (o:=.tup [V.ref a3]) ha4
  have e4:upd H3 a4 (.tup [V.ref a3]) a4=some (.tup [V.ref a3]):=af
  generalize upd H3 a4 _=H4 at *
  have S4:=(S2.trans s3).trans s4
  have g4:fe K (Nw H) H4 (95+3*L+1) (10000+21000*L+3) [V.ref a3]:=(gC (gT (aT.of (s4 _ _ e3)) (gC ((gu.same ((s2.trans s3).trans s4))) (gC ((gI (L:=0) (by omega)).mono (by omega) (Nat.le_refl _)) g0))) g0).mono (Nat.le_refl _) (by omega)
  obtain⟨L0,N0⟩:91<=95+3*L+1/\L<=10:=⟨by omega,by omega⟩
  refine dI (t2.same (s3.trans s4)) (aT.of e4) (((gk _ _ gx).same S4).mono L0 (Nat.le_refl _)) g4 (by omega) λa5 H5 s5 t5 g5=>?_
  have S5:=S4.trans s5
  refine dJ (hS.same S5) λa6 H6 s6 t6=>?_
  have S6:=S5.trans s6
  refine dI (t5.same s6) t6 (g5.same s6) (((gk _ _ gx).same S6).mono L0 (Nat.le_refl _)) (by omega) λa7 H7 s7 t7 g7=>⟨by show 3<=sizeLine;decide,λa8 ha8=>?_⟩
  have s8:=ai (o:=.tup [V.int p,V.int g,V.ref a7]) ha8
  have S8:=(S6.trans s7).trans s8
  refine q _ _ S8 ((gT (L:=95+3*L+2) (aT.of af) (gC ((gI (L:=0) (by omega)).mono (by omega) (Nat.le_refl _)) (gC ((gI (L:=0) (by omega)).mono (by omega) (Nat.le_refl _)) (gC ((gT t7 g7).same s8) g0)))).mono (by omega) (by omega))
 rintro σ' H ⟨rfl,rfl⟩
 k_data
 refine⟨sM K H (λy=>[some (.ref pa),some (.int way),some (.int m),some (.int deep),some (.int p),some (.int g),some (.ref a),some (.int i),none,some y,none]) 4,?_,?_⟩
 ·k_data
  refine⟨by show 3<=sizeLine;decide,λa1 ha1=>?_⟩
  have s1:=ai (o:=.tup [V.int (p+1),V.int g,V.ref a]) ha1
  have e1:upd H a1 (.tup [V.int (p+1),V.int g,V.ref a]) a1=some (.tup [V.int (p+1),V.int g,V.ref a]):=af
  generalize upd H a1 _=H1 at *
  have S1:=s1
  refine⟨by show 3<=sizeLine;decide,λa2 ha2=>?_⟩
  have s2:=ai (o:=.tup [V.int p,V.int (g+1),V.ref a]) ha2
  have e2:upd H1 a2 (.tup [V.int p,V.int (g+1),V.ref a]) a2=some (.tup [V.int p,V.int (g+1),V.ref a]):=af
  generalize upd H1 a2 _=H2 at *
  have S2:=S1.trans s2
  refine⟨by show 3<=sizeLine;decide,λa3 ha3=>?_⟩
  have s3:=ai (o:=.tup [V.int p,V.int (g-1),V.ref a]) ha3
  have e3:upd H2 a3 (.tup [V.int p,V.int (g-1),V.ref a]) a3=some (.tup [V.int p,V.int (g-1),V.ref a]):=af
  generalize upd H2 a3 _=H3 at *
  have S3:=S2.trans s3
  refine⟨by show 3<=sizeLine;decide,λa4 ha4=>?_⟩
  have s4:=ai (o:=.tup [V.int p,V.int (g+p),V.ref a]) ha4
  have e4:upd H3 a4 (.tup [V.int p,V.int (g+p),V.ref a]) a4=some (.tup [V.int p,V.int (g+p),V.ref a]):=af
  generalize upd H3 a4 _=H4 at *
  have S4:=S3.trans s4
  refine⟨by show 4<=sizeLine;decide,λa5 ha5=>?_⟩
  have s5:=ai (o:=.lst [V.ref a1,V.ref a2,V.ref a3,V.ref a4]) ha5
  have e5:upd H4 a5 (.lst [V.ref a1,V.ref a2,V.ref a3,V.ref a4]) a5=some (.lst [V.ref a1,V.ref a2,V.ref a3,V.ref a4]):=af
  generalize upd H4 a5 _=H5 at *
  have S5:=S4.trans s5
  have U5:au H5 H5:=au.refl _
  have U4:=s5.trans U5
  have U3:=s4.trans U4
  have U2:=s3.trans U3
  have U1:=s2.trans U2
  have U0:=s1.trans U1
  have ga:GD K (Nw H) H5 92 10001 (.ref a):=gT (hS.same S5) (gx.same S5)
  exact⟨S5,a5,_,rfl,e5,rfl,(aC (gT (L:=92) (aT.of (U1 _ _ e1)) (gC (gI (by omega)) (gC (gI (by omega)) (gC ga g0)))) (by decide) (by decide) (aC (gT (L:=92) (aT.of (U2 _ _ e2)) (gC (gI (by omega)) (gC (gI (by omega)) (gC ga g0)))) (by decide) (by decide) (aC (gT (L:=92) (aT.of (U3 _ _ e3)) (gC (gI (by omega)) (gC (gI (by omega)) (gC ga g0)))) (by decide) (by decide) (aC (gT (L:=92) (aT.of (U4 _ _ e4)) (gC (gI (by omega)) (gC (gI (by omega)) (gC ga g0)))) (by decide) (by decide) aN))))⟩
 have lg:g.natAbs.log2<1920:=Nat.lt_of_lt_of_le ((Nat.log2_lt (by omega)).mpr (show g.natAbs<2^200 by omega)) (by decide)
 rintro σ' F1 ⟨T1,l,vs,rfl,el,vl,hall⟩
 k_data
 refine⟨sM K H (λy=>[some (.ref pa),some (.int way),some (.int m),some (.int deep),some (.int p),some (.int g),some (.ref a),some (.int i),none,some y,none]) 8,?_,?_⟩
 ·k_data
  refine⟨by show 3<=sizeLine;decide,λa1 ha1=>?_⟩
  have s1:=ai (o:=.tup [V.int p,V.int (0-g),V.ref a]) ha1
  have e1:upd F1 a1 (.tup [V.int p,V.int (0-g),V.ref a]) a1=some (.tup [V.int p,V.int (0-g),V.ref a]):=af
  generalize upd F1 a1 _=H1 at *
  have S1:=s1
  refine⟨by show 3<=sizeLine;decide,λa2 ha2=>?_⟩
  have s2:=ai (o:=.tup [V.int p,V.bl true,V.ref a]) ha2
  have e2:upd H1 a2 (.tup [V.int p,V.bl true,V.ref a]) a2=some (.tup [V.int p,V.bl true,V.ref a]):=af
  generalize upd H1 a2 _=H2 at *
  have S2:=S1.trans s2
  refine⟨by show 3<=sizeLine;decide,λa3 ha3=>?_⟩
  have s3:=ai (o:=.tup [V.bl true,V.int g,V.ref a]) ha3
  have e3:upd H2 a3 (.tup [V.bl true,V.int g,V.ref a]) a3=some (.tup [V.bl true,V.int g,V.ref a]):=af
  generalize upd H2 a3 _=H3 at *
  have S3:=S2.trans s3
  refine⟨lg,?_⟩
  refine⟨by show 3<=sizeLine;decide,λa4 ha4=>?_⟩
  have s4:=ai (o:=.tup [V.int p,V.str (toString g),V.ref a]) ha4
  have e4:upd H3 a4 (.tup [V.int p,V.str (toString g),V.ref a]) a4=some (.tup [V.int p,V.str (toString g),V.ref a]):=af
  generalize upd H3 a4 _=H4 at *
  have S4:=S3.trans s4
  refine⟨by show 4<=sizeLine;decide,λa5 ha5=>?_⟩
  have s5:=ai (o:=.lst [V.ref a1,V.ref a2,V.ref a3,V.ref a4]) ha5
  have e5:upd H4 a5 (.lst [V.ref a1,V.ref a2,V.ref a3,V.ref a4]) a5=some (.lst [V.ref a1,V.ref a2,V.ref a3,V.ref a4]):=af
  generalize upd H4 a5 _=H5 at *
  have S5:=S4.trans s5
  refine⟨l,a5,_,_,rfl,rfl,((((s1.trans s2).trans s3).trans s4).trans s5) _ _ el,e5,by show vs.length+4<=sizeLine;rw [vl];decide,λa6 ha6=>?_⟩
  have s6:=ai (o:=.lst (vs++[V.ref a1,V.ref a2,V.ref a3,V.ref a4])) ha6
  have e6:upd H5 a6 (.lst (vs++[V.ref a1,V.ref a2,V.ref a3,V.ref a4])) a6=some (.lst (vs++[V.ref a1,V.ref a2,V.ref a3,V.ref a4])):=af
  generalize upd H5 a6 _=H6 at *
  have S6:=S5.trans s6
  have U6:au H6 H6:=au.refl _
  have U5:=s6.trans U6
  have U4:=s5.trans U5
  have U3:=s4.trans U4
  have U2:=s3.trans U3
  have U1:=s2.trans U2
  have U0:=s1.trans U1
  have ga:GD K (Nw H) H6 92 10001 (.ref a):=gT (hS.same (T1.trans S6)) (gx.same (T1.trans S6))
  exact⟨(T1.trans S6),a6,_,rfl,e6,by rw [List.length_append,vl];rfl,λx hx=>(List.mem_append.mp hx).elim (λz=>(hall x z).same S6) ((aC (gT (L:=92) (aT.of (U1 _ _ e1)) (gC (gI (by omega)) (gC (gI (by omega)) (gC ga g0)))) (by decide) (by decide) (aC (gT (L:=92) (aT.of (U2 _ _ e2)) (gC (gI (by omega)) (gC gB (gC ga g0)))) (by decide) (by decide) (aC (gT (L:=92) (aT.of (U3 _ _ e3)) (gC gB (gC (gI (by omega)) (gC ga g0)))) (by decide) (by decide) (aC (gT (L:=92) (aT.of (U4 _ _ e4)) (gC (gI (by omega)) (gC gS (gC ga g0)))) (by decide) (by decide) aN)))) x)⟩
 rintro σ' F2 ⟨T2,l,vs,rfl,el,vl,hall⟩
 k_data
 refine⟨sM K H (λy=>[some (.ref pa),some (.int way),some (.int m),some (.int deep),some (.int p),some (.int g),some (.ref a),some (.int i),none,some y,none]) 12,?_,?_⟩
 ·k_data
  unfold qU
  k_data
  refine⟨xs,hS.same T2,λa1 ha1=>?_⟩
  have s1:=ai (o:=.tup xs.reverse) ha1
  have e1:upd F2 a1 (.tup xs.reverse) a1=some (.tup xs.reverse):=af
  generalize upd F2 a1 _=H1 at *
  have S1:=s1
  refine⟨by show 3<=sizeLine;decide,λa2 ha2=>?_⟩
  have s2:=ai (o:=.tup [V.int p,V.int g,V.ref a1]) ha2
  have e2:upd H1 a2 (.tup [V.int p,V.int g,V.ref a1]) a2=some (.tup [V.int p,V.int g,V.ref a1]):=af
  generalize upd H1 a2 _=H2 at *
  have S2:=S1.trans s2
  refine⟨by show 3<=sizeLine;decide,λa3 ha3=>?_⟩
  have s3:=ai (o:=.tup [V.int g,V.int p,V.ref a]) ha3
  have e3:upd H2 a3 (.tup [V.int g,V.int p,V.ref a]) a3=some (.tup [V.int g,V.int p,V.ref a]):=af
  generalize upd H2 a3 _=H3 at *
  have S3:=S2.trans s3
  refine⟨xs,.inr (hS.same (T2.trans S3)),λa4 ha4=>?_⟩
  have s4:=ai (o:=.lst xs) ha4
  have e4:upd H3 a4 (.lst xs) a4=some (.lst xs):=af
  generalize upd H3 a4 _=H4 at *
  have S4:=S3.trans s4
  refine⟨by show 3<=sizeLine;decide,λa5 ha5=>?_⟩
  have s5:=ai (o:=.tup [V.int p,V.int g,V.ref a4]) ha5
  have e5:upd H4 a5 (.tup [V.int p,V.int g,V.ref a4]) a5=some (.tup [V.int p,V.int g,V.ref a4]):=af
  generalize upd H4 a5 _=H5 at *
  have S5:=S4.trans s5
  refine⟨by show 2<=sizeLine;decide,λa6 ha6=>?_⟩
  have s6:=ai (o:=.tup [V.int p,V.int g]) ha6
  have e6:upd H5 a6 (.tup [V.int p,V.int g]) a6=some (.tup [V.int p,V.int g]):=af
  generalize upd H5 a6 _=H6 at *
  have S6:=S5.trans s6
  refine⟨by show 4<=sizeLine;decide,λa7 ha7=>?_⟩
  have s7:=ai (o:=.lst [V.ref a2,V.ref a3,V.ref a5,V.ref a6]) ha7
  have e7:upd H6 a7 (.lst [V.ref a2,V.ref a3,V.ref a5,V.ref a6]) a7=some (.lst [V.ref a2,V.ref a3,V.ref a5,V.ref a6]):=af
  generalize upd H6 a7 _=H7 at *
  have S7:=S6.trans s7
  refine⟨l,a7,_,_,rfl,rfl,((((((s1.trans s2).trans s3).trans s4).trans s5).trans s6).trans s7) _ _ el,e7,by show vs.length+4<=sizeLine;rw [vl];decide,λa8 ha8=>?_⟩
  have s8:=ai (o:=.lst (vs++[V.ref a2,V.ref a3,V.ref a5,V.ref a6])) ha8
  have e8:upd H7 a8 (.lst (vs++[V.ref a2,V.ref a3,V.ref a5,V.ref a6])) a8=some (.lst (vs++[V.ref a2,V.ref a3,V.ref a5,V.ref a6])):=af
  generalize upd H7 a8 _=H8 at *
  have S8:=S7.trans s8
  have U8:au H8 H8:=au.refl _
  have U7:=s8.trans U8
  have U6:=s7.trans U7
  have U5:=s6.trans U6
  have U4:=s5.trans U5
  have U3:=s4.trans U4
  have U2:=s3.trans U3
  have U1:=s2.trans U2
  have U0:=s1.trans U1
  have ga:GD K (Nw H) H8 92 10001 (.ref a):=gT (hS.same (T2.trans S8)) (gx.same (T2.trans S8))
  exact⟨(T2.trans S8),a8,_,rfl,e8,by rw [List.length_append,vl];rfl,λx hx=>(List.mem_append.mp hx).elim (λz=>(hall x z).same S8) ((aC (gT (L:=92) (aT.of (U2 _ _ e2)) (gC (gI (by omega)) (gC (gI (by omega)) (gC (gT (aT.of (U1 _ _ e1)) (sY (gx.same (T2.trans (S1.trans U1))))) g0)))) (by decide) (by decide) (aC (gT (L:=92) (aT.of (U3 _ _ e3)) (gC (gI (by omega)) (gC (gI (by omega)) (gC ga g0)))) (by decide) (by decide) (aC (gT (L:=92) (aT.of (U5 _ _ e5)) (gC (gI (by omega)) (gC (gI (by omega)) (gC (gL (U4 _ _ e4) (nw (T2.trans S3) ha4) (gx.same (T2.trans (S4.trans U4)))) g0)))) (by decide) (by decide) (aC (gT (L:=92) (aT.of (U6 _ _ e6)) (gC (gI (by omega)) (gC (gI (by omega)) g0))) (by decide) (by decide) aN)))) x)⟩
 rintro σ' F3 ⟨T3,l,vs,rfl,el,vl,hall⟩
 k_data
 refine⟨sM K H (λy=>[some (.ref pa),some (.int way),some (.int m),some (.int deep),some (.int p),some (.int g),some (.ref a),some (.int i),none,some y,none]) 18,?_,?_⟩
 ·k_data
  refine⟨by show 4<=sizeLine;decide,λa1 ha1=>?_⟩
  have s1:=ai (o:=.tup [V.int p,V.int g,V.ref a,V.ref a]) ha1
  have e1:upd F3 a1 (.tup [V.int p,V.int g,V.ref a,V.ref a]) a1=some (.tup [V.int p,V.int g,V.ref a,V.ref a]):=af
  generalize upd F3 a1 _=H1 at *
  have S1:=s1
  refine⟨by show 3<=sizeLine;decide,λa2 ha2=>?_⟩
  have s2:=ai (o:=.lst [V.int p,V.int g,V.ref a]) ha2
  have e2:upd H1 a2 (.lst [V.int p,V.int g,V.ref a]) a2=some (.lst [V.int p,V.int g,V.ref a]):=af
  generalize upd H1 a2 _=H2 at *
  have S2:=S1.trans s2
  refine⟨by show 3<=sizeLine;decide,λa3 ha3=>?_⟩
  have s3:=ai (o:=.tup [V.int p,V.int g,V.non]) ha3
  have e3:upd H2 a3 (.tup [V.int p,V.int g,V.non]) a3=some (.tup [V.int p,V.int g,V.non]):=af
  generalize upd H2 a3 _=H3 at *
  have S3:=S2.trans s3
  refine⟨by omega,?_⟩
  refine⟨by show 3<=sizeLine;decide,λa4 ha4=>?_⟩
  have s4:=ai (o:=.tup [V.int p,V.int (m%p),V.ref a]) ha4
  have e4:upd H3 a4 (.tup [V.int p,V.int (m%p),V.ref a]) a4=some (.tup [V.int p,V.int (m%p),V.ref a]):=af
  generalize upd H3 a4 _=H4 at *
  have S4:=S3.trans s4
  refine⟨by show 6<=sizeLine;decide,λa5 ha5=>?_⟩
  have s5:=ai (o:=.lst [V.ref a1,V.ref a2,V.ref a3,V.int p,V.non,V.ref a4]) ha5
  have e5:upd H4 a5 (.lst [V.ref a1,V.ref a2,V.ref a3,V.int p,V.non,V.ref a4]) a5=some (.lst [V.ref a1,V.ref a2,V.ref a3,V.int p,V.non,V.ref a4]):=af
  generalize upd H4 a5 _=H5 at *
  have S5:=S4.trans s5
  refine⟨l,a5,_,_,rfl,rfl,((((s1.trans s2).trans s3).trans s4).trans s5) _ _ el,e5,by show vs.length+6<=sizeLine;rw [vl];decide,λa6 ha6=>?_⟩
  have s6:=ai (o:=.lst (vs++[V.ref a1,V.ref a2,V.ref a3,V.int p,V.non,V.ref a4])) ha6
  have e6:upd H5 a6 (.lst (vs++[V.ref a1,V.ref a2,V.ref a3,V.int p,V.non,V.ref a4])) a6=some (.lst (vs++[V.ref a1,V.ref a2,V.ref a3,V.int p,V.non,V.ref a4])):=af
  generalize upd H5 a6 _=H6 at *
  have S6:=S5.trans s6
  have U6:au H6 H6:=au.refl _
  have U5:=s6.trans U6
  have U4:=s5.trans U5
  have U3:=s4.trans U4
  have U2:=s3.trans U3
  have U1:=s2.trans U2
  have U0:=s1.trans U1
  have ga:GD K (Nw H) H6 92 10001 (.ref a):=gT (hS.same (T3.trans S6)) (gx.same (T3.trans S6))
  exact⟨(T3.trans S6),a6,_,rfl,e6,by rw [List.length_append,vl];rfl,λx hx=>(List.mem_append.mp hx).elim (λz=>(hall x z).same S6) ((aC (gT (L:=92) (aT.of (U1 _ _ e1)) (gC (gI (by omega)) (gC (gI (by omega)) (gC ga (gC ga g0))))) (by decide) (by decide) (aC (gL (L:=92) (U2 _ _ e2) (nw (T3.trans S1) ha2) (gC (gI (by omega)) (gC (gI (by omega)) (gC ga g0)))) (by decide) (by decide) (aC (gT (L:=92) (aT.of (U3 _ _ e3)) (gC (gI (by omega)) (gC (gI (by omega)) (gC gN g0)))) (by decide) (by decide) (aC (gI (L:=0) (by omega)) (by decide) (by decide) (aC (gN (L:=0)) (by decide) (by decide) (aC (gT (L:=92) (aT.of (U4 _ _ e4)) (gC (gI (by omega)) (gC (gI (by have:=Int.emod_lt_of_pos m (show 0<p by omega);omega)) (gC ga g0)))) (by decide) (by decide) aN)))))) x)⟩
 rintro σ' F4 ⟨T4,l,vs,rfl,el,vl,hall⟩
 k_data
 refine⟨sM K H (λy=>[some (.ref pa),some (.int way),some (.int m),some (.int deep),some (.int p),some (.int g),some (.ref a),some (.int i),none,some y,none]) 22,?_,?_⟩
 ·k_data
  refine⟨by show 3<=sizeLine;decide,λa1 ha1=>?_⟩
  have s1:=ai (o:=.tup [V.int p,V.int (p-1),V.ref a]) ha1
  have e1:upd F4 a1 (.tup [V.int p,V.int (p-1),V.ref a]) a1=some (.tup [V.int p,V.int (p-1),V.ref a]):=af
  generalize upd F4 a1 _=H1 at *
  have S1:=s1
  refine⟨by show 3<=sizeLine;decide,λa2 ha2=>?_⟩
  have s2:=ai (o:=.tup [V.int (p-1),V.int g,V.ref a]) ha2
  have e2:upd H1 a2 (.tup [V.int (p-1),V.int g,V.ref a]) a2=some (.tup [V.int (p-1),V.int g,V.ref a]):=af
  generalize upd H1 a2 _=H2 at *
  have S2:=S1.trans s2
  refine⟨by show 0<=sizeLine;decide,λa3 ha3=>?_⟩
  have s3:=ai (o:=.tup []) ha3
  have e3:upd H2 a3 (.tup []) a3=some (.tup []):=af
  generalize upd H2 a3 _=H3 at *
  have S3:=S2.trans s3
  refine⟨by show 3<=sizeLine;decide,λa4 ha4=>?_⟩
  have s4:=ai (o:=.tup [V.int p,V.int g,V.ref a3]) ha4
  have e4:upd H3 a4 (.tup [V.int p,V.int g,V.ref a3]) a4=some (.tup [V.int p,V.int g,V.ref a3]):=af
  generalize upd H3 a4 _=H4 at *
  have S4:=S3.trans s4
  refine⟨by show 0<=sizeLine;decide,λa5 ha5=>?_⟩
  have s5:=ai (o:=.tup []) ha5
  have e5:upd H4 a5 (.tup []) a5=some (.tup []):=af
  generalize upd H4 a5 _=H5 at *
  have S5:=S4.trans s5
  refine⟨by show 4<=sizeLine;decide,λa6 ha6=>?_⟩
  have s6:=ai (o:=.lst [V.ref a1,V.ref a2,V.ref a4,V.ref a5]) ha6
  have e6:upd H5 a6 (.lst [V.ref a1,V.ref a2,V.ref a4,V.ref a5]) a6=some (.lst [V.ref a1,V.ref a2,V.ref a4,V.ref a5]):=af
  generalize upd H5 a6 _=H6 at *
  have S6:=S5.trans s6
  refine⟨l,a6,_,_,rfl,rfl,(((((s1.trans s2).trans s3).trans s4).trans s5).trans s6) _ _ el,e6,by show vs.length+4<=sizeLine;rw [vl];decide,λa7 ha7=>?_⟩
  have s7:=ai (o:=.lst (vs++[V.ref a1,V.ref a2,V.ref a4,V.ref a5])) ha7
  have e7:upd H6 a7 (.lst (vs++[V.ref a1,V.ref a2,V.ref a4,V.ref a5])) a7=some (.lst (vs++[V.ref a1,V.ref a2,V.ref a4,V.ref a5])):=af
  generalize upd H6 a7 _=H7 at *
  have S7:=S6.trans s7
  have U7:au H7 H7:=au.refl _
  have U6:=s7.trans U7
  have U5:=s6.trans U6
  have U4:=s5.trans U5
  have U3:=s4.trans U4
  have U2:=s3.trans U3
  have U1:=s2.trans U2
  have U0:=s1.trans U1
  have ga:GD K (Nw H) H7 92 10001 (.ref a):=gT (hS.same (T4.trans S7)) (gx.same (T4.trans S7))
  exact⟨(T4.trans S7),a7,_,rfl,e7,by rw [List.length_append,vl];rfl,λx hx=>(List.mem_append.mp hx).elim (λz=>(hall x z).same S7) ((aC (gT (L:=92) (aT.of (U1 _ _ e1)) (gC (gI (by omega)) (gC (gI (by omega)) (gC ga g0)))) (by decide) (by decide) (aC (gT (L:=92) (aT.of (U2 _ _ e2)) (gC (gI (by omega)) (gC (gI (by omega)) (gC ga g0)))) (by decide) (by decide) (aC (gT (L:=92) (aT.of (U4 _ _ e4)) (gC (gI (by omega)) (gC (gI (by omega)) (gC (gT (L:=91) (aT.of (U3 _ _ e3)) g0) g0)))) (by decide) (by decide) (aC (gT (L:=92) (aT.of (U5 _ _ e5)) g0) (by decide) (by decide) aN)))) x)⟩
 rintro σ' F5 ⟨T5,l,vs,rfl,el,vl,hall⟩
 k_data
 have hS5:=hS.same T5
 have gx5:=gx.same T5
 have I3:∀{u:V} {H':Hp} {N:Nat} {pN:Addr},au H H'->GD K (Nw H) H' 92 N u->N<=30990->H' pN=none->Q (.ref pN) (upd H' pN (.tup [V.int p,V.int g,u])):=by
  intro u H' N pN s' gu hN hp
  have s2:=ai (o:=.tup [V.int p,V.int g,u]) hp
  exact fin (s'.trans s2) ((gT (L:=92) (aT.of af) (gC (gI (by omega)) (gC (gI (by omega)) (gC (gu.same s2) g0)))).mono (by decide) (by omega))
 refine aH (λc1=>?_) (λc1=>?_)
 ·refine⟨_,i,m,rows,rfl,m0,?_,hn,hR,⟨a,xs,rfl,hS5,bo.same T5 _ dd⟩,λu H1 s1 gu=>⟨by show 3<=sizeLine;decide,λa1 ha1=>I3 (T5.trans s1) (gu.imp λ_=>nw T5) (by decide) ha1⟩⟩
  rcases il with z | z
  ·exact .inl (List.length_eq_zero_iff.mp (by omega))
  ·exact .inr (by omega)
 have some22:ml K (.ref l) (.int (way%22)) F5 Q:=cm (bf.of el) (by omega) (by rw [vl];omega) λx hx=>fin T5 (hall x hx)
 refine aH (λc2=>some22) (λc2=>cI hS5 ⟨cQ,aH (λc3=>some22) (λc3=>?_)⟩)
 have l0:0<xs.length:=by
  rcases Nat.eq_zero_or_pos xs.length with z | z
  ·exact absurd (by rw [z];rfl) c3
  ·exact z
 clear some22 hall vl el
 refine aH (λc4=>?_) (λc4=>?_)
 ·refine dJ hS5 λp1 H1 s1 t1=>?_
  refine dJ (hS5.same s1) λp2' H2 s2 t2=>?_
  refine dI (t1.same s2) t2 ((gk _ _ gx5).same (s1.trans s2)) ((gk _ _ gx5).same (s1.trans s2)) (by decide) λp3 H3 s3 t3 g3=>?_
  have S3:=(s1.trans s2).trans s3
  refine dJ (hS5.same S3) λp4 H4 s4 t4=>?_
  have S4:=S3.trans s4
  refine dJ (hS5.same S4) λp5 H5 s5 t5=>?_
  have S5:=S4.trans s5
  refine dI (t4.same s5) t5 ((gk _ _ gx5).same S5) ((gk _ _ gx5).same S5) (by decide) λp6 H6 s6 t6 g6=>?_
  have S6:=S5.trans s6
  refine dI (hS5.same S6) (hS5.same S6) (gx5.same S6) (gx5.same S6) (by decide) λp7 H7 s7 t7 g7=>⟨by show 3<=sizeLine;decide,λp8 hp8=>?_⟩
  have s8:=ai (o:=.lst [V.ref p3,V.ref p6,V.ref p7]) hp8
  have e8:upd H7 p8 (.lst [V.ref p3,V.ref p6,V.ref p7]) p8=some (.lst [V.ref p3,V.ref p6,V.ref p7]):=af
  generalize upd H7 p8 _=H8 at *
  have S8:=(S6.trans s7).trans s8
  have T8:=(s6.trans s7).trans s8
  have all3:∀ y∈[V.ref p3,V.ref p6,V.ref p7],GD K (Nw H) H8 92 20001 y:=aC (gT (t3.same (((s4.trans s5).trans s6).trans (s7.trans s8))) (g3.same (((s4.trans s5).trans s6).trans (s7.trans s8)))) (Nat.le_refl _) (by decide) (aC (gT (t6.same (s7.trans s8)) (g6.same (s7.trans s8))) (Nat.le_refl _) (by decide) (aC (gT (t7.same s8) (g7.same s8)) (Nat.le_refl _) (by decide) aN))
  refine cm (bf.of e8) (by omega) (by show _<(3:Int);omega) λx hx=>⟨by show 3<=sizeLine;decide,λa1 ha1=>I3 (T5.trans S8) (all3 x hx) (by decide) ha1⟩
 ·refine dJ hS5 λp1 H1 s1 t1=>?_
  obtain⟨pt,pb,k,d,hx,hT,hd,⟨q',hp⟩,k1,k3,r,hRr,hvr⟩:=row H l0
  refine br (hS5.same s1) (cH hx) ⟨eg (by decide),_,way-25,m/5,r,rfl,by omega,by omega,hRr,dv.same (T5.trans s1) _ hvr,λu H2 s2 gu0=>⟨by show 1<=sizeLine;decide,λa3 ha3=>?_⟩⟩
  have gu:=gu0.imp (F':=Nw H) λ_=>nw (T5.trans s1)
  have s3:=ai (o:=.tup [u]) ha3
  have e3:upd H2 a3 (.tup [u]) a3=some (.tup [u]):=af
  generalize upd H2 a3 _=H3 at *
  have S3:=(s1.trans s2).trans s3
  refine dI (t1.same (s2.trans s3)) (aT.of e3) ((gk _ _ (gx5.same S3)).mono (by decide) (Nat.le_refl _)) (gC (gu.same s3) g0) (by decide) λp5 H5 s5 t5 g5=>?_
  have S5:=S3.trans s5
  refine dJ (hS5.same S5) λp6 H6 s6 t6=>?_
  have S6:=S5.trans s6
  refine dI (t5.same s6) t6 (g5.same s6) ((gk _ _ (gx5.same S6)).mono (by decide) (Nat.le_refl _)) (by decide) λp7 H7 s7 t7 g7=>⟨by show 3<=sizeLine;decide,λa1 ha1=>?_⟩
  have s8:=ai (o:=.tup [V.int p,V.int g,V.ref p7]) ha1
  exact fin (T5.trans ((S6.trans s7).trans s8)) ((gT (L:=93) (aT.of af) (gC (gI (by omega)) (gC (gI (by omega)) (gC ((gT t7 g7).same s8) g0)))).mono (by decide) (by decide))
theorem pE (D:ax K mg "_law_bent" (top 43)) (c_p:Callee P w K mg base bc 68 "_law_right_product" ["_law_parts","_law_at","_law_number"] (jq K)) (c_b:Callee P w K mg base bc 68 "_law_bent_part" ["_law_part","_law_way","_law_number"] (fc K)) (n_list:mg "list"=none) (n_len:mg "len"=none) (n_max:mg "max"=none) (n_str:mg "str"=none):Callee P w K mg base bc 73 "_law_bent" ["_law_paper","_law_way","_law_number","_law_deep"] (gX K 4) :=
 ft (L:=3) (by decide) D (ft (L:=2) (by decide) D (ft (L:=1) (by decide) D (ft (L:=0) (by decide) D (nq D) c_p c_b n_list n_len n_max n_str) c_p c_b n_list n_len n_max n_str) c_p c_b n_list n_len n_max n_str) c_p c_b n_list n_len n_max n_str
end
end K
namespace K
open PySem PySem.Spec PyProof.Rows L2
section
variable {P:Program} {w:World} {K:PySem.W.Frag} {mg:Str->Option Value} {base:Heap}
def lK (K:PySem.W.Frag):Sp:=λvs H Q _=>∃ n:Int,vs=[.int n]/\1<=n/\n<=10^9/\∀ rows v H',aJ rows<=20000->(∀ r∈rows,RP r)->au H H'->dv K H' (.tuple rows) v->Q v H'
theorem nI {L:Nat} (h:Callee P w K mg base bc L "parting_paper" ["n"] (eG K 30)):Callee P w K mg base bc L "parting_paper" ["n"] (lK K) :=
 Callee.imp h λvs H Q E z=>by
  obtain⟨n,h1,h2,h3,q⟩:=z
  refine⟨n,h1,h2,h3,λq' hq hd=>Num.kn hq (by have:=Int.le_of_dvd (by omega) hd;omega),λps ds v H' hP hl hD s hv=>q (Num.rowsOf ps ds) v H' ?_ ?_ s hv⟩
  ·have hR:∀ r∈Num.rowsOf ps ds,bP r<=360:=λr hr=>by
    obtain⟨i,q,k,hi,rfl⟩:=dU hr
    have:=eB (hD i q k hi)
    simp only [bP,aJ]
    omega
   have:=ju hR
   rw [Num.cD] at this
   have:=Nat.mul_le_mul_left 360 hl
   omega
  ·intro r hr
   obtain⟨i,q,k,hi,rfl⟩:=dU hr
   have hok:=hP.ok _ (List.mem_of_getElem? hi)
   have k3:k<=30:=hok.2.2
   exact fU (hD i q k hi) hok.2.1 (by omega)
def GV (K:PySem.W.Frag) (G:Hp) (x:V):Prop:=∃ d,dv K G d x/\tD 108 d/\bP d<=10^5
theorem GV.same {G G':Hp} {x:V} (h:GV K G x) (s:au G G'):GV K G' x:=by
 obtain⟨d,h1,h2⟩:=h
 exact⟨d,dv.same s _ h1,h2⟩
theorem GD.gv {F:Addr->Prop} {H:Hp} {L N:Nat} {x:V} (h:GD K F H L N x) (l:L<=108) (n:N<=10^5):GV K (hl F H) x:=by
 obtain⟨d,h1,h2,h3⟩:=h
 exact⟨d,h1,h2.mono l,Nat.le_trans h3 n⟩
theorem GD.gw {F:Addr->Prop} {H:Hp} {L N:Nat} {x:V} (h:GD K F H L N x) (l:L<=108) (n:N<=10^5):GV K H x:=(h.gv l n).same rG
def rem (H:Hp) (l:Addr):Hp:=λa=>if a=l then none else H a
theorem kJ {H:Hp} {l:Addr}:rem H l l=none:=if_pos rfl
theorem jh {H:Hp} {l a:Addr} (n:a≠l):rem H l a=H a:=if_neg n
theorem jT {G H:Hp} {l:Addr} (s:au G H) (h:G l=none):au G (rem H l):=λa o e=>by
 rw [jh (λz=>by rw [z,h] at e;cases e)]
 exact s _ _ e
theorem lE {H:Hp} {l:Addr} {o:HO}:au (rem H l) (upd H l o):=λa u e=>by
 by_cases z:a=l
 ·rw [z,kJ] at e;cases e
 ·rw [jh z] at e
  rw [ar z]
  exact e
theorem se {G H:Hp} {l:Addr} {vs us:List V} (h:G l=some (.lst us)) (h':H l=some (.lst vs)):au (hl (Nw G) H) (rem H l):=λa o e=>by
 obtain⟨e1,e2⟩:=lq e
 have n:a≠l:=λz=>by
  subst z
  rw [h'] at e1
  cases e1
  have:G a=none:=e2 ⟨_,rfl⟩
  rw [h] at this
  cases this
 rw [jh n]
 exact e1
theorem vC {G:Hp} {x:V} {xs:List V} (h:GV K G x) (t:∀ y∈xs,GV K G y):∀ y∈x::xs,GV K G y:=λy hy=>by
 rcases List.mem_cons.mp hy with rfl | z
 ·exact h
 ·exact t y z
theorem vN {G:Hp}:∀ y∈([]:List V),GV K G y:=λ_ z=>(List.not_mem_nil z).elim
theorem vA {G:Hp} {xs ys:List V} (h:∀ y∈xs,GV K G y) (t:∀ y∈ys,GV K G y):∀ y∈xs++ys,GV K G y:=λy hy=>(List.mem_append.mp hy).elim (h y) (t y)
def vz (K:PySem.W.Frag) (H:Hp) (s0:List (Option V)) (m:Nat) (σ:List (Option V)) (H':Hp):Prop:=∃ G l vs o8 o9 o10 o11 o12,au H G/\G l=none/\au G H'/\σ=s0++[some (.ref l),o8,o9,o10,o11,o12]/\H' l=some (.lst vs)/\vs.length<=m/\∀ x∈vs,GV K G x
def vx (K:PySem.W.Frag) (H:Hp) (s0 s1:List (Option V)) (m:Nat) (σ:List (Option V)) (H':Hp):Prop:=∃ G l vs,au H G/\G l=none/\au G H'/\σ=s0++[some (.ref l)]++s1/\H' l=some (.lst vs)/\vs.length<=m/\∀ x∈vs,GV K G x
theorem at2 {x y z:V} {r:List V}:ka (x::y::z::r) 2=some z:=cH (i:=2) rfl
def vV (H2:Hp) (s0:List (Option V)) (σ:List (Option V)) (H':Hp):Prop:=au H2 H'/\∃ o11 o12,σ=s0++[o11,o12]
def vT (H:Hp) (s0 s1:List (Option V)) (σ:List (Option V)) (H':Hp):Prop:=H'=H/\∃ n:Int,σ=s0++[some (.int n)]++s1/\2<=n/\n<=10000019
def vU (H:Hp) (s0 s1:List (Option V)) (σ:List (Option V)) (H':Hp):Prop:=H'=H/\∃ n:Int,σ=s0++[some (.int n)]++s1/\Num.Pm n/\n<=10000019
theorem tV:PP (.tuple [.int 2,.int 1,.tuple []]):=gK.mpr ⟨by decide,⟨rfl,λ_ z=>(List.not_mem_nil z).elim⟩,by decide,λ_ z=>(List.not_mem_nil z).elim⟩
theorem tW:¬PP (.tuple [.int 2,.bool true,.tuple []]):=λh=>by
 obtain⟨p,g,rs,e⟩:=cp h
 cases e
theorem nX:az ["_law_script","_law_cell","_law_row","_law_n","_law_paper","_law_other","_law_bent_here","_law_some","_law_p","_law_full","_law_parts","_law_thing","_law_found"] ["_law_script"] (ao (top 44)):=eZ
theorem rS {fl:Addr} {fdl:FuncData} (F:ou K "law" "law" (top 44) fl fdl) (c__law_draws:Callee P w K mg base bc 1 "_law_draws" ["_law_cell","_law_many"] lI) (c__law_is_prime:Callee P w K mg base bc 1 "_law_is_prime" ["_law_n"] fL) (c_prime_paper:Callee P w K mg base (d7 P w) 67 "prime_paper" ["n"] (d5 K)) (c_parting_paper:Callee P w K mg base bc 68 "parting_paper" ["n"] (lK K)) (c__law_bent:Callee P w K mg base bc 73 "_law_bent" ["_law_paper","_law_way","_law_number","_law_deep"] (gX K 4)) (c__law_great:Callee P w K mg base bc 68 "_law_great" ["_law_number"] (lJ K)) (c__law_right_product:Callee P w K mg base bc 68 "_law_right_product" ["_law_parts","_law_at","_law_number"] (jq K)) (c_is_prime_paper:Callee P w K mg base bc 8 "is_prime_paper" ["thing"] (ug K)) (c__law_is_paper:Callee P w K mg base bc 73 "_law_is_paper" ["_law_thing"] (jX K 36)) (n_max:mg "max"=none) (n_isinstance:mg "isinstance"=none) (n_bool:mg "bool"=none):cj P w K mg base bc 74 fl fdl ["_law_script"] (qL K):=by
 refine oP F nX (λvs H Q E h=>by obtain⟨a,b,rfl,_⟩:=h;rfl) (λcdv A outer s H vs Q E hr h=>?_)
 obtain⟨a,ns,rfl,hS,h63,q⟩:=h
 have nd:=nX.nd
 refine⟨_,(ah (fJ PassesOwn.never rfl (eC (bt qb (pv 0) bL (bI ae))) (aD (i:=1) nd rfl (Or.inl rfl) (.inr rfl)) (ah (bU (i:=2) nd (dQ c__law_draws hr aM (aa (pv 1) (aa ae ag)))) (ah (bU (i:=3) nd (aj aQ ae (aj ay (aB aK (pv 2) ae (λ_ _=>rfl)) (aB aK (aU (aa ae (aa ae (aa ae (aa ae ag))))) (aj ay (aB aK (pv 2) ae (λ_ _=>rfl)) ae) (λ_ _=>rfl))))) (ah (bM (bw PassesOwn.never (bE (aX (dQ c__law_is_prime hr aM (aa (pv 3) ag)) (λ_=>rfl))) (ak (bU (i:=3) nd (aj aQ (pv 3) ae))))) (ah (bU (i:=4) nd (dQ c_prime_paper hr aS (aa (pv 3) ag))) (ah (bU (i:=5) nd (aq (aa (pv 3) (aa (aj aQ ae (aj ay (aB aK (pv 2) ae (λ_ _=>rfl)) (aE (ix rfl) rfl n_max L2.boot_max (aa ae (aa (aj aW (pv 3) ae) ag))))) (aa (aB aO (pv 4) ae (λ_ _=>rfl)) ag))))) (ah (bU (i:=6) nd (dQ c__law_bent hr aM (aa (pv 4) (aa (aj ay (aj aL (aB aK (pv 2) ae (λ_ _=>rfl)) ae) ae) (aa (aB aK (pv 2) ae (λ_ _=>rfl)) (aa (aj ay (aj aL (aB aK (pv 2) ae (λ_ _=>rfl)) ae) ae) ag)))))) (ah (bM (bU (i:=7) nd (aU (aa (pv 4) (aa (pv 5) (aa (pv 6) (aa (aq (aa (pv 3) (aa (aB aO (pv 4) ae (λ_ _=>rfl)) (aa (dQ c__law_right_product hr aM (aa (aB aO (pv 4) ae (λ_ _=>rfl)) (aa ae (aa (aB aK (pv 2) ae (λ_ _=>rfl)) ag)))) ag)))) ag))))))) (ah (bM (aZ (aw bO (aj ay (pv 1) ae) ae (av _)) (ah (dR (dQ c__law_great hr aM (aa (aB aK (pv 2) ae (λ_ _=>rfl)) ag)) (dC (n:=3) rfl (aI (aD (i:=8) nd rfl (Or.inl rfl) (.inr rfl)) (aI (aD (i:=9) nd rfl (Or.inl rfl) (.inr rfl)) (aI (aD (i:=10) nd rfl (Or.inl rfl) (.inr rfl)) cn))))) (ah (bU (i:=7) nd (aj dP (pv 7) (aU (aa (aq (aa (pv 8) (aa (pv 9) (aa (pv 10) ag)))) (aa (aq (aa (pv 8) (aa (pv 9) (aa (dQ c__law_right_product hr aM (aa (pv 10) (aa ae (aa (aB aK (pv 2) ae (λ_ _=>rfl)) ag)))) ag)))) ag))))) (ak (eE (iG PySem.F.plainAttrs_list PySem.F.slot_list_append PySem.F.type_list_append cS (pv 7) (aa (dQ c__law_bent hr aM (aa (aq (aa (pv 8) (aa (pv 9) (aa (pv 10) ag)))) (aa (aj ay (aj aL (aB aK (pv 2) ae (λ_ _=>rfl)) ae) ae) (aa (aB aK (pv 2) ae (λ_ _=>rfl)) (aa (aj ay (aj aL (aB aK (pv 2) ae (λ_ _=>rfl)) ae) ae) ag))))) ag)))))) aF)) (ah (bU (i:=3) nd (aj aQ ae (aj ay (aB aK (pv 2) ae (λ_ _=>rfl)) ae))) (ah (bM (aZ (aw bO (aj ay (aj aL (aB aK (pv 2) ae (λ_ _=>rfl)) ae) ae) ae (av _)) (ak (bw PassesOwn.never (bE (aX (dQ c__law_is_prime hr aM (aa (pv 3) ag)) (λ_=>rfl))) (ak (bU (i:=3) nd (aj aQ (pv 3) ae))))) aF)) (ah (bU (i:=10) nd (dQ c_parting_paper hr aM (aa (aj aW (pv 3) ae) ag))) (ah (bM (bU (i:=7) nd (aj dP (pv 7) (aU (aa (aq (aa (pv 3) (aa ae (aa (pv 10) ag)))) (aa (aq (aa (pv 3) (aa (aj aW (pv 3) ae) (aa (pv 10) ag)))) (aa (aq (aa (pv 3) (aa (aj aQ ae (aj ay (aB aK (pv 2) ae (λ_ _=>rfl)) (aj aW (pv 3) ae))) (aa (pv 10) ag)))) ag))))))) (ah (bM (eE (iG PySem.F.plainAttrs_list PySem.F.slot_list_append PySem.F.type_list_append cS (pv 7) (aa (aq (aa (pv 3) (aa (aj ay (aj b3 (aj aQ ae (aj ay (aB aK (pv 2) ae (λ_ _=>rfl)) (aj aW (pv 3) ae))) ae) (pv 3)) (aa (pv 10) ag)))) ag)))) (ak (fJ PassesOwn.never rfl (eC (pv 7)) (aD (i:=11) nd rfl (Or.inl rfl) (.inr rfl)) (ah (bU (i:=12) nd (dQ c_is_prime_paper hr aM (aa (pv 11) ag))) (ak (aZ (PW.pt (cW (bE (aX (aE bA rfl n_isinstance PyProof.Rows.boot_isinstance (aa (pv 12) (aa (b6 (v:=.ty "bool") rfl n_bool L2.boot_bool rfl) ag))) (λ_=>rfl))) (eY (aw gG (pv 12) (dQ c__law_is_paper hr aM (aa (pv 11) ag)) (av _))))) (ak (aA bT)) aF))))))))))))))))))) (ak (aA (bS (bB nB (dQ c_is_prime_paper hr aM (aa (aq (aa ae (aa ae (aa (aq ag) ag)))) ag)) bT (av _)) (dB (bB nB (dQ c_is_prime_paper hr aM (aa (aq (aa ae (aa bT (aa (aq ag) ag)))) ag)) bT (av _))))))),?_⟩
 show b9 _ _ _ [some (.ref a),none,none,none,none,none,none,none,none,none,none,none,none] H
 k_data
 refine⟨a,_,rfl,hS,λp0 hp0=>?_⟩
 k_data
 refine⟨⟨_,bf.of af⟩,?_⟩
 refine iB (xs:=eI (ns.map V.int) none (some 6)) (λi σ' H'=>(∃ o1 o2 o3 o4 o5 o6 o7 o8 o9 o10 o11 o12,σ'=[some (.ref a),o1,o2,o3,o4,o5,o6,o7,o8,o9,o10,o11,o12])/\H' p0=some (.lst (eI (ns.map V.int) none (some 6)))) ⟨⟨_,_,_,_,_,_,_,_,_,_,_,_,rfl⟩,af⟩ (λi σ' H' _ h=>bf.of h.2) ?_ ?_
 ·rintro i x σ' H1 hx ⟨⟨o1,o2,o3,o4,o5,o6,o7,o8,o9,o10,o11,o12,rfl⟩,h0⟩
  obtain⟨c,rfl⟩:=mR (List.mem_of_getElem? hx)
  k_data
  refine⟨c,4,rfl,by decide,λxs pr H2 hl hxs s2 h2=>?_⟩
  k_data
  have row:∀(k:Int) {H'} {Q:VK},0<=k->k<4->au H2 H'->(∀ v,oz v->Q (.int v) H')->ml K (.ref pr) (.int k) H' Q:=λk {H' Q} h0 h1 s q=>oZ (s _ _ h2) h0 (by rw [hl];omega) λv hv=>q v (hxs v hv)
  refine row 0 (by decide) (by decide) (au.refl _) λv0 b0=>?_
  refine⟨by show 4<=sizeLine;decide,λp1 hp1=>?_⟩
  have s3:=ai (o:=.lst [V.int 598,V.int 598,V.int 598,V.int 20000]) hp1
  refine row 1 (by decide) (by decide) s3 λv1 b1=>⟨v1,rfl,?_⟩
  refine cm (bf.of af) (by omega) (by show _<(4:Int);omega) λv hv=>?_
  obtain⟨m,rfl,m0,m1⟩:∃ m,v=.int m/\598<=m/\m<=20000:=by
   simp only [List.mem_cons,List.not_mem_nil,or_false] at hv
   rcases hv with rfl | rfl | rfl | rfl<;>exact⟨_,rfl,by omega,by omega⟩
  generalize upd H2 p1 _=H3 at *
  have x0:=Int.emod_nonneg v0 (show m≠0 by omega)
  have x1:=Int.emod_lt_of_pos v0 (show 0<m by omega)
  refine⟨v0,rfl,m,rfl,by omega,?_⟩
  generalize v0%m=t at *
  have search:∀(D:Ends) (H4:Hp) (n0:Int) (s0 s1:List (Option V)),s0.length=3->2<=n0->n0<=10000019->(∀ n:Int,Num.Pm n->n<=10000019->D.nx (s0++[some (.int n)]++s1) H4)->kP (sx λσ H Q=>∃ v,σ[3]?=some (some v)/\fL [v] H (λx H'=>∃ k,mK K x H' k/\Q k H') E0) (oa (sF (lC λi j=>V.int (i+j)) (mw 3) (tC (V.int 1))) (dF 3)) D (s0++[some (.int n0)]++s1) H4:=by
   intro D H4 n0 s0 s1 l3 h2 h9 q
   obtain⟨z0,z1,z2,rfl⟩:∃ z0 z1 z2,s0=[z0,z1,z2]:=by
    match s0,l3 with
    | [z0,z1,z2],_=>exact⟨_,_,_,rfl⟩
   simp only [List.cons_append,List.nil_append] at *
   refine bF (α:=Int) (λx=>z0::z1::z2::some (.int x)::s1) (λx H5=>H5=H4/\2<=x/\x<=10000019) (λx=>(10000019-x).toNat) n0 rfl ⟨rfl,h2,h9⟩ ?_
   rintro n H5 ⟨rfl,n2,n3⟩
   replace n2:2<=n:=n2
   replace n3:n<=10000019:=n3
   k_data
   refine⟨n,rfl,by omega,λb' hb=>⟨b',bp.mpr rfl,?_⟩⟩
   cases b'
   ·have:n≠10000019:=λz=>by have:=hb.mpr (z▸ve);cases this
    exact⟨_,λ_ _ z=>z,n+1,rfl,rfl,by omega,by omega,by omega⟩
   ·exact q n (hb.mp rfl) n3
  refine⟨vU H3 [some (.ref a),some (.int c),some (.ref pr)] [o4,o5,o6,o7,o8,o9,o10,o11,o12],?_,?_⟩
  ·exact search _ H3 (2+t) [some (.ref a),some (.int c),some (.ref pr)] [o4,o5,o6,o7,o8,o9,o10,o11,o12] rfl (by omega) (by omega) λn hn n9=>⟨rfl,n,rfl,hn,n9⟩
  rintro σ' H4 ⟨rfl,n,rfl,hn,n9⟩
  have n2:=hn.two
  simp only [List.cons_append,List.nil_append]
  k_data
  refine⟨n,rfl,hn,by omega,λd v H5 hd s5 hv=>?_⟩
  have S5:=s3.trans s5
  have tl:=nG hd
  have gpv:=gP (F:=Nw H2) hd hv
  have tl0:=tl
  obtain⟨pp,g,rows,rfl,p2,p9,g1,g9,hn',hR⟩:=tl
  have hv0:=hv
  obtain⟨pa,y1,y2,y3,rfl,hU,f1,f2,f3⟩:=mU hv
  cases f1
  cases f2
  have f30:=f3
  obtain⟨pb,ys,rfl,hB,db⟩:=f3
  clear hv
  obtain⟨mx,hmx,mx1,mx9⟩:∃ mx:Int,(if n-1 > 1 then n-1 else 1)=mx/\0<mx/\mx<=10000019:=⟨_,rfl,by split<;>omega,by split<;>omega⟩
  dsimp only
  rw [hmx]
  refine row 2 (by decide) (by decide) S5 λv2 b2=>⟨v2,rfl,mx1,?_⟩
  refine br hU at2 ⟨by show 3<=sizeLine;decide,λa6 ha6=>?_⟩
  have s6:=ai (o:=.tup [V.int n,V.int (1+v2%mx),V.ref pb]) ha6
  have e6:upd H5 a6 (.tup [V.int n,V.int (1+v2%mx),V.ref pb]) a6=some (.tup [V.int n,V.int (1+v2%mx),V.ref pb]):=af
  generalize upd H5 a6 _=H6 at *
  have S6:=S5.trans s6
  refine row 1 (by decide) (by decide) S6 λw1 c1=>⟨w1,rfl,eg (by decide),row 3 (by decide) (by decide) S6 λw3 c3=>row 1 (by decide) (by decide) S6 λw1' c1'=>⟨w1',rfl,eg (by decide),?_⟩⟩
  refine⟨_,_,_,_,_,rfl,by omega,by omega,c3.1,c3.2,by omega,by omega,tl0,dv.same s6 _ hv0,λu6 H7 s7 gu6=>?_⟩
  have S7:=S6.trans s7
  have mm:=Int.emod_lt_of_pos v2 mx1
  refine⟨vz K H2 [some (.ref a),some (.int c),some (.ref pr),some (.int n),some (.ref pa),some (.ref a6),some u6] 4,?_,?_⟩
  ·k_data
   have T7:=s6.trans s7
   refine br (hU.same T7) ow (br (hU.same T7) at2 (row 3 (by decide) (by decide) S7 λz3 d3=>?_))
   refine⟨_,0,z3,rows,rfl,d3.1,?_,hn',hR,dv.same T7 _ f30,λu8 H8 s8 gu8=>⟨by show 3<=sizeLine;decide,λa9 ha9=>?_⟩⟩
   ·cases rows with
    | nil=>exact .inl rfl
    | cons r rs=>exact .inr (by simp)
   have s9:=ai (o:=.tup [V.int n,V.int g,u8]) ha9
   have e9:upd H8 a9 (.tup [V.int n,V.int g,u8]) a9=some (.tup [V.int n,V.int g,u8]):=af
   generalize upd H8 a9 _=H9 at *
   refine⟨by show 4<=sizeLine;decide,λa10 ha10=>?_⟩
   have s10:=ai (o:=.lst [V.ref pa,V.ref a6,u6,V.ref a9]) ha10
   have S9:=(S7.trans s8).trans s9
   have T9:=(s7.trans s8).trans s9
   refine⟨H9,a10,_,_,_,_,_,_,S9,ha10,s10,rfl,af,by show 4<=4;decide,?_⟩
   have gpb:GD K (Nw H2) H9 92 10001 (.ref pb):=gT (hB.same (s6.trans T9)) ((jV hR db hn').same (s6.trans T9))
   refine vC ((gpv.gw (by decide) (by decide)).same (s6.trans T9)) (vC (GD.gw (gT (L:=92) (aT.of (T9 _ _ e6)) (gC (gI (by omega)) (gC (gI (by omega)) (gC gpb g0)))) (by decide) (by decide)) (vC ((gu6.gw (by decide) (by decide)).same (s8.trans s9)) (vC (GD.gw (gT (L:=92) (aT.of e9) (gC (gI (by omega)) (gC (gI (by omega)) (gC (gu8.same s9) g0)))) (by decide) (by decide)) vN)))
  clear gu6 gpv f30 hv0 hU hB db hR hn' tl0 mm mx1 mx9 hmx e6 ha6
  rintro σ' H8 ⟨G,l,vs,q8,q9,q10,q11,q12,SG,gl,sG,rfl,el,vl,hall⟩
  simp only [List.cons_append,List.nil_append]
  k_data
  refine⟨vz K H2 [some (.ref a),some (.int c),some (.ref pr),some (.int n),some (.ref pa),some (.ref a6),some u6] 7,?_,?_⟩
  ·k_data
   have S8:=SG.trans sG
   refine aH (λc0=>?_) (λc0=>⟨G,l,vs,_,_,_,_,_,SG,gl,sG,rfl,el,by omega,hall⟩)
   refine row 2 (by decide) (by decide) S8 λz2 d2=>⟨z2,rfl,d2.1,d2.2,λd9 v9 H9 tl9 tl2 s9 hv9=>?_⟩
   have tl90:=tl9
   obtain⟨r9,g9',rows9,rfl,p2',p9',g1',g9,hn9,hR9⟩:=tl9
   have len2:2<=rows9.length:=by
    obtain⟨_,_,_,e,z⟩:=tl2
    cases e
    exact z
   have hv90:=hv9
   obtain⟨pc,y1,y2,y3,rfl,hC,f1,f2,f3⟩:=mU hv9
   cases f1
   cases f2
   have f30:=f3
   obtain⟨pd,ys9,rfl,hD,dd9⟩:=f3
   refine⟨pc,_,rfl,hC,rfl,?_⟩
   k_data
   refine⟨by show 3<=sizeLine;decide,λa10 ha10=>?_⟩
   have s10:=ai (o:=.tup [V.int r9,V.int g9',V.ref pd]) ha10
   have e10:upd H9 a10 (.tup [V.int r9,V.int g9',V.ref pd]) a10=some (.tup [V.int r9,V.int g9',V.ref pd]):=af
   generalize upd H9 a10 _=H10 at *
   have S10:=s10
   refine row 3 (by decide) (by decide) ((S8.trans s9).trans S10) λz3 d3=>?_
   refine⟨_,1,z3,rows9,rfl,d3.1,.inr (by omega),hn9,hR9,dv.same S10 _ f30,λu11 H11 s11 gu11=>?_⟩
   have S11:=S10.trans s11
   refine⟨by show 3<=sizeLine;decide,λa12 ha12=>?_⟩
   have s12:=ai (o:=.tup [V.int r9,V.int g9',u11]) ha12
   have e12:upd H11 a12 (.tup [V.int r9,V.int g9',u11]) a12=some (.tup [V.int r9,V.int g9',u11]):=af
   generalize upd H11 a12 _=H12 at *
   have S12:=S11.trans s12
   refine⟨by show 2<=sizeLine;decide,λa13 ha13=>?_⟩
   have s13:=ai (o:=.lst [V.ref a10,V.ref a12]) ha13
   have e13:upd H12 a13 (.lst [V.ref a10,V.ref a12]) a13=some (.lst [V.ref a10,V.ref a12]):=af
   generalize upd H12 a13 _=H13 at *
   have S13:=S12.trans s13
   refine⟨l,a13,_,_,rfl,rfl,(s9.trans S13) _ _ el,e13,by show vs.length+2<=sizeLine;exact Nat.le_trans (show vs.length+2<=6 by omega) (by decide),λa14 ha14=>?_⟩
   have s14:=ai (o:=.lst (vs++[V.ref a10,V.ref a12])) ha14
   have e14:upd H13 a14 (.lst (vs++[V.ref a10,V.ref a12])) a14=some (.lst (vs++[V.ref a10,V.ref a12])):=af
   generalize upd H13 a14 _=H14 at *
   have S14:=S13.trans s14
   refine⟨.inl ⟨rfl,_,bf.of e14⟩,?_⟩
   refine⟨by show 3<=sizeLine;decide,λa15 ha15=>?_⟩
   have s15:=ai (o:=.tup [V.int r9,V.int g9',V.ref pd]) ha15
   have e15:upd H14 a15 (.tup [V.int r9,V.int g9',V.ref pd]) a15=some (.tup [V.int r9,V.int g9',V.ref pd]):=af
   generalize upd H14 a15 _=H15 at *
   have S15:=S14.trans s15
   refine row 1 (by decide) (by decide) ((S8.trans s9).trans S15) λt1 k1=>⟨t1,rfl,eg (by decide),row 3 (by decide) (by decide) ((S8.trans s9).trans S15) λt3 k3=>row 1 (by decide) (by decide) ((S8.trans s9).trans S15) λt1' k1'=>⟨t1',rfl,eg (by decide),?_⟩⟩
   have dt:dv K H15 (.tuple [.int r9,.int g9',.tuple rows9]) (.ref a15):=dv.tup e15 ⟨_,_,rfl,rfl,_,_,rfl,rfl,.one (dv.same S15 _ f30)⟩
   refine⟨_,_,_,_,_,rfl,by omega,by omega,k3.1,k3.2,by omega,by omega,tl90,dt,λu16 H16 s16 gu16=>?_⟩
   have S16:=S15.trans s16
   have e14b:=s15 _ _ e14
   have e14c:=s16 _ _ e14b
   refine⟨a14,_,u16,rfl,rfl,e14c,?_,?_⟩
   ·rw [List.length_append];exact Nat.lt_of_le_of_lt (show vs.length+2<=6 by omega) (by decide)
   have M13:au H13 (rem H16 a14):=jT ((s14.trans s15).trans s16) ha14
   have SH:au H2 (rem H16 a14):=(((S8.trans s9).trans S13).trans M13)
   refine⟨rem H16 a14,a14,_,_,_,_,_,_,SH,kJ,lE,rfl,af,?_,?_⟩
   ·rw [List.length_append,List.length_append];show vs.length+2+1<=7;omega
   have gd13:GD K (Nw H2) H13 92 10001 (.ref pd):=gT (hD.same S13) ((jV hR9 dd9 hn9).same S13)
   refine vA (vA (λx hx=>(hall x hx).same (((sG.trans s9).trans S13).trans M13)) ?_) (vC ((gu16.gv (by decide) (by decide)).same (se e14b e14c)) vN)
   exact vC ((GD.gw (gT (L:=92) (aT.of (((s11.trans s12).trans s13) _ _ e10)) (gC (gI (by omega)) (gC (gI (by omega)) (gC gd13 g0)))) (by decide) (by decide)).same M13) (vC ((GD.gw (gT (L:=92) (aT.of (s13 _ _ e12)) (gC (gI (by omega)) (gC (gI (by omega)) (gC (gu11.same (s12.trans s13)) g0)))) (by decide) (by decide)).same M13) vN)
  clear hall el vl sG gl SG
  clear vs l G
  rintro σ' H9 ⟨G,l,vs,q8,q9,q10,q11,q12,SG,gl,sG,rfl,el,vl,hall⟩
  simp only [List.cons_append,List.nil_append]
  k_data
  have S9:=SG.trans sG
  refine row 2 (by decide) (by decide) S9 λz2 d2=>⟨z2,rfl,?_⟩
  refine⟨vT H9 [some (.ref a),some (.int c),some (.ref pr)] [some (.ref pa),some (.ref a6),some u6,some (.ref l),q8,q9,q10,q11,q12],?_,?_⟩
  ·k_data
   refine row 1 (by decide) (by decide) S9 λt1 k1=>⟨t1,rfl,eg (by decide),?_⟩
   refine aH (λc0=>?_) (λc0=>⟨rfl,_,rfl,by omega,by omega⟩)
   exact search _ H9 _ [some (.ref a),some (.int c),some (.ref pr)] [some (.ref pa),some (.ref a6),some u6,some (.ref l),q8,q9,q10,q11,q12] rfl (by omega) (by omega) λn hn n9=>⟨rfl,n,rfl,hn.two,n9⟩
  rintro σ' H10 ⟨rfl,n',rfl,n2',n9'⟩
  simp only [List.cons_append,List.nil_append]
  k_data
  refine⟨n' - 1,rfl,by omega,by omega,λrows v H11 hn hR s11 hv=>?_⟩
  obtain⟨pe,ys,rfl,hE,de⟩:=hv
  have S11:=S9.trans s11
  have ge:GD K (Nw H2) H11 92 20001 (.ref pe):=gT hE (jV hR de hn)
  clear hn hR hE de
  refine⟨vx K H11 [some (.ref a),some (.int c),some (.ref pr),some (.int n'),some (.ref pa),some (.ref a6),some u6] [q8,q9,some (.ref pe),q11,q12] 10,?_,?_⟩
  ·k_data
   refine⟨by show 3<=sizeLine;decide,λa12 ha12=>?_⟩
   have s12:=ai (o:=.tup [V.int n',V.int 1,V.ref pe]) ha12
   have e12:upd H11 a12 (.tup [V.int n',V.int 1,V.ref pe]) a12=some (.tup [V.int n',V.int 1,V.ref pe]):=af
   generalize upd H11 a12 _=H12 at *
   have S12:=s12
   refine⟨by show 3<=sizeLine;decide,λa13 ha13=>?_⟩
   have s13:=ai (o:=.tup [V.int n',V.int (n' - 1),V.ref pe]) ha13
   have e13:upd H12 a13 (.tup [V.int n',V.int (n' - 1),V.ref pe]) a13=some (.tup [V.int n',V.int (n' - 1),V.ref pe]):=af
   generalize upd H12 a13 _=H13 at *
   have S13:=S12.trans s13
   refine row 3 (by decide) (by decide) (S11.trans S13) λz3 d3=>⟨z3,rfl,by omega,?_⟩
   have y0:=Int.emod_lt_of_pos z3 (show 0<n' - 1 by omega)
   refine⟨by show 3<=sizeLine;decide,λa14 ha14=>?_⟩
   have s14:=ai (o:=.tup [V.int n',V.int (1+z3%(n' - 1)),V.ref pe]) ha14
   have e14:upd H13 a14 (.tup [V.int n',V.int (1+z3%(n' - 1)),V.ref pe]) a14=some (.tup [V.int n',V.int (1+z3%(n' - 1)),V.ref pe]):=af
   generalize upd H13 a14 _=H14 at *
   have S14:=S13.trans s14
   refine⟨by show 3<=sizeLine;decide,λa15 ha15=>?_⟩
   have s15:=ai (o:=.lst [V.ref a12,V.ref a13,V.ref a14]) ha15
   have e15:upd H14 a15 (.lst [V.ref a12,V.ref a13,V.ref a14]) a15=some (.lst [V.ref a12,V.ref a13,V.ref a14]):=af
   generalize upd H14 a15 _=H15 at *
   have S15:=S14.trans s15
   refine⟨l,a15,_,_,rfl,rfl,(s11.trans S15) _ _ el,e15,by show vs.length+3<=sizeLine;exact Nat.le_trans (show vs.length+3<=10 by omega) (by decide),λa16 ha16=>?_⟩
   have s16:=ai (o:=.lst (vs++[V.ref a12,V.ref a13,V.ref a14])) ha16
   have U15:au H15 H15:=au.refl _
   have U14:=s15.trans U15
   have U13:=s14.trans U14
   have U12:=s13.trans U13
   have U11:=s12.trans U12
   have ge5:=ge.same S15
   refine⟨H15,a16,_,S15,ha16,s16,rfl,af,by rw [List.length_append];show vs.length+3<=10;omega,vA (λx hx=>(hall x hx).same ((sG.trans s11).trans S15)) ?_⟩
   exact vC (GD.gw (gT (L:=92) (aT.of (U12 _ _ e12)) (gC (gI (by omega)) (gC (gI (by omega)) (gC ge5 g0)))) (by decide) (by decide)) (vC (GD.gw (gT (L:=92) (aT.of (U13 _ _ e13)) (gC (gI (by omega)) (gC (gI (by omega)) (gC ge5 g0)))) (by decide) (by decide)) (vC (GD.gw (gT (L:=92) (aT.of (U14 _ _ e14)) (gC (gI (by omega)) (gC (gI (by omega)) (gC ge5 g0)))) (by decide) (by decide)) vN))
  clear hall el vl sG gl SG
  clear vs l G
  rintro σ' H12 ⟨G,l,vs,SG,gl,sG,rfl,el,vl,hall⟩
  simp only [List.cons_append,List.nil_append]
  k_data
  refine⟨vx K H11 [some (.ref a),some (.int c),some (.ref pr),some (.int n'),some (.ref pa),some (.ref a6),some u6] [q8,q9,some (.ref pe),q11,q12] 11,?_,?_⟩
  ·k_data
   have S12:=(S11.trans SG).trans sG
   refine⟨.inl ⟨rfl,_,bf.of el⟩,?_⟩
   refine row 3 (by decide) (by decide) S12 λz3 d3=>⟨z3,rfl,by omega,?_⟩
   have y0:=Int.emod_lt_of_pos z3 (show 0<n' - 1 by omega)
   have y1:=Int.emod_nonneg z3 (show n' - 1≠0 by omega)
   refine⟨by omega,by omega,by show 3<=sizeLine;decide,λa13 ha13=>?_⟩
   have y2:=Int.emod_lt_of_pos ((1+z3%(n' - 1))^2) (show 0<n' by omega)
   generalize (1+z3%(n' - 1))^2%n'=y at *
   have s13:=ai (o:=.tup [V.int n',V.int y,V.ref pe]) ha13
   have e13:upd H12 a13 (.tup [V.int n',V.int y,V.ref pe]) a13=some (.tup [V.int n',V.int y,V.ref pe]):=af
   generalize upd H12 a13 _=H13 at *
   have nl:a13≠l:=λz=>by rw [z,el] at ha13;cases ha13
   refine⟨l,vs,_,rfl,rfl,s13 _ _ el,Nat.lt_of_le_of_lt (show vs.length<=10 by omega) (by decide),?_⟩
   have M:au G (rem H13 l):=jT (sG.trans s13) gl
   refine⟨rem H13 l,l,_,SG.trans M,kJ,lE,rfl,af,by rw [List.length_append];show vs.length+1<=11;omega,vA (λx hx=>(hall x hx).same M) (vC ?_ vN)⟩
   exact GD.gw (gT (L:=92) (aT.of (by rw [jh nl];exact e13)) (gC (gI (by omega)) (gC (gI (by omega)) (gC (ge.same (SG.trans M)) g0)))) (by decide) (by decide)
  clear hall el vl sG gl SG
  clear vs l G
  rintro σ' H13 ⟨G,l,vs,SG,gl,sG,rfl,el,vl,hall⟩
  simp only [List.cons_append,List.nil_append]
  k_data
  have S13:=(S11.trans SG).trans sG
  refine⟨⟨_,bf.of el⟩,?_⟩
  refine iB (xs:=vs) (λ_=>vV H13 [some (.ref a),some (.int c),some (.ref pr),some (.int n'),some (.ref pa),some (.ref a6),some u6,some (.ref l),q8,q9,some (.ref pe)]) ⟨au.refl _,_,_,rfl⟩ (λi σ' H' _ h=>bf.of (h.1 _ _ el)) ?_ ?_
  ·rintro i' x σ' H14 hx ⟨s14,z11,z12,rfl⟩
   obtain⟨d,hd,td,szd⟩:=(hall x (List.mem_of_getElem? hx)).same (sG.trans s14)
   simp only [List.cons_append,List.nil_append]
   k_data
   refine⟨d,x,rfl,hd,td.sm,by omega,λb H15 hb s15=>?_⟩
   refine gA (d:=.bool b) rfl ?_
   k_data
   rw [if_neg (by simp [tF])]
   refine⟨d,x,rfl,dv.same s15 _ hd,td,szd,λb' H16 hb' s16=>⟨lH,?_⟩⟩
   have eb:b=b':=by
    cases b<;>cases b'
    ·rfl
    ·exact hb.mpr (hb'.mp rfl)
    ·exact (hb'.mpr (hb.mp rfl)).symm
    ·rfl
   rw [if_neg (by rw [eb];simp)]
   exact⟨(s14.trans s15).trans s16,_,_,rfl⟩
  ·rintro σ' H14 ⟨s14,z11,z12,rfl⟩
   exact⟨⟨_,_,_,_,_,_,_,_,_,_,_,_,rfl⟩,((s2.trans S13).trans s14) _ _ h0⟩
 ·rintro σ' H1 ⟨⟨o1,o2,o3,o4,o5,o6,o7,o8,o9,o10,o11,o12,rfl⟩,h0⟩
  k_data
  refine⟨by show 0<=sizeLine;decide,λp1 hp1=>⟨by show 3<=sizeLine;decide,λp2 hp2=>?_⟩⟩
  have s1:=ai (o:=.tup []) hp1
  have e1:upd H1 p1 (.tup []) p1=some (.tup []):=af
  generalize upd H1 p1 _=H2 at *
  refine⟨.tuple [.int 2,.int 1,.tuple []],_,rfl,dv.tup af ⟨_,_,rfl,rfl,_,_,rfl,rfl,.one (dv.tup (ai hp2 _ _ e1) rfl)⟩,by simp only [hZ,dY];decide,by simp only [bP,aJ];omega,λb H3 hb s3=>⟨b,rfl,?_⟩⟩
  have b1:b=true:=hb.mpr tV
  subst b1
  rw [if_pos (by decide)]
  refine⟨by show 0<=sizeLine;decide,λp4 hp4=>⟨by show 3<=sizeLine;decide,λp5 hp5=>?_⟩⟩
  have s4:=ai (o:=.tup []) hp4
  have e4:upd H3 p4 (.tup []) p4=some (.tup []):=af
  generalize upd H3 p4 _=H4 at *
  refine⟨.tuple [.int 2,.bool true,.tuple []],_,rfl,dv.tup af ⟨_,_,rfl,rfl,_,_,rfl,rfl,.one (dv.tup (ai hp5 _ _ e4) rfl)⟩,by simp only [hZ,dY];decide,by simp only [bP,aJ];omega,λb H6 hb6 s6=>⟨b,rfl,?_⟩⟩
  have b0:b=false:=by
   cases b with
   | false=>rfl
   | true=>exact absurd (hb6.mp rfl) tW
  subst b0
  exact q _
end
end K
namespace PySem.W.Fast
def tw10622452095159371884:=0
def tw555059887460397120:=0
def tw4020525989452267776:=0
def tw2980203906732576096:=0
def tw8116578263644345120:=0
def tw18405599926926321536:=0
def tw5311555922084770720:=0
def tw12887266158158036896:=0
def tw15069950658540165024:=0
def tw4769382451091997697:=0
def tw2635365458412699073:=0
def tw17979316441420459553:=0
def tw3450489407849485921:=0
def tw17662972083819289377:=0
def tw5187392607191586753:=0
def tw14542134311709353953:=0
def tw4851294243695821858:=0
def tw1458323670491679810:=0
def tw10806068525346705890:=0
def tw390798015380132610:=0
def tw12579379800827678626:=0
def tw5914379193219446947:=0
def tw1325473139603961283:=0
def tw5078389021077289443:=0
def tw16885769339001364003:=0
def tw16971431135928033540:=0
def tw15081731614703060324:=0
def tw3143890500473824676:=0
def tw16436787632569708324:=0
def tw14831175788846717285:=0
def tw11334321034736331205:=0
def tw7433536504027759077:=0
def tw15662282945009857061:=0
def tw13803290132096367301:=0
def tw5828410311927531301:=0
def tw461100066987779078:=0
def tw14827621806504744006:=0
def tw15483870702708475014:=0
def tw2105096594082570598:=0
def tw13327968578477033894:=0
def tw2274341721939998823:=0
def tw13939965246494201191:=0
def tw18134649593703750151:=0
def tw678977212984302311:=0
def tw16432672875692764200:=0
def tw15252544842653291656:=0
def tw9729471157246465352:=0
def tw11072241311434408392:=0
def tw4428853954511836616:=0
def tw18051670405294063048:=0
def tw3940730196470572680:=0
def tw2406563041131116520:=0
def tw11015109838984273033:=0
def tw10621669711610987689:=0
def tw7210418024933061865:=0
def tw3072977500965081353:=0
def tw17018688447068093833:=0
def tw5582516310263800265:=0
def tw14300049185349778921:=0
def tw301126850832985641:=0
def tw9914214276641450921:=0
def tw12678803187416919370:=0
def tw16753628457347004874:=0
def tw13654102252317253098:=0
def tw3345192510364760554:=0
def tw6470354767445329546:=0
def tw503818142172361546:=0
def tw1701093816663123818:=0
def tw15144538035912892907:=0
def tw15507651261353104907:=0
def tw17879319003319309131:=0
def tw436114600446586892:=0
def tw15690301688292279564:=0
def tw11863887503677127757:=0
def tw13941330274462559533:=0
def tw6524073165046142317:=0
def tw11821887828160305517:=0
def tw11920535217432200717:=0
def tw2822135753945685869:=0
def tw10986003159344445389:=0
def tw6597220549629710350:=0
def tw1408356970256222350:=0
def tw15200723983471442062:=0
def tw9579196808915059214:=0
def tw6973769032450097806:=0
def tw1021583976994150062:=0
def tw9240512316223473743:=0
def tw15645477739248411759:=0
def tw2810898358710027407:=0
def tw8105560315728196975:=0
def tw9249823225599761071:=0
def tw9906277026798504687:=0
def tw2849919729742396848:=0
def tw2012561796994308624:=0
def tw4582124485413789232:=0
def tw6099054368772236976:=0
def tw15959284700611161872:=0
def tw7949650506844498768:=0
def tw10440838046377922480:=0
def tw40188299930338256:=0
def tw6981766997089191985:=0
def tw3825566490371500177:=0
def tw3909408498134519153:=0
def tw2195035558988075441:=0
def tw8456886548058732145:=0
def tw7878612146154619569:=0
def tw18050701120845345489:=0
def tw182758272243218225:=0
def tw4871724479338543282:=0
def tw18292226387840669938:=0
def tw4611847278947533202:=0
def tw3936082318151719378:=0
def tw8067936033603161074:=0
def tw939284384980785138:=0
def tw13883434197724560403:=0
def tw8398161079850968211:=0
def tw12140921887497112755:=0
def tw7444990889223360755:=0
def tw3572512544721396979:=0
def tw1586784111814572339:=0
def tw15093516343074237843:=0
def tw1453580043258969555:=0
def tw10189832805998476564:=0
def tw1437467196399637076:=0
def tw17117261021287104661:=0
def tw14425619979928738325:=0
def tw4923754274194832981:=0
def tw2819287575721856693:=0
def tw4571181804528036853:=0
def tw14918390593549212822:=0
def tw9073651534600010998:=0
def tw7245143164225730870:=0
def tw12426727951846276502:=0
def tw838045678365516278:=0
def tw10645196603056539190:=0
def tw2298045074505549430:=0
def tw11240692185895052150:=0
def tw578808547316332631:=0
def tw17441389808524886295:=0
def tw5348130633339023671:=0
def tw12098566377042473271:=0
def tw199183131799832183:=0
def tw17429944062924888055:=0
def tw10498476722256330072:=0
def tw13777853171670147416:=0
def tw4500234716280711832:=0
def tw17938210277813419960:=0
def tw6446393485225406649:=0
def tw3450209353484074169:=0
def tw1324898027933937945:=0
def tw5023519579605879065:=0
def tw7504533791364368025:=0
def tw17783935776576840601:=0
def tw13958890437964947482:=0
def tw18003512008460432698:=0
def tw8144430220180118010:=0
def tw11273431082887086618:=0
def tw7573614861298072154:=0
def tw13834073558134029914:=0
def tw10609110737131799450:=0
def tw7681325876980957243:=0
def tw17742047737706108219:=0
def tw4175041727355759995:=0
def tw8534030469238708795:=0
def tw6203126388840957723:=0
def tw16905841640284845947:=0
def tw17069167526020588475:=0
def tw10562753162514865115:=0
def tw7322003049819537468:=0
def tw13225123928072728668:=0
def tw16997603528474638716:=0
def tw6180715425321507228:=0
def tw15000155799068386748:=0
def tw8380463402678332860:=0
def tw16961848766869260892:=0
def tw4286053267229397021:=0
def tw8223592699860838781:=0
def tw12775506557063925181:=0
def tw6203302548945474045:=0
def tw11876684429077946365:=0
def tw1103802911614177566:=0
def tw1083809635664802110:=0
def tw12808643113156895614:=0
def tw15308192520282771519:=0
def tw2391395858162105567:=0
def tw5461734754334498367:=0
def tw9777183390147437151:=0
def tw13053302981076427423:=0
def tw4007888931871781855:=0
end PySem.W.Fast
namespace K
open PySem PySem.Spec PyProof.Rows L2
theorem lW:iN "TooFar.__init__" "part" "part" (inClass (top 3) 0):=⟨⟨rfl,rfl,rfl,by decide +kernel,rfl,by decide +kernel,by decide +kernel⟩,⟨_,_,_,_,rfl,λ_=>rfl,λ_=>rfl⟩,rfl,rfl,by decide,by decide,λ_ _ _ _ _ _ us hl=>match us,hl with | [_,_],_=>rfl⟩
theorem ko:iN "NoPrime.__init__" "divisor" "divisor" (inClass (top 4) 0):=⟨⟨rfl,rfl,rfl,by decide +kernel,rfl,by decide +kernel,by decide +kernel⟩,⟨_,_,_,_,rfl,λ_=>rfl,λ_=>rfl⟩,rfl,rfl,by decide,by decide,λ_ _ _ _ _ _ us hl=>match us,hl with | [_,_],_=>rfl⟩
theorem iZ:iN "NoInverse.__init__" "divisor" "divisor" (inClass (top 5) 0):=⟨⟨rfl,rfl,rfl,by decide +kernel,rfl,by decide +kernel,by decide +kernel⟩,⟨_,_,_,_,rfl,λ_=>rfl,λ_=>rfl⟩,rfl,rfl,by decide,by decide,λ_ _ _ _ _ _ us hl=>match us,hl with | [_,_],_=>rfl⟩
end K
open PySem PySem.W PyProof.Rows L2
set_option maxHeartbeats 0 in
theorem PySem.Challenge.cw_rootprime_k23_prime_papers_read_holds : PySem.Challenge.rw_rootprime_k23_prime_papers_read.Holds := by
 w_on;o_law;k_head;(case hw=>w_witness2)
 k_fill
 refine L2.ot (l:=PySem.Challenge.rw_rootprime_k23_prime_papers_read) (n:=63) (k:=74) (x := "_law_script") (CX:=L2.bc) (sp:=K.qL) rfl (by decide) rfl ⟨rfl,by decide,by decide⟩ (λw h Y=>PySem.W.kIn_of Y) ?F ?S ?C
 case F =>
  intro w mg fa h KX G hmg
  have d_divisor:L2.ax (L2.ef KX) mg "divisor" (K.top 7):=K.eW KX G
  have d_inverse:L2.ax (L2.ef KX) mg "inverse" (K.top 8):=K.eW KX G
  have d_is_whole:L2.ax (L2.ef KX) mg "is_whole" (K.top 10):=K.eW KX G
  have d_is_tuple_of:L2.ax (L2.ef KX) mg "is_tuple_of" (K.top 11):=K.eW KX G
  have d_primes_in:L2.ax (L2.ef KX) mg "primes_in" (K.top 12):=K.eW KX G
  have d_power:L2.ax (L2.ef KX) mg "power" (K.top 14):=K.eW KX G
  have d_is_least:L2.ax (L2.ef KX) mg "is_least" (K.top 15):=K.eW KX G
  have d_is_prime_paper:L2.ax (L2.ef KX) mg "is_prime_paper" (K.top 17):=K.eW KX G
  have d_are_prime_papers:L2.ax (L2.ef KX) mg "are_prime_papers" (K.top 18):=K.eW KX G
  have d_is_right_above:L2.ax (L2.ef KX) mg "is_right_above" (K.top 19):=K.eW KX G
  have d_is_paper_form:L2.ax (L2.ef KX) mg "is_paper_form" (K.top 20):=K.eW KX G
  have d_come_to:L2.ax (L2.ef KX) mg "come_to" (K.top 21):=K.eW KX G
  have d_is_row_form:L2.ax (L2.ef KX) mg "is_row_form" (K.top 22):=K.eW KX G
  have d_without:L2.ax (L2.ef KX) mg "without" (K.top 23):=K.eW KX G
  have d_least_divisor:L2.ax (L2.ef KX) mg "least_divisor" (K.top 26):=K.eW KX G
  have d_least_divisor_from:L2.ax (L2.ef KX) mg "least_divisor_from" (K.top 27):=K.eW KX G
  have d_parted:L2.ax (L2.ef KX) mg "parted" (K.top 28):=K.eW KX G
  have d_prime_paper:L2.ax (L2.ef KX) mg "prime_paper" (K.top 30):=K.eW KX G
  have d_parting_paper:L2.ax (L2.ef KX) mg "parting_paper" (K.top 31):=K.eW KX G
  have d_least_full:L2.ax (L2.ef KX) mg "least_full" (K.top 32):=K.eW KX G
  have d__law_whole:L2.ax (L2.ef KX) mg "_law_whole" (K.top 34):=K.eW KX G
  have d__law_draws:L2.ax (L2.ef KX) mg "_law_draws" (K.top 35):=K.eW KX G
  have d__law_is_prime:L2.ax (L2.ef KX) mg "_law_is_prime" (K.top 36):=K.eW KX G
  have d__law_power:L2.ax (L2.ef KX) mg "_law_power" (K.top 37):=K.eW KX G
  have d__law_is_part:L2.ax (L2.ef KX) mg "_law_is_part" (K.top 38):=K.eW KX G
  have d__law_is_paper:L2.ax (L2.ef KX) mg "_law_is_paper" (K.top 39):=K.eW KX G
  have d__law_bent_part:L2.ax (L2.ef KX) mg "_law_bent_part" (K.top 40):=K.eW KX G
  have d__law_right_product:L2.ax (L2.ef KX) mg "_law_right_product" (K.top 41):=K.eW KX G
  have d__law_great:L2.ax (L2.ef KX) mg "_law_great" (K.top 42):=K.eW KX G
  have d__law_bent:L2.ax (L2.ef KX) mg "_law_bent" (K.top 43):=K.eW KX G
  have d_law:L2.ax (L2.ef KX) mg "law" (K.top 44):=K.eW KX G
  have n_abs:mg "abs"=none:=PySem.W.mg_none_of KX G (by k_is)
  have n_isinstance:mg "isinstance"=none:=PySem.W.mg_none_of KX G (by k_is)
  have n_bool:mg "bool"=none:=PySem.W.mg_none_of KX G (by k_is)
  have n_int:mg "int"=none:=PySem.W.mg_none_of KX G (by k_is)
  have n_range:mg "range"=none:=PySem.W.mg_none_of KX G (by k_is)
  have n_tuple:mg "tuple"=none:=PySem.W.mg_none_of KX G (by k_is)
  have n_all:mg "all"=none:=PySem.W.mg_none_of KX G (by k_is)
  have n_list:mg "list"=none:=PySem.W.mg_none_of KX G (by k_is)
  have n_len:mg "len"=none:=PySem.W.mg_none_of KX G (by k_is)
  have n_min:mg "min"=none:=PySem.W.mg_none_of KX G (by k_is)
  have n_max:mg "max"=none:=PySem.W.mg_none_of KX G (by k_is)
  have n_any:mg "any"=none:=PySem.W.mg_none_of KX G (by k_is)
  have n_str:mg "str"=none:=PySem.W.mg_none_of KX G (by k_is)
  refine' L2.eJ (PySem.W.mg_of (n := "PrimeError") KX G ?xa) (λa_PrimeError=>?g1)
  (case xa=>k_is)
  refine' L2.eJ (L2.fC KX a_PrimeError ?l ?c2 ?c3 ?e1 ?e2 ?e3 ?e4 ?e5 ?e6 ?ob ?kp) (λc_PrimeError=>?g2)
  (case l=>k_is);(case c2=>rfl);(case c3=>rfl);(case e1=>k_is);(case e2=>k_is);(case e3=>k_is);(case e4=>k_is);(case e5=>k_is);(case e6=>k_is);(case ob=>exact⟨_,_,_,_,_,_,_,_,_,_,_,_,_,_,_,_,rfl,rfl,rfl,rfl⟩);(case kp=>k_is)
  refine' L2.eJ (L2.lP a_PrimeError c_PrimeError.2 c_PrimeError.1 ?i) (λx_PrimeError=>?g3)
  (case i=>k_is)
  refine' L2.eJ (PySem.W.mg_of (n := "NoNumber") KX G ?xa) (λa_NoNumber=>?g4)
  (case xa=>k_is)
  refine' L2.eJ (L2.fC KX a_NoNumber ?l ?c2 ?c3 ?e1 ?e2 ?e3 ?e4 ?e5 ?e6 ?ob ?kp) (λc_NoNumber=>?g5)
  (case l=>k_is);(case c2=>rfl);(case c3=>rfl);(case e1=>k_is);(case e2=>k_is);(case e3=>k_is);(case e4=>k_is);(case e5=>k_is);(case e6=>k_is);(case ob=>exact⟨_,_,_,_,_,_,_,_,_,_,_,_,_,_,_,_,rfl,rfl,rfl,rfl⟩);(case kp=>k_is)
  refine' L2.eJ (L2.lP a_NoNumber c_NoNumber.2 c_NoNumber.1 ?i) (λx_NoNumber=>?g6)
  (case i=>k_is)
  refine' L2.eJ (PySem.W.mg_of (n := "TooFar") KX G ?xa) (λa_TooFar=>?g7)
  (case xa=>k_is)
  refine' L2.eJ (L2.fC KX a_TooFar ?l ?c2 ?c3 ?e1 ?e2 ?e3 ?e4 ?e5 ?e6 ?ob ?kp) (λc_TooFar=>?g8)
  (case l=>k_is);(case c2=>rfl);(case c3=>rfl);(case e1=>k_is);(case e2=>k_is);(case e3=>k_is);(case e4=>k_is);(case e5=>k_is);(case e6=>k_is);(case ob=>exact⟨_,_,_,_,_,_,_,_,_,_,_,_,_,_,_,_,rfl,rfl,rfl,rfl⟩);(case kp=>k_is)
  refine' L2.eJ (L2.jx K.lW a_TooFar c_TooFar.2 c_TooFar.1 ?nf ?i ?fn ?l ?cc ?kk) (λx_TooFar=>?g9)
  (case nf=>k_is);(case i=>k_is);(case fn=>k_is);(case l=>k_is);(case cc=>k_is);(case kk=>k_is)
  refine' L2.eJ (PySem.W.mg_of (n := "NoPrime") KX G ?xa) (λa_NoPrime=>?g10)
  (case xa=>k_is)
  refine' L2.eJ (L2.fC KX a_NoPrime ?l ?c2 ?c3 ?e1 ?e2 ?e3 ?e4 ?e5 ?e6 ?ob ?kp) (λc_NoPrime=>?g11)
  (case l=>k_is);(case c2=>rfl);(case c3=>rfl);(case e1=>k_is);(case e2=>k_is);(case e3=>k_is);(case e4=>k_is);(case e5=>k_is);(case e6=>k_is);(case ob=>exact⟨_,_,_,_,_,_,_,_,_,_,_,_,_,_,_,_,rfl,rfl,rfl,rfl⟩);(case kp=>k_is)
  refine' L2.eJ (L2.jx K.ko a_NoPrime c_NoPrime.2 c_NoPrime.1 ?nf ?i ?fn ?l ?cc ?kk) (λx_NoPrime=>?g12)
  (case nf=>k_is);(case i=>k_is);(case fn=>k_is);(case l=>k_is);(case cc=>k_is);(case kk=>k_is)
  refine' L2.eJ (PySem.W.mg_of (n := "NoInverse") KX G ?xa) (λa_NoInverse=>?g13)
  (case xa=>k_is)
  refine' L2.eJ (L2.fC KX a_NoInverse ?l ?c2 ?c3 ?e1 ?e2 ?e3 ?e4 ?e5 ?e6 ?ob ?kp) (λc_NoInverse=>?g14)
  (case l=>k_is);(case c2=>rfl);(case c3=>rfl);(case e1=>k_is);(case e2=>k_is);(case e3=>k_is);(case e4=>k_is);(case e5=>k_is);(case e6=>k_is);(case ob=>exact⟨_,_,_,_,_,_,_,_,_,_,_,_,_,_,_,_,rfl,rfl,rfl,rfl⟩);(case kp=>k_is)
  refine' L2.eJ (L2.jx K.iZ a_NoInverse c_NoInverse.2 c_NoInverse.1 ?nf ?i ?fn ?l ?cc ?kk) (λx_NoInverse=>?g15)
  (case nf=>k_is);(case i=>k_is);(case fn=>k_is);(case l=>k_is);(case cc=>k_is);(case kk=>k_is)
  refine' L2.eJ (PySem.W.mg_of (n := "GREATEST") KX G ?xa) (λg_GREATEST=>?g16)
  (case xa=>k_is)
  refine L2.ph hmg d_law (λ_ _ _ _ _ _ _=>rfl) λbase f fd kb F=>?_
  have inv:=λP w=>K.kA (P:=P) (w:=w) (base:=base) d_inverse (K.kz d_divisor n_abs) (x_NoInverse _ _ _)
  have pw:=λP w=>K.nA (P:=P) (w:=w) (base:=base) d_power (inv P w) n_abs
  have lt:=λP w=>K.kB (P:=P) (w:=w) (base:=base) d_is_least (pw P w) n_all
  have fr:=λP w=>K.pF (P:=P) (w:=w) (base:=base) d_least_divisor_from
  have ls:=λP w=>K.nz (P:=P) (w:=w) (base:=base) d_least_divisor (fr P w) x_NoNumber (x_TooFar _ _ _) ⟨_,g_GREATEST⟩
  have pd:=λP w=>K.me (P:=P) (w:=w) (base:=base) d_parted (fr P w) x_NoNumber (x_TooFar _ _ _) ⟨_,g_GREATEST⟩
  have pi:=λP w=>K.jP (P:=P) (w:=w) (base:=base) d_primes_in
  have ppb:=λP w=>K.iF (P:=P) (w:=w) (base:=base) d_prime_paper d_parting_paper (ls P w) (pd P w) (K.i7 d_least_full (lt P w)) (pi P w) (x_NoPrime _ _ _) n_tuple 30
  have pp:=λP w=>K.rZ (ppb P w).1
  have ww:=λP w=>K.va (P:=P) (w:=w) (base:=base) d_is_whole n_isinstance n_int n_bool
  have tf:=λP w=>K.rV (P:=P) (w:=w) (base:=base) d_is_tuple_of n_isinstance n_tuple n_len
  have pf:=λP w=>K.tN (P:=P) (w:=w) (base:=base) d_is_paper_form (ww P w) (tf P w) n_isinstance n_tuple
  have ct:=λP w=>K.tL (P:=P) (w:=w) (base:=base) d_come_to (K.tQ d_is_row_form (ww P w) (tf P w) (pf P w)) (K.tR d_without)
  have ra:=λP w=>K.tP (P:=P) (w:=w) (base:=base) d_is_right_above (pf P w) (ct P w) (lt P w) (pi P w)
  have pps:=λP w=>K.rT (P:=P) (w:=w) (base:=base) d_are_prime_papers (ra P w) n_list
  have ipr:=λP w=>K.tO (P:=P) (w:=w) (base:=base) d_is_prime_paper (pps P w)
  have rp:=λP w=>K.pJ (P:=P) (w:=w) (base:=base) d__law_right_product (pp P w) n_len n_tuple
  exact K.rS F (K.nr d__law_draws n_abs n_range) (K.ma d__law_is_prime) (pp _ _) (K.nI (ppb _ _).2) (K.pE d__law_bent (rp _ _) (K.jO d__law_bent_part (pp _ _)) n_list n_len n_max n_str) (K.nt d__law_great (pp _ _) n_int n_tuple) (rp _ _) (ipr _ _) (K.ny d__law_is_paper d__law_is_part (K.tM d__law_whole n_isinstance n_int n_bool) (K.pI d__law_power) n_isinstance n_tuple n_len n_range n_min n_any 36) n_max n_isinstance n_bool
 case S=>exact λK H a ns hl hO hS=>⟨a,ns,rfl,hS,hl,λ_=>rfl⟩
 case C=>exact λ_ _ _ _ z=>z
