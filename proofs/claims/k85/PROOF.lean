import PyProof.Rows.All
import Wide.All
import OpenK.AllK
import Wide.FinOn
import Lean
import PyProof.EqAt
import PyProof.EqKinds
import PyProof.TupleCall
import KE.KRevSl
import PyProof.NeData
import PyProof.P3Eq
import PyProof.Rows.Range3
import PyProof.EnumMake
import PyProof.Draws
import PyProof.ZipIter
import KE.KDictList
import KE.KDictSum
import PyProof.WalkInts
import PyProof.Rows.SeqCalls
import PySem.Challenge.RW_rootprime_k85_whole_wrong_powers_by_grea
set_option Elab.async false
local macro_rules | `(tactic| omega) => `(tactic| lia)
set_option linter.all false
set_option maxRecDepth 100000
namespace L2
open PySem PySem.Spec PyProof.Rows
abbrev Key:=Sum Int Str
def jP:Key->Value->Bool
 | .inl k,v=>Value.isInt k v
 | .inr x,v=>Value.isStrOf x v
def zo (w:World):Key->Int
 | .inl k=>hashInt k
 | .inr x=>hashStr w x
theorem bw:∀{k:Key} {v:Value},jP k v=true->(∃ i t,k=Sum.inl i/\v=Value.int i t)∨(∃ x t,k=Sum.inr x/\v=Value.str x t)
 | .inl i,v,h=>by
  obtain⟨t,e⟩:=Value.isInt_shape (k:=i) (v:=v) h
  exact .inl ⟨i,t,rfl,e⟩
 | .inr x,v,h=>by
  obtain⟨t,e⟩:=Value.isStrOf_shape (x:=x) (v:=v) h
  exact .inr ⟨x,t,rfl,e⟩
theorem pM (i:Int) (t:Tok):jP (.inl i) (.int i t)=true:=by simp [jP,Value.isInt]
theorem pN (x:Str) (t:Tok):jP (.inr x) (.str x t)=true:=by simp [jP,Value.isStrOf]
theorem wm (a b:Int):decide ((Sum.inl a:Key)=Sum.inl b)=(a==b):=by
 by_cases e:a=b
 ·subst e;simp
 ·have h:¬(Sum.inl a:Key)=Sum.inl b:=λq=>e (Sum.inl.inj q)
  rw [decide_eq_false h]
  exact (beq_eq_false_iff_ne.mpr e).symm
theorem wt (a b:Str):decide ((Sum.inr a:Key)=Sum.inr b)=decide (a=b):=by
 by_cases e:a=b
 ·subst e;simp
 ·have h:¬(Sum.inr a:Key)=Sum.inr b:=λq=>e (Sum.inr.inj q)
  rw [decide_eq_false h,decide_eq_false e]
theorem wo (a:Int) (b:Str):decide ((Sum.inl a:Key)=Sum.inr b)=false:=decide_eq_false (λq=>nomatch q)
theorem wq (a:Str) (b:Int):decide ((Sum.inr a:Key)=Sum.inl b)=false:=decide_eq_false (λq=>nomatch q)
def bE (prog:Program) (w:World):PySem.KeyKind prog w Key where
 is:=jP
 hash:=zo w
 inj:=λv a b ha hb=>by
  rcases bw ha with⟨i,t,rfl,rfl⟩|⟨x,t,rfl,rfl⟩
  ·rcases bw hb with⟨j,u,rfl,e⟩|⟨y,u,rfl,e⟩
   ·injection e with e1 _;rw [e1]
   ·exact nomatch e
  ·rcases bw hb with⟨j,u,rfl,e⟩|⟨y,u,rfl,e⟩
   ·exact nomatch e
   ·injection e with e1 _;rw [e1]
 byValue:=λk v h=>by
  rcases bw h with⟨i,t,rfl,rfl⟩|⟨x,t,rfl,rfl⟩<;>rfl
 pyHash:=λhv h=>by
  rcases bw hv with⟨i,t,rfl,rfl⟩|⟨x,t,rfl,rfl⟩
  ·exact wpAny_pyHash_int h
  ·exact wpAny_pyHash_str h
 eqBool:=λhu hv h=>by
  rcases bw hu with⟨i,t,rfl,rfl⟩|⟨x,t,rfl,rfl⟩
  ·rcases bw hv with⟨j,u,rfl,rfl⟩|⟨y,u,rfl,rfl⟩
   ·rw [wm] at h;exact wpAny_eqBool_int h
   ·rw [wo] at h;exact SeqAt.EqAt.int_str i t y u _ _ _ _ h
  ·rcases bw hv with⟨j,u,rfl,rfl⟩|⟨y,u,rfl,rfl⟩
   ·rw [wq] at h;exact SeqAt.EqAt.str_int x t j u _ _ _ _ h
   ·rw [wt] at h;exact wpAny_eqBool_str h
 «strs»:=λk x t v h=>by
  rcases bw h with⟨i,u,rfl,e⟩|⟨y,u,rfl,e⟩
  ·exact nomatch e
  ·injection e with e1 _
   subst e1
   cases v<;>rfl
theorem lP (prog:Program) (w:World) (i:Int) (t:Tok):(bE prog w).is (.inl i) (.int i t)=true:=pM i t
theorem lQ (prog:Program) (w:World) (x:Str) (t:Tok):(bE prog w).is (.inr x) (.str x t)=true:=pN x t
inductive V where
 | bo | bl (b:Bool) | int (i:Int) | str (x:Str) | byt (b:Array UInt8) | flt (b:UInt64) | ref (a:Addr) | ty (n:String)
 deriving DecidableEq
def RelV:V->Value->Prop
 | .bo,u=>u=Value.none
 | .bl b,u=>u=Value.bool b
 | .int i,u=>∃ t,u=Value.int i t
 | .str x,u=>∃ t,u=Value.str x t
 | .byt b,u=>∃ t,u=Value.bytes b t
 | .flt b,u=>∃ t,u=Value.float b t
 | .ref a,u=>u=Value.ref a
 | .ty n,u=>u=Value.type n
abbrev Vals:List V->List Value->Prop:=Paired RelV
theorem Vals.length {xs:List V} {us:List Value} (r:Vals xs us):xs.length=us.length:=Paired.length r
theorem Vals.get:∀{xs:List V} {us:List Value} {i:Nat} {x:V},Vals xs us->xs[i]?=some x->∃ u,us[i]?=some u/\RelV x u
 | _,_,_,_,.nil,e=>by simp at e
 | _,_,0,_,.cons r _,e=>by simp at e;subst e;exact⟨_,rfl,r⟩
 | _,_,i+1,x,.cons _ t,e=>by
  obtain⟨u,h1,h2⟩:=Vals.get (i:=i) (x:=x) t (by simpa using e)
  exact⟨u,by simpa using h1,h2⟩
theorem Vals.set {x:V} {u:Value} (r:RelV x u):∀{xs:List V} {us:List Value} (i:Nat),Vals xs us->Vals (xs.set i x) (us.set i u)
 | _,_,_,.nil=>.nil
 | _,_,0,.cons _ t=>.cons r t
 | _,_,i+1,.cons q t=>.cons q (Vals.set r i t)
theorem Vals.append:∀{xs ys:List V} {us ws:List Value},Vals xs us->Vals ys ws->Vals (xs++ys) (us++ws)
 | _,_,_,_,.nil,s=>s
 | _,_,_,_,.cons r t,s=>.cons r (Vals.append t s)
theorem Vals.take:∀{xs:List V} {us:List Value} (n:Nat),Vals xs us->Vals (xs.take n) (us.take n)
 | _,_,0,_=>.nil
 | _,_,_+1,.nil=>.nil
 | _,_,n+1,.cons r t=>.cons r (Vals.take n t)
theorem Vals.drop:∀{xs:List V} {us:List Value} (n:Nat),Vals xs us->Vals (xs.drop n) (us.drop n)
 | _,_,0,r=>r
 | _,_,_+1,.nil=>.nil
 | _,_,n+1,.cons _ t=>Vals.drop n t
def fO:Option V->Option Value->Prop
 | some v,some u=>RelV v u
 | none,none=>True
 | _,_=>False
def KV {κ:Type}:List (κ × V)->List (κ × Value)->Prop:=Paired fun(p:κ × V) (q:κ × Value)=>p.1=q.1/\RelV p.2 q.2
def kV:Key->V
 | .inl i=>.int i
 | .inr x=>.str x
inductive HO where
  | lst (xs:List V)
  | tup (xs:List V)
  | dK (kvs:List (Key × V)) | dT (kvs:List (List Key × V))
  | set (S:Int->Bool) (n:Nat)
  | ins (C dx:Addr) (fs:List (Str × V))
  | own (x:Addr)
  | xd (fs:List (Str × V))
  | met (f x:Addr)
  | rng (lo hi:Int)
  | frz (o:Obj) (u:HO)
  | tbl (ps:Array Value)
  | ext (φ:Heap->Prop)
abbrev Hp:=Addr->Option HO
def upd (H:Hp) (a:Addr) (o:HO):Hp:=λb=>if b=a then some o else H b
theorem ah {H:Hp} {a:Addr} {o:HO}:upd H a o a=some o:=by unfold upd;rw [if_pos rfl]
theorem au {H:Hp} {a b:Addr} {o:HO} (h:b≠a):upd H a o b=H b:=by unfold upd;rw [if_neg h]
theorem jS {H:Hp} {a b:Addr} {o u:HO} (h:H a=some o) (h':H b=some u) (d:o≠u):a≠b:=by
 intro e;subst e;rw [h] at h';exact d (Option.some.inj h')
theorem aS {H:Hp} {a b:Addr} {o:HO} (h:H a=some o) (h':H b=none):a≠b:=by
 intro e;subst e;rw [h] at h';cases h'
section
variable (P:Program) (w:World)
def aZ (H:Hp) (h:Heap) (a:Addr):HO->Prop
 | .lst xs=>xs.length<=sizeLine/\∃(its:List Value) (n:Nat),Vals xs its/\h.get? a=some { cls:=.type "list",data:=.seq its.toArray n }
 | .tup xs=>xs.length<=sizeLine/\∃ its:List Value,Vals xs its/\IsTup h a its.toArray
 | .dK kvs=>kvs.length<=sizeLine/\(a==sysModules)=false/\∃ vs,KV kvs vs/\h.DictOf (bE P w) a vs
 | .dT kvs=>kvs.length<=sizeLine/\(a==sysModules)=false/\∃ xs:List (List Key × Addr × Value),
   Paired (fun(p:List Key × V) (q:List Key × Addr × Value)=>p.1=q.1/\H q.2.1=some (.tup (p.1.map kV))/\RelV p.2 q.2.2) kvs xs /\
   ∃ o es ep,h.get? a=some o/\o.ExactDict/\o.data=.dict es ep/\es.toList=xs.map (entryOfKey (tupleKind (bE P w)))/\(xs.map (·.1)).Nodup
 | .set S n=>h.SetOf (intKind P w) a S n
 | .ins C dx fs=>H dx=some (.own a)/\fs.length<=1000/\dx≠a/\h.get? a=some (PySem.W.instObj C dx) /\
   ∃ mA,h.Ns1 dx mA/\(∀ f,fO (fs.lookup f) (mA f))/\PySem.Within mA (fs.map (·.1))
 | .own _=>∃ o,h.get? a=some o
 | .xd fs=>∃ mA,h.Ns1 a mA/\∀ f,fO (fs.lookup f) (mA f)
 | .rng lo hi=>∃ t u v,h.get? a=some { cls:=.type "range",data:=.fields #[.int lo t,.int hi u,.int 1 v] }
 | .frz o u=>h.get? a=some o/\aZ H h a u
 | .tbl ps=>h.get? a=some { cls:=.none,data:=.fields ps }
 | .met f x=>h.get? a=some (PySem.W.methodObj (.ref f) (.ref x))
 | .ext φ=>φ h/\(∃ o,h.get? a=some o)/\∀ h1 h2:Heap,φ h1->(∀ o,h1.get? a=some o->h2.get? a=some o)->φ h2
def eP (H:Hp) (h:Heap):Prop:=∀ a o,H a=some o->aZ P w H h a o
end
section
variable {P:Program} {w:World} {H H':Hp} {h h':Heap} {a:Addr} {o:HO}
theorem aZ.lt (x:aZ P w H h a o):a<h.objs.size:=by
 cases o with
 | lst xs=>obtain⟨_,_,_,_,e⟩:=x;exact Heap.lt_size e
 | tup xs=>obtain⟨_,_,_,p⟩:=x;exact p.lt
 | dK kvs=>obtain⟨_,_,_,_,o,_,_,e,_⟩:=x;exact Heap.lt_size e
 | dT kvs=>obtain⟨_,_,_,_,o,_,_,e,_⟩:=x;exact Heap.lt_size e
 | set S n=>obtain⟨o,_,_,_,e,_⟩:=x;exact Heap.lt_size e
 | ins C dx fs=>obtain⟨_,_,_,e,_⟩:=x;exact Heap.lt_size e
 | own y=>obtain⟨_,e⟩:=x;exact Heap.lt_size e
 | xd fs=>obtain⟨_,⟨_,_,_,e,_⟩,_⟩:=x;exact Heap.lt_size e
 | rng lo hi=>obtain⟨_,_,_,e⟩:=x;exact Heap.lt_size e
 | frz ob u=>obtain⟨e,_⟩:=x;exact Heap.lt_size e
 | tbl ps=>exact Heap.lt_size (show h.get? a=some _ from x)
 | met f y=>exact Heap.lt_size (show h.get? a=some _ from x)
 | ext φ=>obtain⟨_,⟨_,e⟩,_⟩:=x;exact Heap.lt_size e
theorem Paired.wy {α β:Type} {F G:α->β->Prop}:∀{l₁:List α} {l₂:List β},Paired F l₁ l₂->(∀ a b,F a b->G a b)->Paired G l₁ l₂
 | _,_,.nil,_=>.nil
 | _,_,.cons r t,f=>.cons (f _ _ r) (Paired.wy t f)
theorem aZ.jj (x:aZ P w H h a o) (k:∀ b u,(b=a∨H b=some (.own a))->h.get? b=some u->h'.get? b=some u)
  (ho:∀ b,H b=some (.own a)->H' b=some (.own a)) (ht:∀ b xs,H b=some (.tup xs)->H' b=some (.tup xs)):aZ P w H' h' a o:=by
 induction o with
 | lst xs=>obtain⟨z,its,n,r,e⟩:=x;exact⟨z,its,n,r,k _ _ (.inl rfl) e⟩
 | tup xs=>obtain⟨z,its,r,ob,e,c⟩:=x;exact⟨z,its,r,ob,k _ _ (.inl rfl) e,c⟩
 | dK kvs=>obtain⟨z,y,vs,r,ob,es,ep,e,c⟩:=x;exact⟨z,y,vs,r,ob,es,ep,k _ _ (.inl rfl) e,c⟩
 | dT kvs =>
  obtain⟨z,y,xs,r,ob,es,ep,e,c⟩:=x
  exact⟨z,y,xs,Paired.wy r λp q z=>⟨z.1,ht _ _ z.2.1,z.2.2⟩,ob,es,ep,k _ _ (.inl rfl) e,c⟩
 | set S n=>obtain⟨ob,es,ep,t,e,c⟩:=x;exact⟨ob,es,ep,t,k _ _ (.inl rfl) e,c⟩
 | ins C dx fs =>
  obtain⟨d,z,ne,e,mA,⟨od,es,ep,e2,c⟩,r⟩:=x
  exact⟨ho _ d,z,ne,k _ _ (.inl rfl) e,mA,⟨od,es,ep,k _ _ (.inr d) e2,c⟩,r⟩
 | own y=>obtain⟨ob,e⟩:=x;exact⟨ob,k _ _ (.inl rfl) e⟩
 | xd fs=>obtain⟨mA,⟨od,es,ep,e,c⟩,r⟩:=x;exact⟨mA,⟨od,es,ep,k _ _ (.inl rfl) e,c⟩,r⟩
 | rng lo hi=>obtain⟨t,u,v,e⟩:=x;exact⟨t,u,v,k _ _ (.inl rfl) e⟩
 | frz ob u ih=>obtain⟨e,q⟩:=x;exact⟨k _ _ (.inl rfl) e,ih q⟩
 | tbl ps =>
  have e:h.get? a=some { cls:=.none,data:=.fields ps }:=x
  show h'.get? a=some { cls:=.none,data:=.fields ps }
  exact k a _ (.inl rfl) e
 | met f y =>
  have e:h.get? a=some (PySem.W.methodObj (.ref f) (.ref y)):=x
  show h'.get? a=some (PySem.W.methodObj (.ref f) (.ref y))
  exact k a _ (.inl rfl) e
 | ext φ=>obtain⟨p,⟨o,e⟩,st⟩:=x;exact⟨st _ _ p λo q=>k _ _ (.inl rfl) q,⟨o,k _ _ (.inl rfl) e⟩,st⟩
theorem eP.lt (x:eP P w H h) (e:H a=some o):a<h.objs.size:=(x a o e).lt
theorem eP.fresh (x:eP P w H h) (e:h.objs.size<=a):H a=none:=by
 cases q:H a with
 | none=>rfl
 | some u=>exact absurd (Nat.lt_of_lt_of_le (x.lt q) e) (Nat.lt_irrefl _)
theorem eP.kept (x:eP P w H h) (k:∀ b u,h.get? b=some u->h'.get? b=some u):eP P w H h':=λa o e =>
 (x a o e).jj (λb u _ q=>k b u q) (λ_ q=>q) λ_ _ q=>q
theorem eP.laid (x:eP P w H h) (k:∀ b u,h.get? b=some u->h'.get? b=some u) (hp:h.objs.size<=a) (new:aZ P w (upd H a o) h' a o):eP P w (upd H a o) h':=λb u e=>by
 have hn:=x.fresh hp
 by_cases hb:b=a
 ·subst hb;rw [ah] at e;cases e;exact new
 ·rw [au hb] at e
  exact (x b u e).jj (λc v _ q=>k c v q) (λc q=>by rw [au (aS q hn)];exact q) λc xs q=>by rw [au (aS q hn)];exact q
end
def Rd (H:Hp) (a:Addr) (u:HO):Prop:=H a=some u∨∃ o,H a=some (.frz o u)
theorem Rd.ok {P:Program} {w:World} {H:Hp} {h:Heap} {a:Addr} {u:HO} (r:Rd H a u) (x:eP P w H h):aZ P w H h a u:=by
 rcases r with r | ⟨o,r⟩
 ·exact x a u r
 ·obtain⟨_,q⟩:=x a _ r
  exact q
def xM:Option HO->Prop
 | some (.lst _)=>True
 | some (.dK _)=>True
 | some (.dT _)=>True
 | some (.set _ _)=>True
 | some (.ins _ _ _)=>True
 | some (.ext _)=>True
 | _=>False
section
variable {P:Program} {w:World} {H:Hp} {h h':Heap} {x e:Addr} {o':HO}
theorem eP.write (ok:eP P w H h) (mu:xM (H x)) (he:e=x∨H e=some (.own x)) (k:∀ b u,b≠e->h.get? b=some u->h'.get? b=some u) (heo:∃ u,h'.get? e=some u)
  (new:aZ P w (upd H x o') h' x o'):eP P w (upd H x o') h':=λb u q=>by
 have nown:∀ c y,H c=some (.own y)->c≠x:=λc y r z=>by subst z;rw [r] at mu;exact mu
 have ntup:∀ c xs,H c=some (.tup xs)->c≠x:=λc xs r z=>by subst z;rw [r] at mu;exact mu
 by_cases hb:b=x
 ·subst hb;rw [ah] at q;cases q;exact new
 ·rw [au hb] at q
  by_cases hbe:b=e
  ·have q':H b=some (.own x):=by
    rcases he with z | z
    ·exact absurd (hbe.trans z) hb
    ·rw [hbe];exact z
   rw [q] at q';cases q'
   obtain⟨v,hv⟩:=heo
   exact⟨v,by rw [hbe];exact hv⟩
  ·refine (ok b u q).jj (λc v hc r=>k c v ?_ r) (λc r=>by rw [au (nown c b r)];exact r) λc xs r=>by rw [au (ntup c xs r)];exact r
   rcases hc with rfl | hc
   ·exact hbe
   ·rintro rfl
    rcases he with z | z
    ·exact nown c b hc z
    ·rw [hc] at z;cases z;exact hb rfl
end
structure Un (fs ex:List Addr) (H H':Hp) (h h':Heap):Prop where
 keep:∀ b o,h.get? b=some o->H b=none->b∉fs->b∉ex->h'.get? b=some o
 slot:∀ b o,h.get? b=some o->H b=none->b∈fs->b∉ex->∃ sl,h'.get? b=some { o with slots:=sl }
 free:∀ b o,h.get? b=some o->H b=none->b∉ex->H' b=none
 there:∀ b o,h.get? b=some o->b∉ex->∃ o',h'.get? b=some o'
 tups:∀ b xs,H b=some (.tup xs)->H' b=some (.tup xs)
 frzs:∀ b o u,H b=some (.frz o u)->H' b=some (.frz o u)
 tbls:∀ b ps,H b=some (.tbl ps)->∃ more,H' b=some (.tbl (ps++more))
section
variable {fs fs' ex ex':List Addr} {H H1 H2:Hp} {h h1 h2 h':Heap} {a x e:Addr} {o:HO}
theorem Un.any (u:Un fs ex H H1 h h1) {b:Addr} {ob:Obj} (q:h.get? b=some ob) (n:H b=none) (hx:b∉ex):∃ sl,h1.get? b=some { ob with slots:=sl }:=by
 by_cases hb:b∈fs
 ·exact u.slot b ob q n hb hx
 ·exact⟨ob.slots,u.keep b ob q n hb hx⟩
theorem Un.trans (a:Un fs ex H H1 h h1) (b:Un fs ex H1 H2 h1 h2):Un fs ex H H2 h h2 where
 keep:=λc ob q n hc hx=>b.keep c ob (a.keep c ob q n hc hx) (a.free c ob q n hx) hc hx
 slot:=λc ob q n hc hx=>by
  obtain⟨sl,e1⟩:=a.slot c ob q n hc hx
  obtain⟨sl',e2⟩:=b.slot c _ e1 (a.free c ob q n hx) hc hx
  exact⟨sl',e2⟩
 free:=λc ob q n hx=>by
  obtain⟨o',e1⟩:=a.there c ob q hx
  exact b.free c o' e1 (a.free c ob q n hx) hx
 there:=λc ob q hx=>by
  obtain⟨o',e1⟩:=a.there c ob q hx
  exact b.there c o' e1 hx
 tups:=λc xs q=>b.tups c xs (a.tups c xs q)
 frzs:=λc ob xs q=>b.frzs c ob xs (a.frzs c ob xs q)
 tbls:=λc ps q=>by
  obtain⟨m1,e1⟩:=a.tbls c ps q
  obtain⟨m2,e2⟩:=b.tbls c _ e1
  exact⟨m1++m2,by rw [e2,Array.append_assoc]⟩
theorem Un.kept (k:∀ b u,h.get? b=some u->h'.get? b=some u):Un fs ex H H h h' :=
 ⟨λb ob q _ _ _=>k b ob q,λb ob q _ _ _=>⟨ob.slots,k b ob q⟩,λ_ _ _ n _=>n,λb ob q _=>⟨ob,k b ob q⟩,λ_ _ q=>q,λ_ _ _ q=>q,λ_ ps q=>⟨#[],by rw [q];simp⟩⟩
theorem Un.refl:Un fs ex H H h h:=Un.kept λ_ _ q=>q
theorem Un.laid (k:∀ b u,h.get? b=some u->h'.get? b=some u) (hp:h.objs.size<=a) (hn:H a=none):Un fs ex H (upd H a o) h h' where
 keep:=λb u q _ _ _=>k b u q
 slot:=λb u q _ _ _=>⟨u.slots,k b u q⟩
 free:=λb u q n _=>by rw [au (Nat.ne_of_lt (Nat.lt_of_lt_of_le (Heap.lt_size q) hp))];exact n
 there:=λb u q _=>⟨u,k b u q⟩
 tups:=λb xs q=>by rw [au (aS q hn)];exact q
 frzs:=λb u xs q=>by rw [au (aS q hn)];exact q
 tbls:=λb ps q=>⟨#[],by rw [au (aS q hn),q];simp⟩
theorem Un.write (mu:xM (H x)) (he:e=x∨H e=some (.own x)) (k:∀ b u,b≠e->h.get? b=some u->h'.get? b=some u) (heo:∃ u,h'.get? e=some u):Un fs ex H (upd H x o) h h':=by
 have hx:∀ b,H b=none->b≠x:=λb n z=>by subst z;rw [n] at mu;exact mu
 have hb:∀ b,H b=none->b≠e:=λb n z=>by
  subst z
  rcases he with r | r
  ·exact hx b n r
  ·rw [n] at r;cases r
 have hm:∀ b u,H b=some u->¬xM (some u)->b≠x:=λb u q nm z=>by subst z;rw [q] at mu;exact nm mu
 refine⟨λb u q n _ _=>k b u (hb b n) q,λb u q n _ _=>⟨u.slots,k b u (hb b n) q⟩,λb u q n _=>by rw [au (hx b n)];exact n,λb u q _=>?_,
  λb xs q=>by rw [au (hm b _ q λz=>z)];exact q,λb u xs q=>by rw [au (hm b _ q λz=>z)];exact q,λb ps q=>⟨#[],by rw [au (hm b _ q λz=>z),q];simp⟩⟩
 by_cases hbe:b=e
 ·subst hbe;exact heo
 ·exact⟨u,k b u hbe q⟩
theorem Un.mono (u:Un fs ex H H1 h h1) (hs:∀ b∈fs,b∈fs') (hx:∀ b∈ex,b∈ex'):Un fs' ex' H H1 h h1 :=
 ⟨λb ob q n hb he=>u.keep b ob q n (λz=>hb (hs b z)) λz=>he (hx b z),λ_ _ q n _ he=>u.any q n λz=>he (hx _ z),λb ob q n he=>u.free b ob q n λz=>he (hx b z),λb ob q he=>u.there b ob q λz=>he (hx b z),u.tups,u.frzs,u.tbls⟩
end
def yS (h:Heap) (H:Hp):List Addr:=(List.range h.objs.size).filter λa=>(H a).isSome
def kz (h:Heap) (H:Hp):Heap:=PySem.W.hideAll h (yS h H)
theorem pI (h:Heap) (H:Hp):(kz h H).objs.size=h.objs.size:=PySem.W.hideAll_size _ _
theorem qX {h:Heap} {H:Hp} {b:Addr} {o:Obj} (e:h.get? b=some o) (n:H b=none):(kz h H).get? b=some o :=
 PySem.W.hideAll_get _ e λhm=>by
  have q:(H b).isSome=true:=(List.mem_filter.mp hm).2
  rw [n] at q;simp at q
theorem ub {h:Heap} {H:Hp} {b:Addr} {o:Obj} (e:(kz h H).get? b=some o):h.get? b=some o/\H b=none:=by
 have e':h.get? b=some o:=PySem.W.of_hideAll (yS h H) e
 refine⟨e',?_⟩
 cases q:H b with
 | none=>rfl
 | some x =>
  have hm:b∈yS h H:=List.mem_filter.mpr ⟨List.mem_range.mpr (Heap.lt_size e'),by simp [q]⟩
  have z:(kz h H).get? b=none:=PySem.W.hideAll_none (yS h H) hm
  rw [z] at e;cases e
def sY (g h:Heap) (L:Addr):List (Addr × Obj):=(List.range h.objs.size).filterMap λa=>if a=L∨(g.get? a).isSome=true then none else (h.get? a).map λo=>(a,o)
def rest (g h:Heap) (L d:Addr):List (Addr × Obj):=(sY g h L).filter λp=>decide (p.1≠d)
structure Mod (K:PySem.W.Frag) (mg:Str->Option Value) (base:Heap):Prop where
 kin:K.In base
 glob:base.Ns mainGlobals mg
 blt:∃ mb,base.Ns builtinsNs mb/\∀ x:Str,x ≠ "__name__"->mb x=bootBuiltins x
 nolimit:base.NoLimit
structure Cx where
 prog:Program
 w:World
 K:PySem.W.Frag
 mg:Str->Option Value
 base:Heap
 A:Around
 N:List Str
 s₀:Shared
 H₀:Hp
 env:Env
 outer:List Env
 stack:List Env
 ex:List Addr
 fn:Str->Bool
 calm:Bool
 pn:List (Addr × Obj)
 xe:Value->Shared->Prop
def fx (l:List Env):List Addr:=l.filterMap (·.frame)
abbrev Cx.fs (X:Cx):List Addr:=fx X.outer
def xE (sc:Scope) (x:Str):Prop:=sc.names.lookup x=some .local∨sc.names.lookup x=some .cell∨sc.names.lookup x=some .free
def Loc (sc:Scope) (x:Str):Prop:=sc.names.lookup x=some .local∨sc.names.lookup x=some .cell
def Look (env:Env) (h:Heap) (m:Str->Option Value) (x:Str) (u:Value):Prop :=
 (env.kindOf x=some .local/\m x=some u)∨((env.kindOf x=some .cell∨env.kindOf x=some .free)/\∃ c,env.cells.lookup x=some c/\h.IsCell c (some u))
structure Cx.Ok (X:Cx):Prop where
 mod:Mod X.K X.mg X.base
 kind:X.env.scope.kind=.function
 glob:X.env.globals=mainGlobals
 blt:X.env.builtins=builtinsNs
 above:X.s₀.heap.objs.size<=X.env.locals
 inj:∀ x y c,X.env.cells.lookup x=some c->X.env.cells.lookup y=some c->x=y
 has:∀ x,(X.env.kindOf x=some .cell∨X.env.kindOf x=some .free)->∃ c,X.env.cells.lookup x=some c
 cab:∀ x c,X.fn x=true->X.env.cells.lookup x=some c->X.s₀.heap.objs.size<=c
 hd:X.calm=true->X.A.handled=none
 frames:X.A.frames=some X.stack
 stk:X.stack=X.outer∨(X.stack=X.env::X.outer/\X.env.frame=some X.env.locals)
 exf:∀ b∈X.ex,b≠X.env.locals/\∀ x c,X.env.cells.lookup x=some c->c≠b
 bs:∀ b o,X.base.get? b=some o->X.s₀.heap.get? b=some o/\X.H₀ b=none
 bsz:X.base.objs.size<=X.s₀.heap.objs.size
 noex:∀ b o,X.base.get? b=some o->b∉X.ex
 exfs:∀ b∈X.ex,b∉X.fs
 iq:X.s₀.heap.FunFrames X.base X.outer
 frf:∀ b∈X.fs,X.H₀ b=none
structure Inv (X:Cx) (pins:List (Addr × Obj)) (σ:List (Option V)) (H:Hp) (s:Shared):Prop where
 ok:X.Ok
 os:s.os=X.s₀.os
 bare:AllBare s.gens
 base:Un X.fs X.ex X.H₀ H X.s₀.heap s.heap
 loc:∃ m,s.heap.Ns X.env.locals m/\∀(i:Nat) (x:Str) (v:V),X.N[i]?=some x->σ[i]?=some (some v)->xE X.env.scope x->∃ u,RelV v u/\Look X.env s.heap m x u
 cell:∀ x c,X.env.cells.lookup x=some c->∃ v,s.heap.IsCell c v
 free:H X.env.locals=none
 freeC:∀ x c,X.env.cells.lookup x=some c->H c=none
 pin:∀ p∈X.pn++pins,s.heap.get? p.1=some p.2/\H p.1=none/\p.1≠X.env.locals/\p.1∉X.fs/\∀ v,p.2.data≠.cell v
 hok:eP X.prog X.w H s.heap
 len:σ.length=X.N.length
section
variable {X:Cx} {pins:List (Addr × Obj)} {σ:List (Option V)} {H H':Hp} {s:Shared} {h':Heap}
theorem Cx.Ok.zt (ok:X.Ok) {b:Addr} {o:Obj} (e:X.base.get? b=some o):b∉X.fs:=λhb=>by
 have:=(ok.iq.mem hb).1
 rw [e] at this;cases this
theorem Inv.bs (I:Inv X pins σ H s):∀ b o,X.base.get? b=some o->s.heap.get? b=some o/\H b=none:=λb o e =>
 ⟨I.base.keep b o (I.ok.bs b o e).1 (I.ok.bs b o e).2 (I.ok.zt e) (I.ok.noex b o e),I.base.free b o (I.ok.bs b o e).1 (I.ok.bs b o e).2 (I.ok.noex b o e)⟩
theorem Inv.bk (I:Inv X pins σ H s):∀ b o,X.base.get? b=some o->s.heap.get? b=some o:=λb o e=>(I.bs b o e).1
theorem Inv.mod (I:Inv X pins σ H s):Mod X.K X.mg X.base:=I.ok.mod
theorem Inv.fY (I:Inv X pins σ H s):X.K.In s.heap:=I.ok.mod.kin.keeps I.bk
theorem Inv.fr (I:Inv X pins σ H s):∃ m,Fr X.base X.env.locals s.heap m :=
 let ⟨m,hn,_⟩:=I.loc
 ⟨m,hn,I.bk,Nat.le_trans I.ok.bsz I.ok.above⟩
theorem Inv.lt (I:Inv X pins σ H s):X.env.locals<s.heap.objs.size:=let ⟨_,hn,_⟩:=I.loc;hn.lt
theorem Inv.sz (I:Inv X pins σ H s):X.s₀.heap.objs.size<=s.heap.objs.size:=Nat.le_trans I.ok.above (Nat.le_of_lt I.lt)
theorem Inv.wB (I:Inv X pins σ H s) {a:Addr} (h:s.heap.objs.size<=a):a∉X.fs:=λhb=>by
 obtain⟨_,o,ho,_⟩:=I.ok.iq.mem hb
 exact absurd (Nat.lt_of_lt_of_le (Heap.lt_size ho) (Nat.le_trans I.sz h)) (Nat.lt_irrefl _)
theorem Inv.v7 (I:Inv X pins σ H s):∀ x c,X.env.cells.lookup x=some c->c≠X.env.locals:=λx c e z=>by
 obtain⟨v,o,ho,hd⟩:=I.cell x c e
 obtain⟨m,⟨o',es,ep,ho',hd',_⟩,_⟩:=I.loc
 rw [z,ho'] at ho;cases ho;rw [hd'] at hd;cases hd
theorem Inv.iq (I:Inv X pins σ H s):s.heap.FunFrames X.base X.outer:=by
 have all:∀(l:List Env),(∀ b∈fx l,b∈X.fs)->X.s₀.heap.FunFrames X.base l->s.heap.FunFrames X.base l:=by
  intro l
  induction l with
  | nil=>intro _ _;trivial
  | cons env r ih =>
   intro hs hl
   obtain⟨hk,⟨L,o,hf,hn,ho,hd⟩,hr⟩:=hl
   have hL:L∈X.fs:=hs L (by unfold fx;rw [List.filterMap_cons,hf];exact List.mem_cons_self)
   obtain⟨sl,e⟩:=I.base.slot L o ho (I.ok.frf L hL) hL λz=>I.ok.exfs L z hL
   exact⟨hk,⟨L,_,hf,hn,e,hd⟩,ih (λb hb=>hs b (by unfold fx;rw [List.filterMap_cons,hf];exact List.mem_cons_of_mem _ hb)) hr⟩
 exact all X.outer (λ_ hb=>hb) I.ok.iq
theorem Inv.stack (I:Inv X pins σ H s):s.heap.FunFrames X.base X.stack:=by
 rcases I.ok.stk with e | ⟨e,hf⟩
 ·rw [e];exact I.iq
 ·rw [e]
  obtain⟨m,hn,_⟩:=I.loc
  refine .cons (by rw [I.ok.kind];decide) hf hn ?_ I.iq
  exact Heap.get?_none_of_le (Nat.le_trans I.ok.bsz I.ok.above)
theorem Inv.ff (I:Inv X pins σ H s):∀ b∈fx X.stack,b∈X.env.locals::X.fs:=λb hb=>by
 rcases I.ok.stk with e | ⟨e,hf⟩
 ·rw [e] at hb;exact List.mem_cons_of_mem _ hb
 ·rw [e] at hb
  unfold fx at hb
  rw [List.filterMap_cons,hf] at hb
  exact hb
theorem Inv.gA (I:Inv X pins σ H s):∀ b∈fx X.stack,H b=none:=λb hb=>by
 rcases List.mem_cons.mp (I.ff b hb) with e | hb
 ·rw [e];exact I.free
 ·obtain⟨_,o,ho,_⟩:=I.ok.iq.mem hb
  exact I.base.free b o ho (I.ok.frf b hb) λz=>I.ok.exfs b z hb
theorem Inv.step {g':Array GenState} {t':Nat} {d':Drawn} {ch:List Addr} (I:Inv X pins σ H s)
  (hch:∀ b∈ch,(b∈X.ex∨X.s₀.heap.objs.size<=b)/\b≠X.env.locals/\(∀ x c,X.env.cells.lookup x=some c->c≠b)/\∀ p∈X.pn++pins,p.1≠b)
  (keep:∀ b o,b≠X.env.locals->b∉X.fs->b∉ch->s.heap.get? b=some o->H b=none->h'.get? b=some o)
  (slot:∀ b o,b≠X.env.locals->b∈X.fs->b∉ch->s.heap.get? b=some o->H b=none->∃ sl,h'.get? b=some { o with slots:=sl }) (free:∀ b o,b∉ch->s.heap.get? b=some o->H b=none->H' b=none)
  (there:∀ b o,b∉ch->s.heap.get? b=some o->∃ o',h'.get? b=some o')
  (tups:∀ b xs,H b=some (.tup xs)->H' b=some (.tup xs)) (frzs:∀ b o u,H b=some (.frz o u)->H' b=some (.frz o u)) (tbls:∀ b ps,H b=some (.tbl ps)->∃ more,H' b=some (.tbl (ps++more)))
  (ns:∀ m,s.heap.Ns X.env.locals m->h'.Ns X.env.locals m) (hok:eP X.prog X.w H' h') (hg:AllBare g') :
  Inv X pins σ H' { s with heap:=h',gens:=g',drawn:=d',toks:=t' }:=by
 have neL:∀ b o,X.s₀.heap.get? b=some o->b≠X.env.locals:=λb o e=>Nat.ne_of_lt (Nat.lt_of_lt_of_le (Heap.lt_size e) I.ok.above)
 have neC:∀ b o,X.s₀.heap.get? b=some o->b∉X.ex->b∉ch:=λb o e hx hb=>by
  rcases (hch b hb).1 with z | z
  ·exact hx z
  ·exact absurd (Nat.lt_of_lt_of_le (Heap.lt_size e) z) (Nat.lt_irrefl _)
 have cellK:∀ x c,X.env.cells.lookup x=some c->∀ v,s.heap.IsCell c v->h'.IsCell c v:=λx c e v ⟨o,ho,hd⟩=>by
  have nch:c∉ch:=λz=>(hch c z).2.2.1 x c e rfl
  by_cases hc:c∈X.fs
  ·obtain⟨sl,q⟩:=slot c o (I.v7 x c e) hc nch ho (I.freeC x c e)
   exact⟨_,q,hd⟩
  ·exact⟨o,keep c o (I.v7 x c e) hc nch ho (I.freeC x c e),hd⟩
 refine⟨I.ok,I.os,hg,⟨λb o e n hb hx=>?_,λb o e n hb hx=>?_,λb o e n hx=>?_,λb o e hx=>?_,λb xs e=>tups b xs (I.base.tups b xs e),λb o xs e=>frzs b o xs (I.base.frzs b o xs e),λb ps e=>?_⟩,?_,λx c e=>?_,?_,λx c e=>?_,λp hp=>?_,hok,I.len⟩
 ·exact keep b o (neL b o e) hb (neC b o e hx) (I.base.keep b o e n hb hx) (I.base.free b o e n hx)
 ·obtain⟨sl,e1⟩:=I.base.slot b o e n hb hx
  obtain⟨sl',e2⟩:=slot b _ (neL b o e) hb (neC b o e hx) e1 (I.base.free b o e n hx)
  exact⟨sl',e2⟩
 ·obtain⟨o',e1⟩:=I.base.there b o e hx
  exact free b o' (neC b o e hx) e1 (I.base.free b o e n hx)
 ·obtain⟨o',e1⟩:=I.base.there b o e hx
  exact there b o' (neC b o e hx) e1
 ·obtain⟨m1,e1⟩:=I.base.tbls b ps e
  obtain⟨m2,e2⟩:=tbls b _ e1
  exact⟨m1++m2,by rw [e2,Array.append_assoc]⟩
 ·obtain⟨m,hn,hl⟩:=I.loc
  refine⟨m,ns m hn,λi x v e1 e2 e3=>?_⟩
  obtain⟨u,r,l⟩:=hl i x v e1 e2 e3
  refine⟨u,r,?_⟩
  rcases l with l | ⟨k,c,e,z⟩
  ·exact .inl l
  ·exact .inr ⟨k,c,e,cellK x c e _ z⟩
 ·obtain⟨v,z⟩:=I.cell x c e
  exact⟨v,cellK x c e v z⟩
 ·obtain⟨m,⟨o,_,_,ho,_⟩,_⟩:=I.loc
  exact free _ o (λz=>(hch _ z).2.1 rfl) ho I.free
 ·obtain⟨v,o,ho,hd⟩:=I.cell x c e
  exact free c o (λz=>(hch c z).2.2.1 x c e rfl) ho (I.freeC x c e)
 ·obtain⟨e,n,ne,nf,d⟩:=I.pin p hp
  have nch:p.1∉ch:=λz=>(hch p.1 z).2.2.2 p hp rfl
  exact⟨keep p.1 p.2 ne nf nch e n,free p.1 p.2 nch e n,ne,nf,d⟩
theorem Inv.un {t':Nat} (I:Inv X pins σ H s) (u:Un X.fs [] H H' s.heap h') (hok:eP X.prog X.w H' h'):Inv X pins σ H' { s with heap:=h',toks:=t' }:=by
 obtain⟨m,⟨o,es,ep,ho,r⟩,_⟩:=id I.loc
 obtain⟨sl,hL⟩:=u.any ho I.free (by simp)
 exact I.step (g':=s.gens) (d':=s.drawn) (ch:=[]) (λ_ z=>nomatch z) (λb o _ hb _ e n=>u.keep b o e n hb (by simp)) (λb o _ hb _ e n=>u.slot b o e n hb (by simp)) (λb o _ e n=>u.free b o e n (by simp)) (λb o _ e=>u.there b o e (by simp)) u.tups u.frzs u.tbls (λm' hm=>by
  obtain⟨o',es',ep',ho',r'⟩:=hm
  rw [ho] at ho';cases ho'
  exact⟨_,es',ep',hL,r'⟩) hok I.bare
theorem Inv.call {g':Array GenState} {t':Nat} {d':Drawn} {ch:List Addr} (I:Inv X pins σ H s) (u:Un (fx X.stack) ch H H' s.heap h') (hok:eP X.prog X.w H' h') (hg:AllBare g')
  (hch:∀ b∈ch,(b∈X.ex∨X.s₀.heap.objs.size<=b)/\b≠X.env.locals/\(∀ x c,X.env.cells.lookup x=some c->c≠b)/\∀ p∈X.pn++pins,p.1≠b) :
  Inv X pins σ H' { s with heap:=h',gens:=g',drawn:=d',toks:=t' }:=by
 obtain⟨m,⟨o,es,ep,ho,r⟩,_⟩:=id I.loc
 obtain⟨sl,hL⟩:=u.any ho I.free λz=>(hch _ z).2.1 rfl
 exact I.step (ch:=ch) hch (λb o hL hb hc e n=>u.keep b o e n (λz=>(List.mem_cons.mp (I.ff b z)).elim hL hb) hc) (λb o _ _ hc e n=>u.any e n hc) (λb o hc e n=>u.free b o e n hc) (λb o hc e=>u.there b o e hc) u.tups u.frzs u.tbls (λm' hm=>by
  obtain⟨o',es',ep',ho',r'⟩:=hm
  rw [ho] at ho';cases ho'
  exact⟨_,es',ep',hL,r'⟩) hok hg
theorem Inv.turned {t':Nat} {it:Addr} (I:Inv X pins σ H s) (k:∀ b o,b≠it->s.heap.get? b=some o->h'.get? b=some o) (hn:H it=none) (hL:it≠X.env.locals)
  (h1:it∈X.ex∨X.s₀.heap.objs.size<=it) (h2:∀ x c,X.env.cells.lookup x=some c->c≠it) (h3:∀ p∈X.pn++pins,p.1≠it):Inv X pins σ H { s with heap:=h',toks:=t' }:=by
 have nit:∀ b u,H b=some u->b≠it:=λb u e z=>by rw [z,hn] at e;cases e
 refine I.step (g':=s.gens) (d':=s.drawn) (ch:=[it]) (λb hb=>?_) (λb o _ _ hc e _=>k b o (λz=>hc (by simp [z])) e) (λb o _ _ hc e _=>⟨o.slots,k b o (λz=>hc (by simp [z])) e⟩) (λ_ _ _ _ n=>n)
  (λb o hc e=>⟨o,k b o (λz=>hc (by simp [z])) e⟩) (λ_ _ e=>e) (λ_ _ _ e=>e) (λb ps e=>⟨#[],by rw [e];simp⟩) (λm hm=>?_) (λb u e=>?_) I.bare
 ·have e:b=it:=by simpa using hb
  subst e
  exact⟨h1,hL,h2,h3⟩
 ·obtain⟨o,es,ep,ho,r⟩:=hm
  exact⟨o,es,ep,k _ o (Ne.symm hL) ho,r⟩
 ·refine (I.hok b u e).jj (λc v hc q=>k c v ?_ q) (λ_ q=>q) λ_ _ q=>q
  rcases hc with z | z
  ·rw [z];exact nit b u e
  ·exact nit c _ z
theorem Inv.tok (I:Inv X pins σ H s) (t:Nat):Inv X pins σ H { s with toks:=t }:=I.un (h':=s.heap) (t':=t) Un.refl I.hok
theorem Inv.kept {t':Nat} (I:Inv X pins σ H s) (k:∀ b u,s.heap.get? b=some u->h'.get? b=some u):Inv X pins σ H { s with heap:=h',toks:=t' }:=I.un (Un.kept k) (I.hok.kept k)
theorem Inv.laid {a:Addr} {o:HO} {t':Nat} (I:Inv X pins σ H s) (k:∀ b u,s.heap.get? b=some u->h'.get? b=some u) (hp:s.heap.objs.size<=a) (new:aZ X.prog X.w (upd H a o) h' a o) :
  Inv X pins σ (upd H a o) { s with heap:=h',toks:=t' }:=I.un (Un.laid k hp (I.hok.fresh hp)) (I.hok.laid k hp new)
theorem Inv.write {x e:Addr} {o:HO} {t':Nat} (I:Inv X pins σ H s) (mu:xM (H x)) (he:e=x∨H e=some (.own x)) (k:∀ b u,b≠e->s.heap.get? b=some u->h'.get? b=some u) (heo:∃ u,h'.get? e=some u)
  (new:aZ X.prog X.w (upd H x o) h' x o):Inv X pins σ (upd H x o) { s with heap:=h',toks:=t' }:=I.un (Un.write mu he k heo) (I.hok.write mu he k heo new)
theorem Inv.weak {σ':List (Option V)} (I:Inv X pins σ H s) (hl:σ'.length=σ.length) (w:∀(i:Nat) v,σ'[i]?=some (some v)->σ[i]?=some (some v)):Inv X pins σ' H s :=
 ⟨I.ok,I.os,I.bare,I.base,let ⟨m,hn,hl'⟩:=I.loc;⟨m,hn,λi x v e1 e2 e3=>hl' i x v e1 (w i v e2) e3⟩,I.cell,I.free,I.freeC,I.pin,I.hok,hl.trans I.len⟩
theorem Inv.iB {pins':List (Addr × Obj)} (I:Inv X pins σ H s) (h:∀ p∈pins',s.heap.get? p.1=some p.2/\H p.1=none/\p.1≠X.env.locals/\p.1∉X.fs/\∀ v,p.2.data≠.cell v):Inv X pins' σ H s :=
 ⟨I.ok,I.os,I.bare,I.base,I.loc,I.cell,I.free,I.freeC,λp hp=>(List.mem_append.mp hp).elim (λz=>I.pin p (List.mem_append_left _ z)) (h p),I.hok,I.len⟩
theorem lT {N:List Str} (hN:N.Nodup) {i j:Nat} {x:Str} (a:N[i]?=some x) (b:N[j]?=some x):i=j:=by
 obtain⟨h1,e1⟩:=List.getElem?_eq_some_iff.mp a
 obtain⟨h2,e2⟩:=List.getElem?_eq_some_iff.mp b
 exact (List.getElem_inj hN).mp (e1.trans e2.symm)
theorem qv {M:Model} {A:Around} {E:Value->Shared->Prop} {i:Nat} {x:Str} {v:V} {u:Value} {Q:Unit->Shared->Prop} (I:Inv X pins σ H s) (hN:X.N.Nodup) (hi:X.N[i]?=some x) (hx:Loc X.env.scope x) (r:RelV v u)
  (h:∀ s',Inv X pins (σ.set i (some v)) H s'->(∃ a,Heap.SameBut a s.heap s'.heap/\(a=X.env.locals∨X.env.cells.lookup x=some a))->Q () s') (hf:X.fn x=true∨X.env.scope.names.lookup x=some .local:=by first | exact .inl rfl | exact .inr rfl | assumption):wpAny M A (storeName X.env x u) Q E s:=by
 obtain⟨m,hn,hl⟩:=id I.loc
 have hcls:(X.env.scope.kind==.class || (X.env.scope.kind==.module && X.env.locals != X.env.globals))=false:=by rw [I.ok.kind];rfl
 have hiσ:i<σ.length:=by rw [I.len];exact (List.getElem?_eq_some_iff.mp hi).1
 have v7:=I.v7
 have tracked:∀{a:Addr} {h':Heap},(∃ o,s.heap.get? a=some o/\H a=none)->Heap.SameBut a s.heap h'->eP X.prog X.w H h':=λ{a h'} ha hs b ob e=>by
  obtain⟨_,_,hfree⟩:=ha
  refine (I.hok b ob e).jj (λc w' hc q=>(hs.2 c ?_).trans q) (λ_ q=>q) λ_ _ q=>q
  rintro rfl
  rcases hc with rfl | hc
  ·rw [hfree] at e;cases e
  ·rw [hfree] at hc;cases hc
 rcases hx with hk | hk
 ·refine wpAny_storeName_local hk hn (λh' hn' hs=>?_) hcls
  obtain⟨oL,_,_,hoL,_⟩:=id hn
  refine h _ ⟨I.ok,I.os,I.bare,⟨λb o e n hb hx=>?_,λb o e n hb hx=>?_,I.base.free,λb o e hx=>?_,I.base.tups,I.base.frzs,I.base.tbls⟩,⟨_,hn',λj y v' e1 e2 e3=>?_⟩,λy c e=>?_,I.free,I.freeC,λp hp=>?_,tracked ⟨oL,hoL,I.free⟩ hs,by simpa using I.len⟩ ⟨_,hs,.inl rfl⟩
  ·exact (hs.2 b (Nat.ne_of_lt (Nat.lt_of_lt_of_le (Heap.lt_size e) I.ok.above))).trans (I.base.keep b o e n hb hx)
  ·obtain⟨sl,e1⟩:=I.base.slot b o e n hb hx
   exact⟨sl,(hs.2 b (Nat.ne_of_lt (Nat.lt_of_lt_of_le (Heap.lt_size e) I.ok.above))).trans e1⟩
  ·obtain⟨o',e1⟩:=I.base.there b o e hx
   exact⟨o',(hs.2 b (Nat.ne_of_lt (Nat.lt_of_lt_of_le (Heap.lt_size e) I.ok.above))).trans e1⟩
  ·by_cases hj:j=i
   ·subst hj
    rw [hi] at e1;cases e1
    rw [List.getElem?_set_self hiσ] at e2
    cases e2
    exact⟨u,r,.inl ⟨hk,by simp⟩⟩
   ·rw [List.getElem?_set_ne (Ne.symm hj)] at e2
    obtain⟨u',r',q⟩:=hl j y v' e1 e2 e3
    refine⟨u',r',?_⟩
    rcases q with⟨k,e⟩|⟨k,c,e,z⟩
    ·refine .inl ⟨k,?_⟩
     have:y≠x:=λe=>hj (lT hN e1 (e▸hi))
     simp [this,e]
    ·exact .inr ⟨k,c,e,z.sameBut hs (v7 y c e)⟩
  ·obtain⟨w',z⟩:=I.cell y c e
   exact⟨w',z.sameBut hs (v7 y c e)⟩
  ·obtain⟨e,n,ne,nf,d⟩:=I.pin p hp
   exact⟨(hs.2 p.1 ne).trans e,n,ne,nf,d⟩
 ·have hfn:X.fn x=true:=by
   rcases hf with z | z
   ·exact z
   ·rw [z] at hk;cases hk
  obtain⟨c,hc⟩:=I.ok.has x (.inl hk)
  obtain⟨w',z⟩:=I.cell x c hc
  refine wpAny_storeName_cell I.ok.kind hk hc z (λh' hc' hs=>?_)
  obtain⟨oc,hoc,hocd⟩:=id z
  refine h { s with heap:=h' } ⟨I.ok,I.os,I.bare,⟨λb o e n hb hx=>?_,λb o e n hb hx=>?_,I.base.free,λb o e hx=>?_,I.base.tups,I.base.frzs,I.base.tbls⟩,⟨m,hn.sameBut hs (Ne.symm (v7 x c hc)),λj y v' e1 e2 e3=>?_⟩,λy c' e=>?_,I.free,I.freeC,λp hp=>?_,tracked ⟨oc,hoc,I.freeC x c hc⟩ hs,by simpa using I.len⟩ ⟨c,hs,.inr hc⟩
  ·exact (hs.2 b (Nat.ne_of_lt (Nat.lt_of_lt_of_le (Heap.lt_size e) (I.ok.cab x c hfn hc)))).trans (I.base.keep b o e n hb hx)
  ·obtain⟨sl,e1⟩:=I.base.slot b o e n hb hx
   exact⟨sl,(hs.2 b (Nat.ne_of_lt (Nat.lt_of_lt_of_le (Heap.lt_size e) (I.ok.cab x c hfn hc)))).trans e1⟩
  ·obtain⟨o',e1⟩:=I.base.there b o e hx
   exact⟨o',(hs.2 b (Nat.ne_of_lt (Nat.lt_of_lt_of_le (Heap.lt_size e) (I.ok.cab x c hfn hc)))).trans e1⟩
  ·by_cases hj:j=i
   ·subst hj
    rw [hi] at e1;cases e1
    rw [List.getElem?_set_self hiσ] at e2
    cases e2
    exact⟨u,r,.inr ⟨.inl hk,c,hc,hc'⟩⟩
   ·rw [List.getElem?_set_ne (Ne.symm hj)] at e2
    obtain⟨u',r',q⟩:=hl j y v' e1 e2 e3
    refine⟨u',r',?_⟩
    rcases q with q | ⟨k,c',e,z'⟩
    ·exact .inl q
    ·refine .inr ⟨k,c',e,z'.sameBut hs ?_⟩
     rintro rfl
     exact hj (lT hN e1 (I.ok.inj _ _ _ e hc▸hi))
  ·by_cases hcc:c'=c
   ·subst hcc;exact⟨_,hc'⟩
   ·obtain⟨w2,z2⟩:=I.cell y c' e
    exact⟨w2,z2.sameBut hs hcc⟩
  ·obtain⟨e,n,ne,nf,d⟩:=I.pin p hp
   refine⟨(hs.2 p.1 ?_).trans e,n,ne,nf,d⟩
   intro q
   rw [q,hoc] at e
   have q':oc=p.2:=Option.some.inj e
   exact d w' (by rw [<- q'];exact hocd)
theorem cQ {M:Model} {A:Around} {E:Value->Shared->Prop} {i:Nat} {x:Str} {v:V} {u:Value} {Q:Unit->Shared->Prop} (I:Inv X pins σ H s) (hN:X.N.Nodup) (hi:X.N[i]?=some x) (hx:Loc X.env.scope x) (r:RelV v u)
  (h:∀ s',Inv X pins (σ.set i (some v)) H s'->Q () s') (hf:X.fn x=true∨X.env.scope.names.lookup x=some .local:=by first | exact .inl rfl | exact .inr rfl | assumption):wpAny M A (storeName X.env x u) Q E s :=
 qv I hN hi hx r (λs' I' _=>h s' I') hf
theorem Inv.xP {s':Shared} {ch:List Addr} (I:Inv X pins σ H s) (ho:s'.os=s.os) (u:Un (fx X.stack) ch H H' s.heap s'.heap) (hok:eP X.prog X.w H' s'.heap) (hg:AllBare s'.gens)
  (hch:∀ b∈ch,(b∈X.ex∨X.s₀.heap.objs.size<=b)/\b≠X.env.locals/\(∀ x c,X.env.cells.lookup x=some c->c≠b)/\∀ p∈X.pn++pins,p.1≠b):Inv X pins σ H' s':=by
 obtain⟨h',g',d',t',o'⟩:=s'
 have e:o'=s.os:=ho
 subst e
 exact I.call (g':=g') (t':=t') (d':=d') u hok hg hch
end
abbrev XK:=Value->Option Addr->Hp->Prop
abbrev St:=List (Option V)
abbrev VK:=V->Hp->Prop
abbrev TE:=St->Hp->VK->Prop
abbrev TT:=St->Hp->(Bool->Hp->Prop)->Prop
abbrev TA:=St->Hp->(List V->Hp->Prop)->Prop
structure Ends where
 nx:St->Hp->Prop
 rt:VK
 bk:St->Hp->Prop:=λ_ _=>False
 ct:St->Hp->Prop:=λ_ _=>False
abbrev TS:=Ends->St->Hp->Prop
def EP (X:Cx) (pins:List (Addr × Obj)) (σ:St) (Q:VK) (u:Value) (s':Shared):Prop:=∃ v H',Inv X pins σ H' s'/\RelV v u/\Q v H'
def TP (X:Cx) (pins:List (Addr × Obj)) (σ:St) (Q:Bool->Hp->Prop) (b:Bool) (s':Shared):Prop:=∃ H',Inv X pins σ H' s'/\Q b H'
def AP (X:Cx) (pins:List (Addr × Obj)) (σ:St) (Q:List V->Hp->Prop) (us:List Value) (s':Shared):Prop:=∃ vs H',Inv X pins σ H' s'/\Vals vs us/\Q vs H'
def SP (X:Cx) (pins:List (Addr × Obj)) (D:Ends) (f:Flow) (s':Shared):Prop :=
 match f with
 | .next=>∃ σ' H',Inv X pins σ' H' s'/\D.nx σ' H'
 | .brk=>∃ σ' H',Inv X pins σ' H' s'/\D.bk σ' H'
 | .cont=>∃ σ' H',Inv X pins σ' H' s'/\D.ct σ' H'
 | .ret u=>∃ v σ' H',Inv X pins σ' H' s'/\RelV v u/\D.rt v H'
def PE (X:Cx) (e:Expr) (t:TE):Prop :=
 ∀(pins:List (Addr × Obj)) (s:Shared) (σ:St) (H:Hp) (Q:VK),Inv X pins σ H s->t σ H Q->wpAny (model X.prog X.w) X.A (eval e X.env) (EP X pins σ Q) X.xe s
def PT (X:Cx) (e:Expr) (t:TT):Prop :=
 ∀(pins:List (Addr × Obj)) (s:Shared) (σ:St) (H:Hp) (Q:Bool->Hp->Prop),Inv X pins σ H s->t σ H Q->wpAny (model X.prog X.w) X.A (isTrue e X.env (eval e X.env)) (TP X pins σ Q) X.xe s
def PW (X:Cx) (e:Expr) (t:TT):Prop :=
 ∀(whole:Sem Value) (pins:List (Addr × Obj)) (s:Shared) (σ:St) (H:Hp) (Q:Bool->Hp->Prop),Inv X pins σ H s->t σ H Q->wpAny (model X.prog X.w) X.A (isTrue e X.env whole) (TP X pins σ Q) X.xe s
theorem PW.pt {X:Cx} {e:Expr} {t:TT} (h:PW X e t):PT X e t:=h _
def PA (X:Cx) (es:List Expr) (t:TA):Prop :=
 ∀(pos:Pos) (pins:List (Addr × Obj)) (s:Shared) (σ:St) (H:Hp) (Q:List V->Hp->Prop),Inv X pins σ H s->t σ H Q->wpAny (model X.prog X.w) X.A (spliced (backTo pos (starEach es X.env))) (AP X pins σ Q) X.xe s
def PS (X:Cx) (st:Stmt) (t:TS):Prop :=
 ∀(pins:List (Addr × Obj)) (s:Shared) (σ:St) (H:Hp) (D:Ends),Inv X pins σ H s->t D σ H->wpAny (model X.prog X.w) X.A (exec st X.env) (SP X pins D) X.xe s
def ix (X:Cx) (st:List Stmt) (t:TS):Prop :=
 ∀(pins:List (Addr × Obj)) (s:Shared) (σ:St) (H:Hp) (D:Ends),Inv X pins σ H s->t D σ H->wpAny (model X.prog X.w) X.A (execs st X.env) (SP X pins D) X.xe s
theorem bH {α:Type} {t:Sem α} {Q Q':α->Shared->Prop} {M:Model} {A:Around} {E:Value->Shared->Prop} {s:Shared} (h:wpAny M A t Q E s) (hQ:∀ a s,Q a s->Q' a s):wpAny M A t Q' E s:=wpAny_mono h hQ λ_ _ x=>x
section
variable {X:Cx}
def qw (i:Nat):TE:=λσ H Q=>∃ v,σ[i]?=some (some v)/\Q v H
def tC (v:V):TE:=λ_ H Q=>Q v H
theorem nL {i:Nat} {x:Str} {pos:Pos} (hN:X.N[i]?=some x) (hv:xE X.env.scope x) (hd:(x==("__debug__":Str))=false:=by decide) (hcd:(x==("__classdict__":Str))=false:=by decide):PE X (.Name x pos) (qw i):=by
 intro pins s σ H Q I h
 obtain⟨v,e,h⟩:=h
 obtain⟨m,hn,hl⟩:=I.loc
 obtain⟨u,r,l⟩:=hl i x v hN e hv
 have fin:EP X pins σ Q u s:=⟨v,H,I,r,h⟩
 rcases l with⟨hk,hm⟩|⟨hk,c,hc,hcell⟩
 ·exact wpAny_Name (wpAny_loadName_local I.ok.kind hk hn hm fin) hd
 ·rcases hk with hk | hk
  ·exact wpAny_Name (wpAny_loadName_cell I.ok.kind hk hc hcell fin) hd
  ·exact wpAny_Name (wpAny_loadName_free I.ok.kind hk hc hcell fin hcd) hd
theorem af {i j pos}:PE X (.Constant (.int i) j pos) (tC (.int i)):=λ_ _ _ H _ I h=>wpAny_Constant_int ⟨.int i,H,I.tok _,⟨_,rfl⟩,h⟩
theorem cH {b j pos}:PE X (.Constant (.bool b) j pos) (tC (.bl b)):=λ_ _ _ H _ I h=>Constant_bool ⟨.bl b,H,I,rfl,h⟩
theorem c9 {j pos}:PE X (.Constant .none j pos) (tC .bo):=λ_ _ _ H _ I h=>Constant_none ⟨.bo,H,I,rfl,h⟩
theorem a9 {x j pos}:PE X (.Constant (.str x) j pos) (tC (.str x)):=λ_ _ _ H _ I h=>Calls.Constant_str ⟨.str x,H,I.tok _,⟨_,rfl⟩,h⟩
def Gl (X:Cx) (x:Str):Prop:=X.env.kindOf x=some .globalImplicit
theorem iz {E:Value->Shared->Prop} {pins:List (Addr × Obj)} {s:Shared} {σ:St} {H:Hp} {x:Str} {u:Value} {pos:Pos} {Q:Value->Shared->Prop} (I:Inv X pins σ H s) (hg:Gl X x) (hm:X.mg x=some u) (h:Q u s)
  (hd:(x==("__debug__":Str))=false:=by decide):wpAny (model X.prog X.w) X.A (eval (.Name x pos) X.env) Q E s :=
 Calls.Name_function_global I.ok.kind hg (Calls.loadGlobal_global (by rw [I.ok.glob];exact I.mod.glob.keeps I.bk) hm h) hd
theorem iN {E:Value->Shared->Prop} {pins:List (Addr × Obj)} {s:Shared} {σ:St} {H:Hp} {x:Str} {u:Value} {pos:Pos} {Q:Value->Shared->Prop} (I:Inv X pins σ H s) (hg:Gl X x) (hm:X.mg x=none) (hv:bootBuiltins x=some u) (h:Q u s)
  (hn:x ≠ "__name__":=by decide) (hd:(x==("__debug__":Str))=false:=by decide):wpAny (model X.prog X.w) X.A (eval (.Name x pos) X.env) Q E s:=by
 obtain⟨mb,h1,h2⟩:=I.mod.blt
 exact Calls.Name_function_global I.ok.kind hg (Calls.loadGlobal_builtin (by rw [I.ok.glob];exact I.mod.glob.keeps I.bk) hm (by rw [I.ok.blt];exact h1.keeps I.bk) ((h2 x hn).trans hv) h) hd
theorem oG {x:Str} {v:V} {u:Value} {pos:Pos} (hg:Gl X x) (hm:X.mg x=some u) (r:RelV v u) (hd:(x==("__debug__":Str))=false:=by decide):PE X (.Name x pos) (tC v) :=
 λ_ _ _ H _ I h=>iz I hg hm ⟨v,H,I,r,h⟩ hd
theorem bz {x:Str} {v:V} {u:Value} {pos:Pos} (hg:Gl X x) (hm:X.mg x=none) (hv:bootBuiltins x=some u) (r:RelV v u) (hn:x ≠ "__name__":=by decide) (hd:(x==("__debug__":Str))=false:=by decide):PE X (.Name x pos) (tC v) :=
 λ_ _ _ H _ I h=>iN I hg hm hv ⟨v,H,I,r,h⟩ hn hd
variable {a b:Expr} {ta tb:TE} {pos:Pos}
def tB (t:TE):TT:=λσ H Q=>t σ H λx H1=>∃ c,x=.bl c/\Q c H1
variable {tA tB':TT} {rest:List Expr}
def yu (t u:TT):TT:=λσ H Q=>t σ H λc H1=>if c=true then u σ H1 Q else Q false H1
def z4 (t u:TT):TT:=λσ H Q=>t σ H λc H1=>if c=true then Q true H1 else u σ H1 Q
def yC (t:TT):TT:=λσ H Q=>t σ H λc H1=>Q (!c) H1
theorem cf (ha:PT X a tA):PW X (.BoolOp .And [a] pos) tA:=by
 intro wh pins s σ H Q I h
 refine isTrue_and (bH (ha pins s σ H Q I h) λc s1 e=>?_)
 cases c with
 | true=>exact isTrue_and_nil e
 | false=>exact e
theorem gO (ha:PT X a tA):PW X (.BoolOp .Or [a] pos) tA:=by
 intro wh pins s σ H Q I h
 refine isTrue_or (bH (ha pins s σ H Q I h) λc s1 e=>?_)
 cases c with
 | false=>exact isTrue_or_nil e
 | true=>exact e
theorem cn (ha:PT X a tA) (hb:PW X (.BoolOp .And (b::rest) pos) tB'):PW X (.BoolOp .And (a::b::rest) pos) (yu tA tB'):=by
 intro wh pins s σ H Q I h
 refine isTrue_and (bH (ha pins s σ H _ I h) λc s1 ⟨H1,I1,q1⟩=>?_)
 cases c with
 | true=>exact hb wh pins s1 σ H1 Q I1 q1
 | false=>exact⟨H1,I1,q1⟩
theorem iZ (ha:PT X a tA) (hb:PW X (.BoolOp .Or (b::rest) pos) tB'):PW X (.BoolOp .Or (a::b::rest) pos) (z4 tA tB'):=by
 intro wh pins s σ H Q I h
 refine isTrue_or (bH (ha pins s σ H _ I h) λc s1 ⟨H1,I1,q1⟩=>?_)
 cases c with
 | true=>exact⟨H1,I1,q1⟩
 | false=>exact hb wh pins s1 σ H1 Q I1 q1
theorem dO (ha:PT X a tA):PT X (.UnaryOp .Not a pos) (yC tA):=by
 intro pins s σ H Q I h
 exact isTrue_not (ha pins s σ H (λc H1=>Q (!c) H1) I h)
def vK (ta tb:TE):TE:=λσ H Q=>ta σ H λx H1=>∃ c,x=.bl c/\if c=true then tb σ H1 Q else Q (.bl false) H1
def zH (ta tb:TE):TE:=λσ H Q=>ta σ H λx H1=>∃ c,x=.bl c/\if c=true then Q (.bl true) H1 else tb σ H1 Q
def vP (ta:TE):TE:=λσ H Q=>ta σ H λx H1=>∃ c,x=.bl c/\Q (.bl (!c)) H1
theorem bX {op} {t:TE} (h:PE X a t):PE X (.BoolOp op [a] pos) t:=λpins s σ H Q I hw=>BoolOp_one (h pins s σ H Q I hw)
theorem bh (ha:PE X a ta) (hb:PE X (.BoolOp .And (b::rest) pos) tb):PE X (.BoolOp .And (a::b::rest) pos) (vK ta tb):=by
 intro pins s σ H Q I h
 refine BoolOp_and (bH (ha pins s σ H _ I h) λv s1 ⟨x,H1,I1,r1,q1⟩=>?_)
 obtain⟨c,rfl,q1⟩:=q1
 cases r1
 refine wpAny_truthy_bool ?_
 cases c with
 | true=>exact hb pins s1 σ H1 Q I1 q1
 | false=>exact⟨.bl false,H1,I1,rfl,q1⟩
theorem wU (ha:PE X a ta):PE X (.UnaryOp .Not a pos) (vP ta):=by
 intro pins s σ H Q I h
 refine UnaryOp_ (bH (ha pins s σ H _ I h) λv s1 ⟨x,H1,I1,r1,q1⟩=>?_)
 obtain⟨c,rfl,q1⟩:=q1
 cases r1
 exact not_of (wpAny_truthy_bool ⟨.bl (!c),H1,I1,rfl,q1⟩)
def zY (t:TT) (ta tb:TE):TE:=λσ H Q=>t σ H λc H1=>if c=true then ta σ H1 Q else tb σ H1 Q
theorem gh {c:Expr} (hc:PT X c tA) (ha:PE X a ta) (hb:PE X b tb):PE X (.IfExp c a b pos) (zY tA ta tb):=by
 intro pins s σ H Q I h
 refine wpAny_IfExp (bH (hc pins s σ H _ I h) λd s1 ⟨H1,I1,q1⟩=>?_)
 cases d with
 | true=>exact ha pins s1 σ H1 Q I1 q1
 | false=>exact hb pins s1 σ H1 Q I1 q1
end
def aT (K:PySem.W.Frag) (H:Hp) (a:Addr) (xs:List V):Prop :=
 Rd H a (.lst xs) ∨
  ∃(o:Obj) (its:Array Value) (n:Nat),K.lookup a=some o/\o.cls=.type "list"/\o.dict=none/\o.data=.seq its n/\its.size<=sizeLine/\Vals xs its.toList
def aQ (K:PySem.W.Frag) (H:Hp) (a:Addr) (xs:List V):Prop :=
 Rd H a (.tup xs) ∨
  ∃(o:Obj) (its:Array Value) (n:Nat),K.lookup a=some o/\o.cls=.type "tuple"/\o.data=.seq its n/\its.size<=sizeLine/\Vals xs its.toList
def zj:Value->Option V
 | .none=>some .bo
 | .bool b=>some (.bl b)
 | .int i _=>some (.int i)
 | .str x _=>some (.str x)
 | .bytes b _=>some (.byt b)
 | .float b _=>some (.flt b)
 | .ref a=>some (.ref a)
 | .type n=>some (.ty n)
 | _=>none
theorem RelV.abs {x:V} {u:Value} (r:RelV x u):zj u=some x:=by
 cases x with
 | bo=>cases r;rfl
 | bl _=>cases r;rfl
 | int _=>obtain⟨t,rfl⟩:=r;rfl
 | str _=>obtain⟨t,rfl⟩:=r;rfl
 | byt _=>obtain⟨t,rfl⟩:=r;rfl
 | flt _=>obtain⟨t,rfl⟩:=r;rfl
 | ref _=>cases r;rfl
 | ty _=>cases r;rfl
theorem RelV.inj {x y:V} {u:Value} (r:RelV x u) (q:RelV y u):x=y:=Option.some.inj (r.abs.symm.trans q.abs)
theorem Vals.inj:∀{xs ys:List V} {us:List Value},Vals xs us->Vals ys us->xs=ys
 | _,_,_,.nil,.nil=>rfl
 | _,_,_,.cons r t,.cons r' t'=>by rw [r.inj r',Vals.inj t t']
section
variable {X:Cx} {pins:List (Addr × Obj)} {σ:St} {H:Hp} {s:Shared} {a:Addr} {xs ys:List V}
theorem aT.of {K:PySem.W.Frag} (h:H a=some (.lst xs)):aT K H a xs:=.inl (.inl h)
theorem aQ.of {K:PySem.W.Frag} (h:H a=some (.tup xs)):aQ K H a xs:=.inl (.inl h)
theorem Inv.list (I:Inv X pins σ H s) (h:aT X.K H a xs):∃ its:List Value,Vals xs its/\PlainL s.heap a its.toArray/\xs.length<=sizeLine:=by
 rcases h with h | ⟨o,its,n,hk,hc,hd,hs,hz,r⟩
 ·obtain⟨z,its,n,r,e⟩:=h.ok I.hok
  exact⟨its,r,⟨_,n,e,rfl,rfl,rfl⟩,z⟩
 ·refine⟨its.toList,r,⟨o,n,I.fY a o hk,hc,hd,by simpa using hs⟩,?_⟩
  have e:=r.length
  simp only [Array.length_toList] at e
  omega
theorem Inv.tuple (I:Inv X pins σ H s) (h:aQ X.K H a xs):∃ its:List Value,Vals xs its/\IsTup s.heap a its.toArray/\xs.length<=sizeLine:=by
 rcases h with h | ⟨o,its,n,hk,hc,hs,hz,r⟩
 ·obtain⟨z,its,r,p⟩:=h.ok I.hok
  exact⟨its,r,p,z⟩
 ·refine⟨its.toList,r,⟨o,I.fY a o hk,hc,n,by simpa using hs⟩,?_⟩
  have e:=r.length
  simp only [Array.length_toList] at e
  omega
theorem Inv.lN (I:Inv X pins σ H s) (h:aT X.K H a xs) (h':aT X.K H a ys):xs=ys:=by
 obtain⟨its,r,⟨o,n,e,_,_,d⟩,_⟩:=I.list h
 obtain⟨its',r',⟨o',n',e',_,_,d'⟩,_⟩:=I.list h'
 rw [e] at e';cases e'
 rw [d] at d'
 injection d' with d1 _
 have:its=its':=by simpa using congrArg Array.toList d1
 subst this
 exact r.inj r'
theorem Inv.kf (I:Inv X pins σ H s) (h:aQ X.K H a xs) (h':aQ X.K H a ys):xs=ys:=by
 obtain⟨its,r,⟨o,e,_,n,d⟩,_⟩:=I.tuple h
 obtain⟨its',r',⟨o',e',_,n',d'⟩,_⟩:=I.tuple h'
 rw [e] at e';cases e'
 rw [d] at d'
 injection d' with d1 _
 have:its=its':=by simpa using congrArg Array.toList d1
 subst this
 exact r.inj r'
end
abbrev Cx.iw (X:Cx) (E:Value->Shared->Prop):Cx:={ X with xe:=E }
abbrev Cx.mL (X:Cx):Cx:=X.iw λ_ _=>False
theorem Cx.Ok.iw {X:Cx} (ok:X.Ok) (E:Value->Shared->Prop):(X.iw E).Ok :=
 ⟨ok.mod,ok.kind,ok.glob,ok.blt,ok.above,ok.inj,ok.has,ok.cab,ok.hd,ok.frames,ok.stk,ok.exf,ok.bs,ok.bsz,ok.noex,ok.exfs,ok.iq,ok.frf⟩
theorem Cx.Ok.dR {X:Cx} {E:Value->Shared->Prop} (ok:(X.iw E).Ok):X.Ok :=
 ⟨ok.mod,ok.kind,ok.glob,ok.blt,ok.above,ok.inj,ok.has,ok.cab,ok.hd,ok.frames,ok.stk,ok.exf,ok.bs,ok.bsz,ok.noex,ok.exfs,ok.iq,ok.frf⟩
section
variable {X:Cx} {pins:List (Addr × Obj)} {σ:St} {H:Hp} {s:Shared} {E:Value->Shared->Prop}
theorem Inv.iw (I:Inv X pins σ H s) (E:Value->Shared->Prop):Inv (X.iw E) pins σ H s:=⟨I.ok.iw E,I.os,I.bare,I.base,I.loc,I.cell,I.free,I.freeC,I.pin,I.hok,I.len⟩
theorem Inv.dR (I:Inv (X.iw E) pins σ H s):Inv X pins σ H s:=⟨I.ok.dR,I.os,I.bare,I.base,I.loc,I.cell,I.free,I.freeC,I.pin,I.hok,I.len⟩
theorem SP.dR {D:Ends} {f:Flow} {s':Shared} (h:SP (X.iw E) pins D f s'):SP X pins D f s':=by
 cases f with
 | next=>obtain⟨σ',H',I,q⟩:=h;exact⟨σ',H',I.dR,q⟩
 | brk=>obtain⟨σ',H',I,q⟩:=h;exact⟨σ',H',I.dR,q⟩
 | cont=>obtain⟨σ',H',I,q⟩:=h;exact⟨σ',H',I.dR,q⟩
 | ret u=>obtain⟨v,σ',H',I,r,q⟩:=h;exact⟨v,σ',H',I.dR,r,q⟩
theorem PE.mL {e:Expr} {t:TE} (h:PE X.mL e t):PE X e t:=λpins s σ H Q I hw =>
 wpAny_mono (h pins s σ H Q (I.iw _) hw) (λ_ _ ⟨v,H',I',r,q⟩=>⟨v,H',I'.dR,r,q⟩) λ_ _ z=>False.elim z
theorem PT.mL {e:Expr} {t:TT} (h:PT X.mL e t):PT X e t:=λpins s σ H Q I hw =>
 wpAny_mono (h pins s σ H Q (I.iw _) hw) (λ_ _ ⟨H',I',q⟩=>⟨H',I'.dR,q⟩) λ_ _ z=>False.elim z
theorem ix.mL {st:List Stmt} {t:TS} (h:ix X.mL st t):ix X st t:=λpins s σ H D I hw =>
 wpAny_mono (h pins s σ H D (I.iw _) hw) (λ_ _ q=>q.dR) λ_ _ z=>False.elim z
end
section
variable {X:Cx} {st:Stmt} {rest:List Stmt} {t u:TS} {e:Expr} {te:TE} {pos:Pos}
def vO:TS:=λD σ H=>D.nx σ H
def bL (t u:TS):TS:=λD σ H=>t { D with nx:=u D } σ H
theorem az:ix X [] vO:=λ_ _ σ H _ I h=>wpAny_execs_nil ⟨σ,H,I,h⟩
theorem ag (h1:PS X st t) (h2:ix X rest u):ix X (st::rest) (bL t u):=by
 intro pins s σ H D I h
 refine wpAny_execs_cons (bH (h1 pins s σ H { D with nx:=u D } I h) λf s1 q=>?_)
 cases f with
 | next =>
  obtain⟨σ',H',I',q⟩:=q
  exact h2 pins s1 σ' H' D I' q
 | ret v=>exact q
 | brk=>exact q
 | cont=>exact q
theorem ai (h1:PS X st t):ix X [st] t:=by
 intro pins s σ H D I h
 refine wpAny_execs_cons (bH (h1 pins s σ H D I h) λf s1 q=>?_)
 cases f with
 | next=>exact wpAny_execs_nil q
 | ret v=>exact q
 | brk=>exact q
 | cont=>exact q
theorem Inv.quiet {pins:List (Addr × Obj)} {σ:St} {H:Hp} {s:Shared} (I:Inv X pins σ H s):interactive X.env=false:=by simp [interactive,I.ok.kind]
def vN (te:TE):TS:=λD σ H=>te σ H λ_ H1=>D.nx σ H1
theorem kQ (he:PE X e te) (hs:swapsWith e none pos.line X.env=pure false:=by rfl):PS X (.Expr e pos) (vN te):=by
 intro pins s σ H D I h
 exact wpAny_Expr_any (bH (he pins s σ H _ I h) λv s1 ⟨x,H1,I1,r1,q1⟩=>⟨σ,H1,I1,q1⟩) I.quiet hs
def fy (te:TE):TS:=λD σ H=>te σ H D.rt
theorem ax (he:PE X e te):PS X (.Return (some e) pos) (fy te):=by
 intro pins s σ H D I h
 exact wpAny_Return_some (bH (he pins s σ H _ I h) λv s1 ⟨x,H1,I1,r1,q1⟩=>⟨x,σ,H1,I1,r1,q1⟩)
def yF:TS:=λD _ H=>D.rt .bo H
def yy (c:TT) (t u:TS):TS:=λD σ H=>c σ H λb H1=>if b=true then t D σ H1 else u D σ H1
theorem aL {c:Expr} {a b:List Stmt} {tc:TT} (hc:PT X c tc) (ha:ix X a t) (hb:ix X b u):PS X (.If c a b pos) (yy tc t u):=by
 intro pins s σ H D I h
 refine wpAny_If (bH (hc pins s σ H _ I h) λd s1 ⟨H1,I1,q1⟩=>?_)
 cases d with
 | true=>exact ha pins s1 σ H1 D I1 q1
 | false=>exact hb pins s1 σ H1 D I1 q1
end
abbrev TG:=V->St->Hp->(St->Hp->Prop)->Prop
abbrev u4:=List V->St->Hp->(St->Hp->Prop)->Prop
def PG (X:Cx) (target:Expr) (t:TG):Prop :=
 ∀(pins:List (Addr × Obj)) (s:Shared) (σ:St) (H:Hp) (v:V) (u:Value) (Q:St->Hp->Prop),Inv X pins σ H s->RelV v u->t v σ H Q ->
  wpAny (model X.prog X.w) X.A (assign target X.env u) (λ_ s'=>∃ σ' H',Inv X pins σ' H' s'/\Q σ' H') X.xe s
def xO (X:Cx) (ts:List Expr) (t:u4):Prop :=
 ∀(pins:List (Addr × Obj)) (s:Shared) (σ:St) (H:Hp) (vs:List V) (us:List Value) (Q:St->Hp->Prop),Inv X pins σ H s->Vals vs us->t vs σ H Q ->
  wpAny (model X.prog X.w) X.A (assignInOrder ((assignEach ts X.env).map (·.2)) us) (λ_ s'=>∃ σ' H',Inv X pins σ' H' s'/\Q σ' H') X.xe s
abbrev y9:=V->V->V->Hp->(Hp->Prop)->Prop
abbrev y8:=V->V->Hp->VK->Prop
def zQ (X:Cx) (op:Operator) (t:y8):Prop :=
 ∀(pins:List (Addr × Obj)) (s:Shared) (σ:St) (H:Hp) (x y:V) (v u:Value) (Q:VK),Inv X pins σ H s->RelV x v->RelV y u->t x y H Q ->
  wpAny (model X.prog X.w) X.A (inplaceOp op v u) (EP X pins σ Q) X.xe s
section
variable {X:Cx} {pos:Pos}
def dU (i:Nat):TG:=λv σ H Q=>Q (σ.set i (some v)) H
theorem aE {i:Nat} {x:Str} (hN:X.N.Nodup) (hi:X.N[i]?=some x) (hx:Loc X.env.scope x) (hf:X.fn x=true∨X.env.scope.names.lookup x=some .local:=by first | exact .inl rfl | exact .inr rfl | assumption):PG X (.Name x pos) (dU i):=by
 intro pins s σ H v u Q I r h
 exact wpAny_assign_Name (cQ I hN hi hx r (λs' I'=>⟨_,H,I',h⟩) hf)
def wd:u4:=λvs σ H Q=>vs=[]/\Q σ H
def ot (t:TG) (u:u4):u4:=λvs σ H Q=>∃ v r,vs=v::r/\t v σ H λσ' H'=>u r σ' H' Q
theorem cE:xO X [] wd:=by
 intro pins s σ H vs us Q I r h
 obtain⟨e,h⟩:=h
 subst e
 cases r
 exact assignInOrder_nil ⟨σ,H,I,h⟩
theorem aJ {e:Expr} {es:List Expr} {t:TG} {u:u4} (h1:PG X e t) (h2:xO X es u)
  (hs:(assignEach (e::es) X.env).map (·.2)=assign e X.env::(assignEach es X.env).map (·.2):=by rfl):xO X (e::es) (ot t u):=by
 intro pins s σ H vs us Q I r h
 obtain⟨v,vr,e1,h⟩:=h
 subst e1
 cases r with
 | cons r rr =>
  rw [hs]
  refine assignInOrder_cons (bH (h1 pins s σ H _ _ _ I r h) λ_ s1 ⟨σ1,H1,I1,q1⟩=>?_)
  exact h2 pins s1 σ1 H1 _ _ Q I1 rr q1
def pH (K:PySem.W.Frag) (n:Nat) (t:u4):TG:=λv σ H Q=>∃ a xs,v=.ref a/\aQ K H a xs/\xs.length=n/\t xs σ H Q
theorem eF {es:List Expr} {k:Nat} {t:u4} {n:Nat} (hc:X.calm=true) (h:xO X es t)
  (hn:(assignEach es X.env).length=n:=by rfl) (hst:(assignEach es X.env).findIdx? (·.1)=none:=by rfl):PG X (.Tuple es k pos) (pH X.K n t):=by
 intro pins s σ H v u Q I r hw
 obtain⟨a,xs,e1,hq,hl,hw⟩:=hw
 subst e1
 cases r
 obtain⟨its,rv,ht,hz⟩:=I.tuple hq
 refine assign_Tuple_tuple (I.ok.hd hc) ht (by simp [hn,<- hl,rv.length]) hst λh' hx=>?_
 have I1:Inv X pins σ H { s with heap:=h' }:=I.kept (t':=s.toks) λb o e=>hx b o (Nat.ne_of_lt (Heap.lt_size e)) e
 exact h pins _ σ H xs _ Q I1 (by simpa using rv) hw
def zk (to ti:TE) (t:y9):TG:=λv σ H Q=>to σ H λo H1=>ti σ H1 λi H2=>t o i v H2 λH3=>Q σ H3
def uQ (te:TE) (g:TG):TS:=λD σ H=>te σ H λx H1=>g x σ H1 D.nx
theorem eT {tg e:Expr} {te:TE} {g:TG} (he:PE X e te) (hg:PG X tg g) (hs:swapsWithSole [tg] e pos.line X.env=pure false:=by rfl) (hw:swappedStores [tg] e X.env=pure none:=by rfl)
  (h1:(assignEach [tg] X.env).map (·.2)=[assign tg X.env]:=by rfl):PS X (.Assign [tg] e pos) (uQ te g):=by
 intro pins s σ H D I h
 refine wpAny_Assign_stores (bH (he pins s σ H _ I h) λv s1 ⟨x,H1,I1,r1,q1⟩=>?_) hs hw
 rw [h1]
 exact bH (hg pins s1 σ H1 x v _ I1 r1 q1) λ_ s2 q=>q
theorem cT {i:Nat} {x:Str} {e:Expr} {te:TE} {pos':Pos} (hN:X.N.Nodup) (hi:X.N[i]?=some x) (hx:Loc X.env.scope x) (he:PE X e te) (hs:swapsWith e (some (.Name x pos')) pos.line X.env=pure false:=by rfl) (hf:X.fn x=true∨X.env.scope.names.lookup x=some .local:=by first | exact .inl rfl | exact .inr rfl | assumption) :
  PS X (.Assign [.Name x pos'] e pos) (uQ te (dU i)):=by
 intro pins s σ H D I h
 refine wpAny_Assign_Name (bH (he pins s σ H _ I h) λv s1 ⟨y,H1,I1,r1,q1⟩=>?_) hs
 exact cQ I1 hN hi hx r1 (λs2 I2=>⟨_,H1,I2,q1⟩) hf
def yE (i j:Nat) (ta:TA):TS:=λD σ H=>ta σ H λvs H1=>∃ v w,vs=[v,w]/\D.nx ((σ.set i (some v)).set j (some w)) H1
theorem iY {i j:Nat} {x y:Str} {a b:Expr} {ta:TA} {px py pt:Pos} {kt k2 pt2} (hc:X.calm=true) (hN:X.N.Nodup) (hi:X.N[i]?=some x) (hj:X.N[j]?=some y) (hij:i≠j)
  (hx:X.env.scope.names.lookup x=some .local) (hy:X.env.scope.names.lookup y=some .local) (ha:PA X [a,b] ta)
  (hw:swappedStores [.Tuple [.Name x px,.Name y py] kt pt] (.Tuple [a,b] k2 pt2) X.env=pure (some [x,y]))
  (hs:swapsWithSole [.Tuple [.Name x px,.Name y py] kt pt] (.Tuple [a,b] k2 pt2) pos.line X.env=pure false:=by rfl) :
  PS X (.Assign [.Tuple [.Name x px,.Name y py] kt pt] (.Tuple [a,b] k2 pt2) pos) (yE i j ta):=by
 intro pins s σ H D I h
 rw [exec_Assign_arm]
 refine wpAny_bind (wpAny_standAt ?_)
 rw [hs]
 refine wpAny_bind (wpAny_pure ?_)
 rw [if_neg (by decide)]
 refine wpAny_bind (Tuple_ (bH (ha _ pins s σ H _ I h) λus s1 ⟨vs,H1,I1,r1,q1⟩=>?_))
 obtain⟨v,w,e1,q1⟩:=q1
 subst e1
 obtain⟨u1,u2,rfl,rv,rw'⟩:∃ u1 u2,us=[u1,u2]/\RelV v u1/\RelV w u2:=by
  cases r1 with
  | cons p q =>
   cases q with
   | cons p' q' =>
    cases q'
    exact⟨_,_,rfl,p,p'⟩
 refine wpAny_newObj_type ?_ (by show 2<=sizeLine;decide)
 have I2:Inv X pins σ H1 { s1 with heap:=s1.heap.push { cls:=.type "tuple",data:=.seq [u1,u2].toArray } }:=I1.kept (t':=s1.toks) λb o e=>Heap.get?_push_of_some _ e
 rw [hw]
 refine wpAny_bind (wpAny_pure ?_)
 show wpAny (model X.prog X.w) X.A (do rule "assign.swapped-stores";let items <- unpackItems (.ref s1.heap.objs.size) 2 none;assignInOrder [λv=>bindName X.env y v,λv=>bindName X.env x v] items.reverse;pure Flow.next) _ _ _
 refine wpAny_bind (wpAny_rule (wpAny_bind (unpackItems_tuple (items:=#[u1,u2]) (I.ok.hd hc) (IsTup.new s1.heap _) λh' hx'=>?_)))
 have I3:=I2.kept (h':=h') (t':=s1.toks) λb o e=>hx' b o (Nat.ne_of_lt (Heap.lt_size e)) e
 show wpAny _ _ (assignInOrder [λv=>bindName X.env y v,λv=>bindName X.env x v] [u2,u1] >>= λ_=>pure Flow.next) _ _ _
 refine wpAny_bind (assignInOrder_cons (wpAny_bindName (cQ I3 hN hj (.inl hy) rw' (λs2 I4=>?_) (.inr hy))))
 refine assignInOrder_cons (wpAny_bindName (cQ I4 hN hi (.inl hx) rv (λs3 I5=>assignInOrder_nil (wpAny_pure ?_)) (.inr hx)))
 rw [List.set_comm _ _ (Ne.symm hij)] at I5
 exact⟨_,H1,I5,q1⟩
def yv (i:Nat) (te:TE) (ti:y8):TS:=λD σ H=>∃ x,σ[i]?=some (some x)/\te σ H λy H1=>ti x y H1 λz H2=>D.nx (σ.set i (some z)) H2
theorem eG {i:Nat} {x:Str} {e:Expr} {te:TE} {op:Operator} {ti:y8} {pos':Pos} (hN:X.N.Nodup) (hi:X.N[i]?=some x) (hx:Loc X.env.scope x) (he:PE X e te) (ho:zQ X op ti) (hf:X.fn x=true∨X.env.scope.names.lookup x=some .local:=by first | exact .inl rfl | exact .inr rfl | assumption) :
  PS X (.AugAssign (.Name x pos') op e pos) (yv i te ti):=by
 intro pins s σ H D I h
 obtain⟨v,e1,h⟩:=h
 obtain⟨m,hn,hl⟩:=I.loc
 have vis:xE X.env.scope x:=by rcases hx with k | k;exact .inl k;exact .inr (.inl k)
 obtain⟨u,r,l⟩:=hl i x v hi e1 vis
 refine wpAny_AugAssign_Name ?_
 have go:wpAny (model X.prog X.w) X.A (eval e X.env) (λw s₂=>wpAny (model X.prog X.w) X.A (inplaceOp op u w) (λr s₃=>wpAny (model X.prog X.w) X.A (storeName X.env x r) (λ_=>SP X pins D .next) X.xe s₃) X.xe s₂) X.xe s:=by
  refine bH (he pins s σ H _ I h) λw s1 ⟨y,H1,I1,r1,q1⟩=>?_
  refine bH (ho pins s1 σ H1 v y u w _ I1 r r1 q1) λz s2 ⟨zv,H2,I2,r2,q2⟩=>?_
  exact cQ I2 hN hi hx r2 (λs3 I3=>⟨_,H2,I3,q2⟩) hf
 rcases l with⟨hk,hm⟩|⟨hk,c,hc,hcell⟩
 ·exact wpAny_loadName_local I.ok.kind hk hn hm go
 ·rcases hk with hk | hk
  ·exact wpAny_loadName_cell I.ok.kind hk hc hcell go
  ·rcases hx with k | k
   ·have:X.env.scope.names.lookup x=some .free:=hk
    rw [k] at this;cases this
   ·have:X.env.scope.names.lookup x=some .free:=hk
    rw [k] at this;cases this
end
section
variable {X:Cx} {pos:Pos}
def sy (c:TT) (tb:TS):TS:=λD σ H=>∃ W:Nat->St->Hp->Prop,(∃ m,W m σ H)/\∀ m σ H,W m σ H ->
 c σ H λb H1=>if b=true then ∃ N:St->Hp->Prop,(∀ σ' H',N σ' H'->∃ m',m'<m/\W m' σ' H')/\tb { D with nx:=N,ct:=N,bk:=D.nx } σ H1 else D.nx σ H1
theorem ba {c:Expr} {body:List Stmt} {tc:TT} {tb:TS} (hp:PassesOwn (model X.prog X.w) X.A X.env X.xe) (hc:PT X c tc) (hb:ix X body tb):PS X (.While c body [] pos) (sy tc tb):=by
 intro pins s σ H D I h
 obtain⟨W,⟨m0,w0⟩,turn⟩:=h
 refine wpAny_While (codeAny_whileLoop (λn s'=>∃ σ' H',Inv X pins σ' H' s'/\W n σ' H') ?_ m0 ⟨σ,H,I,w0⟩)
 rintro n s1 ⟨σ1,H1,I1,w1⟩
 refine wpAny_passesOwn hp (bH (hc pins s1 σ1 H1 _ I1 (turn n σ1 H1 w1)) λb s2 ⟨H2,I2,q2⟩=>?_)
 cases b with
 | true =>
  obtain⟨N,hN,q2⟩:=q2
  rw [if_pos rfl]
  refine wpAny_passesOwn hp (bH (hb pins s2 σ1 H2 _ I2 q2) λf s3 q3=>?_)
  cases f with
  | next =>
   obtain⟨σ3,H3,I3,n3⟩:=q3
   obtain⟨m',hm,w3⟩:=hN σ3 H3 n3
   exact⟨m',hm,σ3,H3,I3,w3⟩
  | cont =>
   obtain⟨σ3,H3,I3,n3⟩:=q3
   obtain⟨m',hm,w3⟩:=hN σ3 H3 n3
   exact⟨m',hm,σ3,H3,I3,w3⟩
  | brk=>exact q3
  | ret v=>exact q3
 | false =>
  rw [if_neg Bool.false_ne_true]
  exact wpAny_execs_nil ⟨σ1,H2,I2,q2⟩
end
structure It where
 go:Nat->Hp->Prop
 yld:Nat->Hp->V->Hp->Prop
 stop:Nat->Hp->Prop
def kh (X:Cx) (pins:List (Addr × Obj)) (H:Hp) (b:Addr):Prop :=
 H b=none/\b≠X.env.locals/\b∉X.fs/\(b∈X.ex∨X.s₀.heap.objs.size<=b)/\(∀ x c,X.env.cells.lookup x=some c->c≠b)/\∀ p∈X.pn++pins,p.1≠b
theorem Inv.qU {X:Cx} {pins:List (Addr × Obj)} {σ:St} {H H':Hp} {s:Shared} {b:Addr} (I:Inv X pins σ H s) (hb:s.heap.objs.size<=b) (hn:H' b=none):kh X pins H' b:=by
 refine⟨hn,Nat.ne_of_gt (Nat.lt_of_lt_of_le I.lt hb),I.wB hb,.inr (Nat.le_trans I.sz hb),λx c e z=>?_,λp hp z=>?_⟩
 ·obtain⟨v,q⟩:=I.cell x c e
  exact absurd (Nat.lt_of_lt_of_le q.lt (by rw [z];exact hb)) (Nat.lt_irrefl _)
 ·exact absurd (Nat.lt_of_lt_of_le (Heap.lt_size (I.pin p hp).1) (by rw [z];exact hb)) (Nat.lt_irrefl _)
structure Turn (P:Program) (w:World) (K:PySem.W.Frag) (tg:Expr) (J:It) (fp:List Addr) (it:Addr) (tn:Nat->Heap->Prop):Prop where
 mem:it∈fp
 obj:∀ i h,tn i h->∀ b∈fp,∃ o,h.get? b=some o/\∀ v,o.data≠.cell v
 keep:∀ i h h',tn i h->(∀ b∈fp,∀ o,h.get? b=some o->h'.get? b=some o)->tn i h'
 item:∀(X:Cx),X.prog=P->X.w=w->X.K=K->X.calm=true->∀(i:Nat) (pins:List (Addr × Obj)) (s:Shared) (σ:St) (H:Hp) (E:Value->Shared->Prop),Inv X pins σ H s->(∀ b∈fp,kh X pins H b)->tn i s.heap->J.go i H ->
  wpAny (model P w) X.A (pyNext (.ref it)) (λr s1=>∃ u,r=some u /\
   wpAny (model P w) X.A (letOwnedTupleGo tg (.ref it) u) (λ_ s2=>∃ x H',Inv X pins σ H' s2/\RelV x u/\J.yld i H x H'/\tn (i+1) s2.heap/\∀ b∈fp,H' b=none) E s1) E s
 done:∀(X:Cx),X.prog=P->X.w=w->X.K=K->X.calm=true->∀(i:Nat) (pins:List (Addr × Obj)) (s:Shared) (σ:St) (H:Hp) (E:Value->Shared->Prop),Inv X pins σ H s->(∀ b∈fp,kh X pins H b)->tn i s.heap->J.stop i H ->
  wpAny (model P w) X.A (pyNext (.ref it)) (λr s1=>r=none/\Inv X pins σ H s1) E s
 self:∀(A:Around) (i:Nat) (s:Shared) (Q:Value->Shared->Prop) (E:Value->Shared->Prop),tn i s.heap->Q (.ref it) s->wpAny (model P w) A (pyIter (.ref it)) Q E s
abbrev TI:=St->Hp->(It->Hp->Prop)->Prop
def yM (X:Cx) (pins:List (Addr × Obj)) (σ:St) (tg:Expr) (R:It->Hp->Prop) (itv:Value) (s2:Shared):Prop :=
 ∃(it:Addr) (fp:List Addr) (tn:Nat->Heap->Prop) (J:It) (H':Hp),itv=.ref it/\Inv X pins σ H' s2/\Turn X.prog X.w X.K tg J fp it tn/\tn 0 s2.heap/\(∀ b∈fp,kh X pins H' b)/\R J H'
def PI (X:Cx) (tg iter:Expr) (wi:TI):Prop :=
 ∀(pins:List (Addr × Obj)) (s:Shared) (σ:St) (H:Hp) (R:It->Hp->Prop),Inv X pins σ H s->wi σ H R ->
  wpAny (model X.prog X.w) X.A (eval iter X.env) (λv s1=>wpAny (model X.prog X.w) X.A (pyIter v) (yM X pins σ tg R) X.xe s1) X.xe s
theorem qW {M:Model} {A:Around} {E:Value->Shared->Prop} {s:Shared} {tg:Expr} {it:Addr} {u:Value} {o:Obj} {n:String} {vs:Array Value} {Q:Unit->Shared->Prop} (ho:s.heap.get? it=some o) (hc:o.cls=.type n) (hd:o.data=.fields vs)
    (hn:["enumerate","zip","dict_itemiterator","dict_reverseitemiterator","odict_iterator","itertools.zip_longest","itertools.pairwise"].contains n=false) (hQ:Q () s):wpAny M A (letOwnedTupleGo tg (.ref it) u) Q E s:=by
  unfold letOwnedTupleGo
  cases tg<;>first
    | exact wpAny_pure hQ
    | (cases u<;>first
        | exact wpAny_pure hQ
        | (refine wpAny_bind (wpAny_load ho ?_)
           rw [hc,hd]
           show wpAny M A (if (["enumerate","zip","dict_itemiterator","dict_reverseitemiterator","odict_iterator","itertools.zip_longest","itertools.pairwise"].contains n && vs[0]?==some (rawInt _))=true then _ else _) Q E s
           rw [if_neg (by intro h;rw [hn,Bool.false_and] at h;cases h)]
           exact wpAny_pure hQ))
def yX (K:PySem.W.Frag) (a:Addr):It :=
 ⟨λi H=>∃ xs x,aT K H a xs/\xs[i]?=some x,λi H x H'=>H'=H/\∀ xs,aT K H a xs->xs[i]?=some x,λi H=>∃ xs,aT K H a xs/\xs.length<=i⟩
def vW (K:PySem.W.Frag) (a:Addr):It :=
 ⟨λi H=>∃ xs x,aQ K H a xs/\xs[i]?=some x,λi H x H'=>H'=H/\∀ xs,aQ K H a xs->xs[i]?=some x,λi H=>∃ xs,aQ K H a xs/\xs.length<=i⟩
def uY (lo:Int) (n:Nat):It:=⟨λi _=>i<n,λi H x H'=>H'=H/\x=.int (lo+i),λi _=>n<=i⟩
theorem qy {P:Program} {w:World} {K:PySem.W.Frag} {tg:Expr} (a it:Addr):Turn P w K tg (yX K a) [it] it (λi h=>h.IsListIter it a i) where
 mem:=by simp
 obj:=λi h st b hb=>by
  have e:b=it:=by simpa using hb
  subst e
  obtain⟨o,e,c,d⟩:=st
  exact⟨o,e,λv z=>by rw [d] at z;cases z⟩
 keep:=λi h h' st k=>st.at λo e=>k it (by simp) o e
 item:=by
  intro X hP hw hK hc i pins s σ H E I hf st hg
  subst hP hw hK
  obtain⟨xs,x,hq,hx⟩:=hg
  obtain⟨its,rv,p,hz⟩:=I.list hq
  obtain⟨u,hu,ru⟩:=rv.get hx
  obtain⟨f0,f1,f2,f3,f4,f5⟩:=hf it (by simp)
  refine wpAny_pyNext_list_item st p.isList (x:=u) (by simpa using hu) λh' st' sb=>?_
  have I1:Inv X pins σ H { s with heap:=h' }:=I.turned (t':=s.toks) (λb o hb e=>(sb.2 b hb).trans e) f0 f1 f3 f4 f5
  obtain⟨o,e,c,d⟩:=id st'
  exact⟨u,rfl,qW (s:={ s with heap:=h' }) e c d (by decide) ⟨x,H,I1,ru,⟨rfl,λys hy=>by rw [I.lN hy hq];exact hx⟩,st',λb hb=>(hf b hb).1⟩⟩
 done:=by
  intro X hP hw hK hc i pins s σ H E I hf st hg
  subst hP hw hK
  obtain⟨xs,hq,hx⟩:=hg
  obtain⟨its,rv,p,hz⟩:=I.list hq
  obtain⟨f0,f1,f2,f3,f4,f5⟩:=hf it (by simp)
  have hl:=rv.length
  exact wpAny_pyNext_list_end (I.ok.hd hc) st p.isList (by simp;omega) λh' eb=>⟨rfl,I.turned (t':=s.toks) (λb o hb e=>eb b o hb e) f0 f1 f3 f4 f5⟩
 self:=λ_ _ _ _ _ st h=>wpAny_pyIter_listiter st h
theorem nV {P:Program} {w:World} {K:PySem.W.Frag} {tg:Expr} (a it:Addr):Turn P w K tg (vW K a) [it] it (λi h=>h.IsTupleIter it a i) where
 mem:=by simp
 obj:=λi h st b hb=>by
  have e:b=it:=by simpa using hb
  subst e
  obtain⟨o,e,c,d⟩:=st
  exact⟨o,e,λv z=>by rw [d] at z;cases z⟩
 keep:=λi h h' st k=>st.at λo e=>k it (by simp) o e
 item:=by
  intro X hP hw hK hc i pins s σ H E I hf st hg
  subst hP hw hK
  obtain⟨xs,x,hq,hx⟩:=hg
  obtain⟨its,rv,p,hz⟩:=I.tuple hq
  obtain⟨u,hu,ru⟩:=rv.get hx
  obtain⟨f0,f1,f2,f3,f4,f5⟩:=hf it (by simp)
  refine wpAny_pyNext_tuple_item st (show s.heap.IsTuple a its.toArray from p) (x:=u) (by simpa using hu) λh' st' sb=>?_
  have I1:Inv X pins σ H { s with heap:=h' }:=I.turned (t':=s.toks) (λb o hb e=>(sb.2 b hb).trans e) f0 f1 f3 f4 f5
  obtain⟨o,e,c,d⟩:=id st'
  exact⟨u,rfl,qW (s:={ s with heap:=h' }) e c d (by decide) ⟨x,H,I1,ru,⟨rfl,λys hy=>by rw [I.kf hy hq];exact hx⟩,st',λb hb=>(hf b hb).1⟩⟩
 done:=by
  intro X hP hw hK hc i pins s σ H E I hf st hg
  subst hP hw hK
  obtain⟨xs,hq,hx⟩:=hg
  obtain⟨its,rv,p,hz⟩:=I.tuple hq
  obtain⟨f0,f1,f2,f3,f4,f5⟩:=hf it (by simp)
  have hl:=rv.length
  exact wpAny_pyNext_tuple_end (I.ok.hd hc) st (show s.heap.IsTuple a its.toArray from p) (by simp;omega) λh' eb=>⟨rfl,I.turned (t':=s.toks) (λb o hb e=>eb b o hb e) f0 f1 f3 f4 f5⟩
 self:=λ_ _ _ _ _ st h=>wpAny_pyIter_tupleiter st h
theorem nU {P:Program} {w:World} {K:PySem.W.Frag} {tg:Expr} (it:Addr) (lo:Int) (n:Nat):Turn P w K tg (uY lo n) [it] it (λi h=>IsRangeIter h it (lo+(i:Nat)*1) ((n:Int)-(i:Nat)) 1) where
 mem:=by simp
 obj:=λi h st b hb=>by
  have e:b=it:=by simpa using hb
  subst e
  exact⟨_,st,λv z=>by
   have z':Data.fields _=Data.cell v:=z
   cases z'⟩
 keep:=λi h h' st k=>k it (by simp) _ st
 item:=by
  intro X hP hw hK hc i pins s σ H E I hf st hg
  subst hP hw hK
  obtain⟨f0,f1,f2,f3,f4,f5⟩:=hf it (by simp)
  have W:=Walks.range (prog:=X.prog) (w:=X.w) (I.ok.hd hc) it lo 1 n
  refine W.item i s _ _ hg st λv h' tk hv st' kk=>?_
  obtain⟨t,rfl⟩:=hv
  have I1:Inv X pins σ H { s with heap:=h',toks:=tk }:=I.turned (λb o hb e=>kk b o (by simpa using hb) e) f0 f1 f3 f4 f5
  refine⟨_,rfl,qW (s:={ s with heap:=h',toks:=tk }) (n := "range_iterator") st' rfl rfl (by decide) ⟨.int (lo+i),H,I1,⟨t,?_⟩,⟨rfl,rfl⟩,st',λb hb=>(hf b hb).1⟩⟩
  rw [Int.mul_one]
 done:=by
  intro X hP hw hK hc i pins s σ H E I hf st hg
  subst hP hw hK
  obtain⟨f0,f1,f2,f3,f4,f5⟩:=hf it (by simp)
  exact wpAny_pyNext_range_end (I.ok.hd hc) st (by have:n<=i:=hg;omega) λh' eb=>⟨rfl,I.turned (t':=s.toks) (λb o hb e=>eb b o hb e) f0 f1 f3 f4 f5⟩
 self:=λ_ _ _ _ _ st h=>wpAny_pyIter_rangeiter st h
section
variable {X:Cx} {tg:Expr}
def vh (K:PySem.W.Frag) (tl:TE):TI:=λσ H R=>tl σ H λx H1=>∃ a,x=.ref a/\(∃ xs,aT K H1 a xs)/\R (yX K a) H1
def xY (K:PySem.W.Frag) (tl:TE):TI:=λσ H R=>tl σ H λx H1=>∃ a,x=.ref a/\(∃ xs,aQ K H1 a xs)/\R (vW K a) H1
theorem gi {l:Expr} {tl:TE} (hl:PE X l tl):PI X tg l (vh X.K tl):=by
 intro pins s σ H R I h
 refine bH (hl pins s σ H _ I h) λv s1 ⟨x,H1,I1,r1,q1⟩=>?_
 obtain⟨a,e,⟨xs,hq⟩,q⟩:=q1
 subst e
 cases r1
 obtain⟨its,rv,p,hz⟩:=I1.list hq
 refine wpAny_pyIter_list p.isList ?_
 refine⟨s1.heap.objs.size,[s1.heap.objs.size],_,_,H1,rfl,I1.kept (t':=s1.toks) λb o e=>Heap.get?_push_of_some _ e,qy a _,⟨_,Heap.get?_push_size _ rfl,rfl,rfl⟩,λb hb=>?_,q⟩
 have e:b=s1.heap.objs.size:=by simpa using hb
 subst e
 exact I1.qU (Nat.le_refl _) (I1.hok.fresh (Nat.le_refl _))
theorem iS {l:Expr} {tl:TE} (hl:PE X l tl):PI X tg l (xY X.K tl):=by
 intro pins s σ H R I h
 refine bH (hl pins s σ H _ I h) λv s1 ⟨x,H1,I1,r1,q1⟩=>?_
 obtain⟨a,e,⟨xs,hq⟩,q⟩:=q1
 subst e
 cases r1
 obtain⟨its,rv,p,hz⟩:=I1.tuple hq
 refine wpAny_pyIter_tuple (show s1.heap.IsTuple a its.toArray from p) ?_
 refine⟨s1.heap.objs.size,[s1.heap.objs.size],_,_,H1,rfl,I1.kept (t':=s1.toks) λb o e=>Heap.get?_push_of_some _ e,nV a _,⟨_,Heap.get?_push_size _ rfl,rfl,rfl⟩,λb hb=>?_,q⟩
 have e:b=s1.heap.objs.size:=by simpa using hb
 subst e
 exact I1.qU (Nat.le_refl _) (I1.hok.fresh (Nat.le_refl _))
theorem rT {pins:List (Addr × Obj)} {σ:St} {H:Hp} {s:Shared} {R:It->Hp->Prop} {E:Value->Shared->Prop} {lo hi:Int} {t u v:Tok} {tk:Nat} (I:Inv X pins σ H s) (h1:-(2^62)<=lo) (h2:lo<2^62) (h3:-(2^62)<=hi) (h4:hi<2^62)
  (q:R (uY lo (hi-lo).toNat) H):wpAny (model X.prog X.w) X.A (pyIter (.ref s.heap.objs.size)) (yM X pins σ tg R) E { s with heap:=s.heap.push { cls:=.type "range",data:=.fields #[.int lo t,.int hi u,.int 1 v] },toks:=tk }:=by
 refine wpAny_pyIter_range (IsRange.new ..) (small_one h1 h2 h3 h4) ?_
 have I1:Inv X pins σ H { s with heap:=s.heap.push { cls:=.type "range",data:=.fields #[.int lo t,.int hi u,.int 1 v] },toks:=tk }:=I.kept λb o e=>Heap.get?_push_of_some _ e
 refine⟨(s.heap.push { cls:=.type "range",data:=.fields #[.int lo t,.int hi u,.int 1 v] }).objs.size,[(s.heap.push { cls:=.type "range",data:=.fields #[.int lo t,.int hi u,.int 1 v] }).objs.size],_,_,H,rfl,
  I1.kept (t':=tk) λb o e=>Heap.get?_push_of_some _ e,nU _ lo (hi-lo).toNat,?_,λb hb=>?_,q⟩
 ·have e1:lo+((0:Nat):Int)*1=lo:=by simp
  have e2:(((hi-lo).toNat:Nat):Int)-((0:Nat):Int)=Builtin.Range.rangeSize lo hi 1:=by rw [rangeSize_one];split<;>omega
  show IsRangeIter _ _ (lo+((0:Nat):Int)*1) ((((hi-lo).toNat:Nat):Int)-((0:Nat):Int)) 1
  rw [e1,e2]
  exact Heap.get?_push_size _ rfl
 ·have e:b=(s.heap.push { cls:=.type "range",data:=.fields #[.int lo t,.int hi u,.int 1 v] }).objs.size:=by simpa using hb
  subst e
  exact I1.qU (Nat.le_refl _) (I1.hok.fresh (Nat.le_refl _))
def vi (ta:TA):TI:=λσ H R=>ta σ H λvs H1=>∃ j:Int,vs=[.int j] /\ -(2^62)<=j/\j<2^62/\R (uY 0 j.toNat) H1
def xW (ta:TA):TI:=λσ H R=>ta σ H λvs H1=>∃ i j:Int,vs=[.int i,.int j]/\(-(2^62)<=i/\i<2^62 /\ -(2^62)<=j/\j<2^62)/\R (uY i (j-i).toNat) H1
theorem qf {a:Expr} {ta:TA} {p pos:Pos} (hg:Gl X "range") (hm:X.mg "range"=none) (ha:PA X [a] ta) (hs:starEach [a] X.env=[(false,eval a X.env)]:=by rfl):PI X tg (.Call (.Name "range" p) [a] [] pos) (vi ta):=by
 intro pins s σ H R I h
 refine Call_ (iN I hg hm boot_range (PyProof.Rows.callWith_type1 (bH (ha pos pins s σ H _ I h) λus s1 ⟨vs,H1,I1,r1,q1⟩=>?_) hs rfl))
 obtain⟨j,e,q1,q2,q⟩:=q1
 subst e
 cases r1 with
 | cons r rr =>
  cases rr
  obtain⟨t,rfl⟩:=r
  exact call_range_1 (rT I1 (by omega) (by omega) q1 q2 (by simpa using q))
def yx (wi:TI) (g:TG) (tb:TS):TS:=λD σ H=>wi σ H λJ H1=>∃ W:Nat->Nat->St->Hp->Prop,(∃ m,W 0 m σ H1)/\∀ i m σ H,W i m σ H ->
 (J.stop i H/\D.nx σ H)∨(J.go i H/\∃ N:St->Hp->Prop,(∀ σ' H',N σ' H'->∃ m',m'<m/\W (i+1) m' σ' H')/\∀ x H',J.yld i H x H'->g x σ H' λσ2 H2=>tb { D with nx:=N,ct:=N,bk:=D.nx } σ2 H2)
def gN (fp:List Addr) (h:Heap):List (Addr × Obj):=fp.filterMap λb=>(h.get? b).map λo=>(b,o)
theorem eC {fp:List Addr} {h:Heap} {b:Addr} {o:Obj} (hb:b∈fp) (e:h.get? b=some o):(b,o)∈gN fp h:=List.mem_filterMap.mpr ⟨b,hb,by rw [e];rfl⟩
theorem jU {fp:List Addr} {h:Heap} {p:Addr × Obj} (hp:p∈gN fp h):p.1∈fp/\h.get? p.1=some p.2:=by
 obtain⟨b,hb,e⟩:=List.mem_filterMap.mp hp
 cases q:h.get? b with
 | none=>rw [q] at e;cases e
 | some o =>
  rw [q] at e
  have e':(b,o)=p:=Option.some.inj e
  subst e'
  exact⟨hb,q⟩
theorem Inv.pinned {pins:List (Addr × Obj)} {σ:St} {H:Hp} {s:Shared} {fp:List Addr} (I:Inv X pins σ H s) (hf:∀ b∈fp,kh X pins H b) (ho:∀ b∈fp,∃ o,s.heap.get? b=some o/\∀ v,o.data≠.cell v):Inv X (pins++gN fp s.heap) σ H s :=
 I.iB λp hp=>(List.mem_append.mp hp).elim (λz=>I.pin p (List.mem_append_right _ z)) λz=>by
  obtain⟨hb,e⟩:=jU z
  obtain⟨f0,f1,f2,_⟩:=hf p.1 hb
  obtain⟨o,e',d⟩:=ho p.1 hb
  rw [e] at e';cases e'
  exact⟨e,f0,f1,f2,d⟩
theorem Inv.gD {pins pl:List (Addr × Obj)} {σ:St} {H:Hp} {s:Shared} (I:Inv X (pins++pl) σ H s):Inv X pins σ H s:=I.iB λp hp=>I.pin p (List.mem_append_right _ (List.mem_append_left _ hp))
theorem nO {iter:Expr} {body:List Stmt} {wi:TI} {g:TG} {tb:TS} {pos:Pos} (hp:PassesOwn (model X.prog X.w) X.A X.env X.xe) (hc:X.calm=true) (hi:PI X tg iter wi) (hg:PG X tg g) (hb:ix X body tb)
  (hs:∀ x,foldedSetIterable iter X.env x=pure x:=by intro _;rfl):PS X (.For tg iter body [] pos) (yx wi g tb):=by
 intro pins s σ H D I h
 refine wpAny_For (bH (hi pins s σ H _ I h) λv s1 h1=>bH h1 λitv s2 h2=>?_) hs
 obtain⟨it,fp,tn,J,H2,e,I2,T,st2,f2,W,⟨m0,w0⟩,turn⟩:=h2
 subst e
 -- what stays true of the iterator's objects through the loop
 have stat:∀{H':Hp},(∀ b∈fp,H' b=none)->∀ b∈fp,kh X pins H' b:=λhn b hb=>⟨hn b hb,(f2 b hb).2⟩
 refine codeAny_forLoop_any (λn s'=>∃ i σ' H',Inv X pins σ' H' s'/\tn i s'.heap/\(∀ b∈fp,H' b=none)/\W i n σ' H') ?_ m0 ⟨0,σ,H2,I2,st2,λb hb=>(f2 b hb).1,w0⟩
 rintro n s3 ⟨i,σ3,H3,I3,st3,fr3,w3⟩
 rcases turn i n σ3 H3 w3 with⟨stop,qn⟩|⟨go,N,hN,step⟩
 ·refine wpAny_passesOwn hp (bH (T.done X rfl rfl rfl hc i pins s3 σ3 H3 X.xe I3 (stat fr3) st3 stop) λr s4 ⟨hr,I4⟩=>?_)
  subst hr
  exact wpAny_execs_nil ⟨σ3,H3,I4,qn⟩
 ·refine wpAny_passesOwn hp (bH (T.item X rfl rfl rfl hc i pins s3 σ3 H3 X.xe I3 (stat fr3) st3 go) λr s4 ⟨u,hr,h4⟩=>?_)
  subst hr
  refine wpAny_passesOwn hp (bH h4 λ_ s5 ⟨x,H5,I5,r5,y5,st5,fr5⟩=>?_)
  have I5':=I5.pinned (stat fr5) (T.obj _ _ st5)
  refine wpAny_passesOwn hp (bH (hg _ s5 σ3 H5 x u _ I5' r5 (step x H5 y5)) λ_ s6 ⟨σ6,H6,I6,q6⟩=>?_)
  refine wpAny_passesOwn hp (bH (hb _ s6 σ6 H6 _ I6 q6) λf s7 q7=>?_)
  have again:∀{σ7:St} {H7:Hp},Inv X (pins++gN fp s5.heap) σ7 H7 s7->N σ7 H7->∃ m,m<n/\∃ i σ' H',Inv X pins σ' H' s7/\tn i s7.heap/\(∀ b∈fp,H' b=none)/\W i m σ' H':=λ{σ7 H7} I7 n7=>by
   obtain⟨m',hm,w7⟩:=hN σ7 H7 n7
   refine⟨m',hm,i+1,σ7,H7,I7.gD,T.keep _ _ _ st5 λb hb o e=>(I7.pin (b,o) (List.mem_append_right _ (List.mem_append_right _ (eC hb e)))).1,λb hb=>?_,w7⟩
   obtain⟨o,e,d⟩:=T.obj _ _ st5 b hb
   exact (I7.pin (b,o) (List.mem_append_right _ (List.mem_append_right _ (eC hb e)))).2.1
  cases f with
  | next=>obtain⟨σ7,H7,I7,n7⟩:=q7;exact again I7 n7
  | cont=>obtain⟨σ7,H7,I7,n7⟩:=q7;exact again I7 n7
  | brk=>obtain⟨σ7,H7,I7,q7⟩:=q7;exact⟨σ7,H7,I7.gD,q7⟩
  | ret v=>obtain⟨x7,σ7,H7,I7,r7,q7⟩:=q7;exact⟨x7,σ7,H7,I7.gD,r7,q7⟩
end
theorem tI {K:PySem.W.Frag} {a:Addr} {xs:List V} {g:TG} {tb:TS} {D:Ends} {σ:St} {H:Hp} (Pv:Nat->St->Hp->Prop) (h0:Pv 0 σ H) (hl:∀ i σ H,i<=xs.length->Pv i σ H->aQ K H a xs)
  (hs:∀ i x σ H,xs[i]?=some x->Pv i σ H->g x σ H λσ2 H2=>tb { D with nx:=Pv (i+1),ct:=Pv (i+1),bk:=D.nx } σ2 H2) (hd:∀ σ H,Pv xs.length σ H->D.nx σ H) :
  ∃ W:Nat->Nat->St->Hp->Prop,(∃ m,W 0 m σ H)/\∀ i m σ H,W i m σ H ->
   ((vW K a).stop i H/\D.nx σ H)∨((vW K a).go i H/\∃ N:St->Hp->Prop,(∀ σ' H',N σ' H'->∃ m',m'<m/\W (i+1) m' σ' H')/\∀ x H',(vW K a).yld i H x H'->g x σ H' λσ2 H2=>tb { D with nx:=N,ct:=N,bk:=D.nx } σ2 H2):=by
 refine⟨λi m σ H=>m=xs.length-i/\i<=xs.length/\Pv i σ H,⟨xs.length,by simp,Nat.zero_le _,h0⟩,?_⟩
 rintro i m σ H ⟨rfl,hi,p⟩
 have q:=hl i σ H hi p
 by_cases hlt:i<xs.length
 ·refine .inr ⟨⟨xs,xs[i],q,by simp [hlt]⟩,Pv (i+1),λσ' H' p'=>⟨xs.length-(i+1),by omega,rfl,hlt,p'⟩,λx H' y=>?_⟩
  obtain⟨e,y⟩:=y
  subst e
  exact hs i x σ _ (y xs q) p
 ·have e:i=xs.length:=by omega
  subst e
  exact .inl ⟨⟨xs,q,Nat.le_refl _⟩,hd σ H p⟩
theorem pG {lo:Int} {n:Nat} {g:TG} {tb:TS} {D:Ends} {σ:St} {H:Hp} (Pv:Nat->St->Hp->Prop) (h0:Pv 0 σ H)
  (hs:∀ i σ H,i<n->Pv i σ H->g (.int (lo+i)) σ H λσ2 H2=>tb { D with nx:=Pv (i+1),ct:=Pv (i+1),bk:=D.nx } σ2 H2) (hd:∀ σ H,Pv n σ H->D.nx σ H) :
  ∃ W:Nat->Nat->St->Hp->Prop,(∃ m,W 0 m σ H)/\∀ i m σ H,W i m σ H ->
   ((uY lo n).stop i H/\D.nx σ H)∨((uY lo n).go i H/\∃ N:St->Hp->Prop,(∀ σ' H',N σ' H'->∃ m',m'<m/\W (i+1) m' σ' H')/\∀ x H',(uY lo n).yld i H x H'->g x σ H' λσ2 H2=>tb { D with nx:=N,ct:=N,bk:=D.nx } σ2 H2):=by
 refine⟨λi m σ H=>m=n-i/\i<=n/\Pv i σ H,⟨n,by simp,Nat.zero_le _,h0⟩,?_⟩
 rintro i m σ H ⟨rfl,hi,p⟩
 by_cases hlt:i<n
 ·refine .inr ⟨hlt,Pv (i+1),λσ' H' p'=>⟨n-(i+1),by omega,rfl,hlt,p'⟩,λx H' y=>?_⟩
  obtain⟨e,y⟩:=y
  subst e y
  exact hs i σ _ hlt p
 ·have e:i=n:=by omega
  subst e
  exact .inl ⟨Nat.le_refl _,hd σ H p⟩
abbrev R2:=V->V->Hp->VK->Prop
def fz (X:Cx) (f:Value->Value->Sem Value) (r:R2):Prop :=
 ∀(pins:List (Addr × Obj)) (s:Shared) (σ:St) (H:Hp) (x y:V) (v u:Value) (Q:VK),Inv X pins σ H s->RelV x v->RelV y u->r x y H Q ->
  wpAny (model X.prog X.w) X.A (f v u) (EP X pins σ Q) X.xe s
def zi (X:Cx) (f:Value->Sem Value) (r:V->Hp->VK->Prop):Prop :=
 ∀(pins:List (Addr × Obj)) (s:Shared) (σ:St) (H:Hp) (x:V) (v:Value) (Q:VK),Inv X pins σ H s->RelV x v->r x H Q ->
  wpAny (model X.prog X.w) X.A (f v) (EP X pins σ Q) X.xe s
def eO (X:Cx) (f:Value) (r:List V->Hp->VK->Prop):Prop :=
 ∀(pins:List (Addr × Obj)) (s:Shared) (σ:St) (H:Hp) (xs:List V) (us:List Value) (Q:VK),Inv X pins σ H s->Vals xs us->r xs H Q ->
  wpAny (model X.prog X.w) X.A (call f us) (EP X pins σ Q) X.xe s
def zh (X:Cx) (r:V->Hp->(Bool->Hp->Prop)->Prop):Prop :=
 ∀(pins:List (Addr × Obj)) (s:Shared) (σ:St) (H:Hp) (x:V) (v:Value) (Q:Bool->Hp->Prop),Inv X pins σ H s->RelV x v->r x H Q ->
  wpAny (model X.prog X.w) X.A (truthy v) (TP X pins σ Q) X.xe s
def yD (r:R2) (ta tb:TE):TE:=λσ H Q=>ta σ H λx H1=>tb σ H1 λy H2=>r x y H2 Q
def z6 (r:V->Hp->VK->Prop) (ta:TE):TE:=λσ H Q=>ta σ H λx H1=>r x H1 Q
def rI (C:Int->Int->Prop) (g:Int->Int->V):R2:=λx y H Q=>∃ i j,x=.int i/\y=.int j/\C i j/\Q (g i j) H
def qB (g:Int->Int->V):R2:=λx y H Q=>∃ i j,x=.int i/\y=.int j/\Q (g i j) H
def rU (g:Int->V):V->Hp->VK->Prop:=λx H Q=>∃ i,x=.int i/\Q (g i) H
section
variable {X:Cx} {a b c:Expr} {ta tb tc:TE} {pos:Pos}
theorem v5 (ha:PE X a ta) (hb:PE X b tb) {pins:List (Addr × Obj)} {s:Shared} {σ:St} {H:Hp} {R:V->V->Hp->Prop} (I:Inv X pins σ H s)
  (h:ta σ H λx H1=>tb σ H1 λy H2=>R x y H2) {Q:Value->Shared->Prop} {f:Value->Value->Sem Value}
  (hf:∀ v u s2 x y H2,Inv X pins σ H2 s2->RelV x v->RelV y u->R x y H2->wpAny (model X.prog X.w) X.A (f v u) Q X.xe s2) :
  wpAny (model X.prog X.w) X.A (eval a X.env) (λv s₁=>wpAny (model X.prog X.w) X.A (eval b X.env) (λu s₂=>wpAny (model X.prog X.w) X.A (f v u) Q X.xe s₂) X.xe s₁) X.xe s:=by
 refine bH (ha pins s σ H _ I h) λv s1 ⟨x,H1,I1,r1,q1⟩=>?_
 refine bH (hb pins s1 σ H1 _ I1 q1) λu s2 ⟨y,H2,I2,r2,q2⟩=>?_
 exact hf v u s2 x y H2 I2 r1 r2 q2
theorem ao {op:Operator} {r:R2} (ho:fz X (binaryOp op) r) (ha:PE X a ta) (hb:PE X b tb):PE X (.BinOp a op b pos) (yD r ta tb):=by
 intro pins s σ H Q I h
 exact wpAny_BinOp (v5 ha hb I h λv u s2 x y H2 I2 rx ry q=>ho pins s2 σ H2 x y v u Q I2 rx ry q)
theorem jX {op:UnaryOp} {r:V->Hp->VK->Prop} (ho:zi X (unaryOp op) r) (ha:PE X a ta):PE X (.UnaryOp op a pos) (z6 r ta):=by
 intro pins s σ H Q I h
 exact UnaryOp_ (bH (ha pins s σ H _ I h) λv s1 ⟨x,H1,I1,r1,q1⟩=>ho pins s1 σ H1 x v Q I1 r1 q1)
theorem yh {f:Value->Value->Sem Value} {C:Int->Int->Prop} {g:Int->Int->Int}
  (rule:∀(i j:Int) (t u:Tok) (s:Shared) (Q:Value->Shared->Prop) (E:Value->Shared->Prop),C i j->Q (.int (g i j) s.toks) { s with toks:=s.toks+1 }->wpAny (model X.prog X.w) X.A (f (.int i t) (.int j u)) Q E s) :
  fz X f (rI C λi j=>.int (g i j)):=by
 intro pins s σ H x y v u Q I rx ry h
 obtain⟨i,j,rfl,rfl,hc,q⟩:=h
 obtain⟨t,rfl⟩:=rx
 obtain⟨t',rfl⟩:=ry
 exact rule i j t t' s _ _ hc ⟨.int (g i j),H,I.tok _,⟨_,rfl⟩,q⟩
theorem um {f:Value->Value->Sem Value} {g:Int->Int->Int}
  (rule:∀(i j:Int) (t u:Tok) (s:Shared) (Q:Value->Shared->Prop) (E:Value->Shared->Prop),Q (.int (g i j) s.toks) { s with toks:=s.toks+1 }->wpAny (model X.prog X.w) X.A (f (.int i t) (.int j u)) Q E s) :
  fz X f (qB λi j=>.int (g i j)):=by
 intro pins s σ H x y v u Q I rx ry h
 obtain⟨i,j,rfl,rfl,q⟩:=h
 obtain⟨t,rfl⟩:=rx
 obtain⟨t',rfl⟩:=ry
 exact rule i j t t' s _ _ ⟨.int (g i j),H,I.tok _,⟨_,rfl⟩,q⟩
theorem uk {f:Value->Value->Sem Value} {g:Int->Int->Bool}
  (rule:∀(i j:Int) (t u:Tok) (s:Shared) (Q:Value->Shared->Prop) (E:Value->Shared->Prop),Q (.bool (g i j)) s->wpAny (model X.prog X.w) X.A (f (.int i t) (.int j u)) Q E s) :
  fz X f (qB λi j=>.bl (g i j)):=by
 intro pins s σ H x y v u Q I rx ry h
 obtain⟨i,j,rfl,rfl,q⟩:=h
 obtain⟨t,rfl⟩:=rx
 obtain⟨t',rfl⟩:=ry
 exact rule i j t t' s _ _ ⟨.bl (g i j),H,I,rfl,q⟩
def xG (i j:Int):Prop:=0<=j/\j<=1000000/\i.natAbs<2^64
def xF (i j:Int):Prop:=(-(2^64)<i/\i<2^64)∨(-(2^64)<j/\j<2^64)
theorem xF.ok {i j:Int} (h:xF i j):IntMulOk i j:=by
 rcases h with⟨h1,h2⟩|⟨h1,h2⟩
 ·exact .of_left (intBits_le_64 h1 h2)
 ·exact .of_right (intBits_le_64 h1 h2)
theorem aX:fz X (binaryOp .Add) (qB λi j=>.int (i+j)):=um λ_ _ _ _ _ _ _ q=>add_int q
theorem bD:fz X (binaryOp .Sub) (qB λi j=>.int (i-j)):=um λ_ _ _ _ _ _ _ q=>sub_int q
theorem aK:fz X (binaryOp .Mod) (rI (λ_ j=>0<j) λi j=>.int (i%j)):=yh λi j _ _ _ _ _ hc q=>by
 have h1:(0:Int)<j:=hc
 exact mod_int' (by omega) (by rw [Int.fmod_eq_emod_of_nonneg i (by omega)];exact q)
theorem wK:fz X (binaryOp .Pow) (rI xG λi j=>.int (i^j.toNat)):=yh λ_ _ _ _ _ _ _ hc q=>pow_int_small hc.1 hc.2.1 hc.2.2 q
theorem kB:fz X (inplaceOp .Add) (qB λi j=>.int (i+j)):=um λ_ _ _ _ _ _ _ q=>iadd_int q
theorem tO:fz X (inplaceOp .Sub) (qB λi j=>.int (i-j)):=um λ_ _ _ _ _ _ _ q=>isub_int q
theorem An {f:Value->Sem Value} {g:Int->Int}
  (rule:∀(i:Int) (t:Tok) (s:Shared) (Q:Value->Shared->Prop) (E:Value->Shared->Prop),Q (.int (g i) s.toks) { s with toks:=s.toks+1 }->wpAny (model X.prog X.w) X.A (f (.int i t)) Q E s) :
  zi X f (rU λi=>.int (g i)):=by
 intro pins s σ H x v Q I rx h
 obtain⟨i,rfl,q⟩:=h
 obtain⟨t,rfl⟩:=rx
 exact rule i t s _ _ ⟨.int (g i),H,I.tok _,⟨_,rfl⟩,q⟩
theorem gT:zi X (unaryOp .USub) (rU λi=>.int (-i)):=An λ_ _ _ _ _ q=>neg_int q
end
def jy:V->V->Bool
 | .bo,.bo=>true | .bo,.int _=>true | .int _,.bo=>true | .bo,.bl _=>true | .bl _,.bo=>true | .bo,.str _=>true | .str _,.bo=>true
 | .int _,.int _=>true | .bl _,.bl _=>true | .str _,.str _=>true | .byt _,.byt _=>true
 | .int _,.str _=>true | .str _,.int _=>true | .bl _,.str _=>true | .str _,.bl _=>true
 | _,_=>false
def zU:R2:=λx y H Q=>jy x y=true/\Q (.bl (decide (x=y))) H
def zV:R2:=λx y H Q=>jy x y=true/\Q (.bl (!decide (x=y))) H
theorem oh {i j:Int}:decide (V.int i=V.int j)=(i==j):=by
 rw [Bool.eq_iff_iff]
 simp
theorem qM {i j:Bool}:decide (V.bl i=V.bl j)=(i==j):=by
 rw [Bool.eq_iff_iff]
 simp
theorem oi {i j:Str}:decide (V.str i=V.str j)=(i==j):=by
 rw [Bool.eq_iff_iff]
 simp
theorem n8 {i j:Array UInt8}:decide (V.byt i=V.byt j)=(i.toList==j.toList):=by
 rw [Bool.eq_iff_iff]
 cases i
 cases j
 simp
section
variable {X:Cx} {a b c:Expr} {ta tb tc:TE} {pos:Pos}
theorem aN {pins:List (Addr × Obj)} {σ:St} {H:Hp} {s:Shared} {Q:VK} {k k':Bool} (I:Inv X pins σ H s) (q:Q (.bl k) H) (e:k=k'):EP X pins σ Q (.bool k') s:=by
 subst e
 exact⟨.bl k,H,I,rfl,q⟩
theorem aU:fz X (compareOp .Eq) zU:=by
 intro pins s σ H x y v u Q I rx ry h
 obtain⟨hs,q⟩:=h
 cases x with
 | bo =>
  cases rx
  cases y with
  | bo=>cases ry;exact PySem.EqNone.eq_none_none (aN I q (by simp))
  | bl j=>cases ry;exact PySem.EqNone.eq_none_bool (aN I q (by simp))
  | int j=>obtain⟨t',rfl⟩:=ry;exact PySem.EqNone.eq_none_int (aN I q (by simp))
  | str j=>obtain⟨t',rfl⟩:=ry;exact PySem.EqNone.eq_none_str (aN I q (by simp))
  | _=>exact absurd (show false=true from hs) Bool.false_ne_true
 | bl i =>
  cases rx
  cases y with
  | bo=>cases ry;exact PySem.EqNone.eq_bool_none (aN I q (by simp))
  | bl j=>cases ry;exact eq_bool (aN I q qM)
  | str j=>obtain⟨t',rfl⟩:=ry;exact PySem.EqMixed.eq_bool_str (aN I q (by simp))
  | _=>exact absurd (show false=true from hs) Bool.false_ne_true
 | int i =>
  obtain⟨t,rfl⟩:=rx
  cases y with
  | bo=>cases ry;exact PySem.EqNone.eq_int_none (aN I q (by simp))
  | int j=>obtain⟨t',rfl⟩:=ry;exact eq_int (aN I q oh)
  | str j=>obtain⟨t',rfl⟩:=ry;exact PySem.EqMixed.eq_int_str (aN I q (by simp))
  | _=>exact absurd (show false=true from hs) Bool.false_ne_true
 | str i =>
  obtain⟨t,rfl⟩:=rx
  cases y with
  | bo=>cases ry;exact PySem.EqNone.eq_str_none (aN I q (by simp))
  | bl j=>cases ry;exact PySem.EqMixed.eq_str_bool (aN I q (by simp))
  | int j=>obtain⟨t',rfl⟩:=ry;exact PySem.EqMixed.eq_str_int (aN I q (by simp))
  | str j=>obtain⟨t',rfl⟩:=ry;exact eq_str (aN I q oi)
  | _=>exact absurd (show false=true from hs) Bool.false_ne_true
 | byt i =>
  obtain⟨t,rfl⟩:=rx
  cases y with
  | byt j=>obtain⟨t',rfl⟩:=ry;exact PySem.W.eq_bytes (aN I q n8)
  | _=>exact absurd (show false=true from hs) Bool.false_ne_true
 | _=>cases y<;>exact absurd (show false=true from hs) Bool.false_ne_true
theorem iQ:fz X (compareOp .NotEq) zV:=by
 intro pins s σ H x y v u Q I rx ry h
 obtain⟨hs,q⟩:=h
 cases x with
 | bo =>
  cases rx
  cases y with
  | bo=>cases ry;exact PySem.EqNone.ne_none_none (aN I q (by simp))
  | bl j=>cases ry;exact PySem.EqNone.ne_none_bool (aN I q (by simp))
  | int j=>obtain⟨t',rfl⟩:=ry;exact PySem.EqNone.ne_none_int (aN I q (by simp))
  | str j=>obtain⟨t',rfl⟩:=ry;exact PySem.EqNone.ne_none_str (aN I q (by simp))
  | _=>exact absurd (show false=true from hs) Bool.false_ne_true
 | bl i =>
  cases rx
  cases y with
  | bo=>cases ry;exact PySem.EqNone.ne_bool_none (aN I q (by simp))
  | bl j=>cases ry;exact ne_bool (aN I q (congrArg not qM))
  | str j=>obtain⟨t',rfl⟩:=ry;exact PySem.EqMixed.ne_bool_str (aN I q (by simp))
  | _=>exact absurd (show false=true from hs) Bool.false_ne_true
 | int i =>
  obtain⟨t,rfl⟩:=rx
  cases y with
  | bo=>cases ry;exact PySem.EqNone.ne_int_none (aN I q (by simp))
  | int j=>obtain⟨t',rfl⟩:=ry;exact ne_int (aN I q (congrArg not oh))
  | str j=>obtain⟨t',rfl⟩:=ry;exact PySem.EqMixed.ne_int_str (aN I q (by simp))
  | _=>exact absurd (show false=true from hs) Bool.false_ne_true
 | str i =>
  obtain⟨t,rfl⟩:=rx
  cases y with
  | bo=>cases ry;exact PySem.EqNone.ne_str_none (aN I q (by simp))
  | bl j=>cases ry;exact PySem.EqMixed.ne_str_bool (aN I q (by simp))
  | int j=>obtain⟨t',rfl⟩:=ry;exact PySem.EqMixed.ne_str_int (aN I q (by simp))
  | str j=>obtain⟨t',rfl⟩:=ry;exact ne_str (aN I q (congrArg not oi))
  | _=>exact absurd (show false=true from hs) Bool.false_ne_true
 | byt i =>
  obtain⟨t,rfl⟩:=rx
  cases y with
  | byt j=>obtain⟨t',rfl⟩:=ry;exact PySem.W.ne_bytes (aN I q (congrArg not n8))
  | _=>exact absurd (show false=true from hs) Bool.false_ne_true
 | _=>cases y<;>exact absurd (show false=true from hs) Bool.false_ne_true
theorem cP:fz X (compareOp .Lt) (qB λi j=>.bl (decide (i<j))):=uk λ_ _ _ _ _ _ _ q=>lt_int q
theorem ma:fz X (compareOp .LtE) (qB λi j=>.bl (decide (i<=j))):=uk λ_ _ _ _ _ _ _ q=>le_int q
theorem c8:fz X (compareOp .Gt) (qB λi j=>.bl (decide (j<i))):=uk λ_ _ _ _ _ _ _ q=>gt_int q
theorem vB:fz X (compareOp .GtE) (qB λi j=>.bl (decide (j<=i))):=uk λ_ _ _ _ _ _ _ q=>ge_int q
theorem rA:fz X (compareOp .Is) (λx y H Q=>y=.bo/\Q (.bl (decide (x=.bo))) H):=by
 intro pins s σ H x y v u Q I rx ry h
 obtain⟨rfl,q⟩:=h
 cases ry
 refine is_none_gen (aN I q ?_)
 cases x<;>first
  | (cases rx;rfl)
  | (obtain⟨t,rfl⟩:=rx;rfl)
theorem kI:fz X (compareOp .IsNot) (λx y H Q=>y=.bo/\Q (.bl (!decide (x=.bo))) H):=by
 intro pins s σ H x y v u Q I rx ry h
 obtain⟨rfl,q⟩:=h
 cases ry
 refine isnot_none_gen (aN I q ?_)
 cases x<;>first
  | (cases rx;rfl)
  | (obtain⟨t,rfl⟩:=rx;rfl)
theorem ar (b:Expr) {op:CmpOp} (h:op≠.In:=by decide) (h2:op≠.NotIn:=by decide):behindInMarks op b=false:=by
 have e1:(op==CmpOp.In)=false:=by cases op<;>first | rfl | exact absurd rfl h
 have e2:(op==CmpOp.NotIn)=false:=by cases op<;>first | rfl | exact absurd rfl h2
 cases b<;>simp [behindInMarks,e1,e2]
theorem bA {op:CmpOp} {r:R2} (ho:fz X (compareOp op) r) (ha:PE X a ta) (hb:PE X b tb) (hm:behindInMarks op b=false):PE X (.Compare a [op] [b] pos) (yD r ta tb):=by
 intro pins s σ H Q I h
 exact wpAny_Compare1 (v5 ha hb I h λv u s2 x y H2 I2 rx ry q=>ho pins s2 σ H2 x y v u Q I2 rx ry q) hm
def vT (t:TE):TT:=λσ H Q=>t σ H λx H'=>∃ k,x=.bl k/\Q k H'
theorem aq {op:CmpOp} {r:R2} (ho:fz X (compareOp op) r) (ha:PE X a ta) (hb:PE X b tb) (hm:behindInMarks op b=false):PT X (.Compare a [op] [b] pos) (vT (yD r ta tb)):=by
 intro pins s σ H Q I h
 refine wpAny_isTrue_Compare1 (bH (ha pins s σ H _ I h) λv s1 ⟨x,H1,I1,r1,q1⟩=>bH (hb pins s1 σ H1 _ I1 q1) λu s2 ⟨y,H2,I2,r2,q2⟩ =>
  bH (ho pins s2 σ H2 x y v u _ I2 r1 r2 q2) λc s3 ⟨z,H3,I3,r3,k,e,q3⟩=>?_) hm
 subst e
 cases r3
 exact wpAny_truthy_bool ⟨H3,I3,q3⟩
def nR (r r':R2) (ta tb tc:TE):TE:=λσ H Q=>ta σ H λx H1=>tb σ H1 λy H2=>r x y H2 λz H3=>∃ k,z=.bl k /\
 (if k=true then tc σ H3 λw' H4=>r' y w' H4 Q else Q (.bl false) H3)
theorem mh {op op':CmpOp} {r r':R2} (ho:fz X (compareOp op) r) (ho':fz X (compareOp op') r') (ha:PE X a ta) (hb:PE X b tb) (hc:PE X c tc)
  (hm:lastMarks [op,op'] [b,c]=false:=by with_unfolding_all rfl):PE X (.Compare a [op,op'] [b,c] pos) (nR r r' ta tb tc):=by
 intro pins s σ H Q I h
 refine Compare_chain (bH (ha pins s σ H _ I h) λv s1 ⟨x,H1,I1,r1,q1⟩=>chain_link (bH (hb pins s1 σ H1 _ I1 q1) λu s2 ⟨y,H2,I2,r2,q2⟩ =>
  bH (ho pins s2 σ H2 x y v u _ I2 r1 r2 q2) λd s3 ⟨z,H3,I3,r3,k,e,q3⟩=>?_)) hm
 subst e
 cases r3
 refine wpAny_truthy_bool ?_
 cases k with
 | false=>exact ite_ff ⟨.bl false,H3,I3,rfl,q3⟩
 | true=>exact ite_tt (chain_last (bH (hc pins s3 σ H3 _ I3 q3) λw' s4 ⟨z',H4,I4,r4,q4⟩=>ho' pins s4 σ H4 y z' u w' Q I4 r2 r4 q4))
def sW (K:PySem.W.Frag) (x:V) (H:Hp) (k:Bool):Prop :=
 match x with
 | .bo=>k=false
 | .bl b=>k=b
 | .int i=>k=(i != 0)
 | .str y=>y.length<=sizeLine/\k=((y.length:Int) != 0)
 | .byt y=>y.size<=sizeLine/\k=((y.size:Int) != 0)
 | .ref p=>(∃ xs,aT K H p xs/\k=!xs.isEmpty)∨(∃ xs,aQ K H p xs/\k=!xs.isEmpty)∨∃ kvs,H p=some (.dK kvs)/\k=!kvs.isEmpty
 | _=>False
theorem m9 {κ:Type} {kvs:List (κ × V)} {vs:List (κ × Value)} (r:KV kvs vs):(!vs.isEmpty)=!kvs.isEmpty:=by
 cases r<;>rfl
theorem iL {xs:List V} {its:List Value} (r:Vals xs its):(!its.toArray.isEmpty)=!xs.isEmpty:=by
 cases r<;>simp
theorem kC:(sizeLine:Nat)<2^63:=by rw [sizeLine_eq];decide
theorem xA:zh X (λx H Q=>∃ k,sW X.K x H k/\Q k H):=by
 intro pins s σ H x v Q I rx h
 obtain⟨k,e,q⟩:=h
 have hl:=kC
 have hs:sizeLine=16777216:=sizeLine_eq
 cases x with
 | bo =>
  cases rx
  have e':k=false:=e
  subst e'
  exact truthy_none ⟨H,I,q⟩
 | bl b =>
  cases rx
  have e':k=b:=e
  subst e'
  exact wpAny_truthy_bool ⟨H,I,q⟩
 | int i =>
  obtain⟨t,rfl⟩:=rx
  have e':k=(i != 0):=e
  subst e'
  exact PySem.P.truthy_int ⟨H,I,q⟩
 | str y =>
  obtain⟨t,rfl⟩:=rx
  obtain⟨hy,e'⟩:y.length<=sizeLine/\k=((y.length:Int) != 0):=e
  subst e'
  exact PySem.P.truthy_str (by omega) ⟨H,I.tok _,q⟩
 | byt y =>
  obtain⟨t,rfl⟩:=rx
  obtain⟨hy,e'⟩:y.size<=sizeLine/\k=((y.size:Int) != 0):=e
  subst e'
  exact PySem.W.truthy_bytes (by omega) ⟨H,I.tok _,q⟩
 | ref p =>
  cases rx
  have e':(∃ xs,aT X.K H p xs/\k=!xs.isEmpty)∨(∃ xs,aQ X.K H p xs/\k=!xs.isEmpty)∨∃ kvs,H p=some (.dK kvs)/\k=!kvs.isEmpty:=e
  rcases e' with⟨xs,hx,e'⟩|⟨xs,hx,e'⟩|⟨kvs,hx,e'⟩
  ·subst e'
   obtain⟨its,r,pl,hz⟩:=I.list hx
   have hlen:=r.length
   exact wpAny_truthy_list pl.isList (by simp only [List.size_toArray];omega) ⟨H,I.tok _,by rw [iL r];exact q⟩
  ·subst e'
   obtain⟨its,r,pl,hz⟩:=I.tuple hx
   have hlen:=r.length
   exact truthy_tuple pl (by simp only [List.size_toArray];omega) ⟨H,I.tok _,by rw [iL r];exact q⟩
  ·subst e'
   obtain⟨hz,hS,vs,r,m⟩:kvs.length<=sizeLine/\(p==sysModules)=false/\∃ vs,KV kvs vs/\s.heap.DictOf (bE X.prog X.w) p vs:=I.hok p _ hx
   have hlen:kvs.length=vs.length:=Paired.length r
   exact wpAny_truthy_dict hS m (by omega) ⟨H,I.tok _,by rw [m9 r];exact q⟩
 | _=>exact (show False from e).elim
theorem aP (ha:PE X a ta) (he:∀ whole,isTrue a X.env whole=(do let v <- whole;standAt a.pos;holding [v] (truthy v))) :
  PT X a (λσ H Q=>ta σ H λx H'=>∃ k,sW X.K x H' k/\Q k H'):=by
 intro pins s σ H Q I h
 exact isTrue_plain (bH (ha pins s σ H _ I h) λv s1 ⟨x,H1,I1,r1,q1⟩=>xA pins s1 σ H1 x v Q I1 r1 q1) (he _)
theorem vals1 {x:V} {us:List Value} (r:Vals [x] us):∃ u,us=[u]/\RelV x u:=by
 cases r with
 | cons r1 r2=>cases r2;exact⟨_,rfl,r1⟩
theorem vals2 {x y:V} {us:List Value} (r:Vals [x,y] us):∃ u w',us=[u,w']/\RelV x u/\RelV y w':=by
 cases r with
 | cons r1 r2 =>
  cases r2 with
  | cons r3 r4=>cases r4;exact⟨_,_,rfl,r1,r3⟩
theorem iH:eO X (.builtin "abs") (λxs H Q=>∃ i,xs=[.int i]/\Q (.int (if i<0 then -i else i)) H):=by
 intro pins s σ H xs us Q I r h
 obtain⟨i,rfl,q⟩:=h
 obtain⟨u,rfl,t,rfl⟩:=vals1 r
 exact call_abs_int λu tk=>⟨.int (if i<0 then -i else i),H,I.tok _,⟨_,rfl⟩,q⟩
theorem oZ:eO X (.type "int") (λxs H Q=>(∃ i,xs=[.int i]/\Q (.int i) H)∨∃ k,xs=[.bl k]/\Q (.int (if k then 1 else 0)) H):=by
 intro pins s σ H xs us Q I r h
 rcases h with⟨i,rfl,q⟩|⟨k,rfl,q⟩
 ·obtain⟨u,rfl,t,rfl⟩:=vals1 r
  exact call_int_int ⟨.int i,H,I,⟨_,rfl⟩,q⟩
 ·obtain⟨u,rfl,r1⟩:=vals1 r
  cases r1
  exact call_int_bool ⟨.int (if k then 1 else 0),H,I.tok _,⟨_,rfl⟩,q⟩
end
structure vY (h:Heap) (x dx C:Addr) (mA:Str->Option Value):Prop where
 obj:h.get? x=some (PySem.W.instObj C dx)
 ns:h.Ns1 dx mA
 ne:dx≠x
theorem pO {h:Heap} {dx:Addr} {mA:Str->Option Value} (n:h.Ns1 dx mA):∃ od,h.get? dx=some od/\∀ name,PySem.W.lookIn name od=some (mA name):=by
 obtain⟨o,es,ep,ho,hd,hk,_,hm⟩:=n
 refine⟨o,ho,λname=>?_⟩
 have e:=hm name
 unfold nsFind findBy at e
 rw [<- Array.find?_toList] at e
 unfold PySem.W.lookIn
 rw [hd]
 dsimp only
 split
 ·rename_i y q
  rw [q] at e
  exact congrArg some e
 ·rename_i q
  rw [q] at e
  have a:es.toList.any (·.refKey)=false:=by
   rw [List.any_eq_false]
   intro y hy
   obtain⟨z,t,hkey⟩:=hk y (Array.mem_toList_iff.mp hy)
   simp [DictEntry.refKey,hkey]
  have a':¬es.toList.any (·.refKey)=true:=by rw [a];exact Bool.false_ne_true
  rw [if_neg a']
  exact congrArg some e
theorem vY.look {h:Heap} {x dx C:Addr} {mA:Str->Option Value} (I:vY h x dx C mA):∃ od,PySem.W.InstAt h x (PySem.W.instObj C dx) C (some od)/\∀ name,PySem.W.lookIn name od=some (mA name) :=
 let ⟨od,ho,hl⟩:=pO I.ns
 ⟨od,⟨I.obj,rfl,rfl,ho⟩,hl⟩
section
variable {prog:Program} {w:World} {A:Around} {E:Value->Shared->Prop} {s:Shared} {K:PySem.W.Frag} {x dx C f:Addr} {mA:Str->Option Value} {name:Str} {v:Value}
end
def wW (f:Str) (v:V):List (Str × V)->List (Str × V)
 | []=>[(f,v)]
 | (g,x)::r=>if g=f then (g,v)::r else (g,x)::wW f v r
theorem fO.some_of {v:V} {o:Option Value} (r:fO (some v) o):∃ u,o=some u/\RelV v u:=by
 cases o with
 | none=>exact (show False from r).elim
 | some u=>exact⟨u,rfl,r⟩
section
variable {P:Program} {w:World} {H H':Hp} {h h':Heap} {a C dx:Addr} {fs fs':List (Str × V)}
theorem tN (hok:eP P w H h) (e:H a=some (.ins C dx fs)):∃ mA,vY h a dx C mA/\(∀ f,fO (fs.lookup f) (mA f))/\PySem.Within mA (fs.map (·.1))/\fs.length<=1000/\H dx=some (.own a):=by
 obtain⟨d,z,ne,ob,mA,n,r,q⟩:=(show aZ P w H h a (.ins C dx fs) from hok a _ e)
 exact⟨mA,⟨ob,n,ne⟩,r,q,z,d⟩
end
structure xD (K:PySem.W.Frag) (C:Addr):Prop where
 pg:PySem.W.plainGet K C Str.empty=true
 hd:PySem.W.hasDictIn K C=true
 po:PySem.W.plainOver K C=true
 sa:PySem.W.findIn K (.ref C) "__setattr__"=some (some (.builtin "object.__setattr__"))
theorem xD.get {K:PySem.W.Frag} {C:Addr} (c:xD K C) (f:Str):PySem.W.plainGet K C f=true:=c.pg
def mP (K:PySem.W.Frag) (C:Addr) (f:Str):Prop:=PySem.W.findIn K (.ref C) f=some none
structure Meth (K:PySem.W.Frag) (C:Addr) (m:Str) (f:Addr):Prop where
 at_:PySem.W.findIn K (.ref C) m=some (some (.ref f))
 fn:PySem.W.isFn K (.ref f)=true
 kp:PySem.W.keepIn K (.ref f)=true
section
variable {X:Cx} {pins:List (Addr × Obj)} {σ:St} {H:Hp} {s:Shared} {a C dx:Addr} {fs:List (Str × V)} {f:Str} {v:V} {A:Around} {E:Value->Shared->Prop}
end
def zG (K:PySem.W.Frag) (ta:TE) (f:Str):TE:=λσ H Q=>ta σ H λx H1=>∃ a C dx fs v,x=.ref a/\H1 a=some (.ins C dx fs)/\xD K C/\mP K C f/\fs.lookup f=some v/\Q v H1
def zC (K:PySem.W.Frag) (ta tv:TE) (f:Str):TS:=λD σ H=>tv σ H λy H1=>ta σ H1 λx H2=>∃ a C dx fs,x=.ref a/\H2 a=some (.ins C dx fs)/\xD K C/\mP K C f/\fs.length<1000 /\
 D.nx σ (upd H2 a (.ins C dx (wW f y fs)))
def uG (K:PySem.W.Frag) (ta tv:TE) (rd:V->V->Hp->VK->Prop) (f:Str):TS:=λD σ H=>ta σ H λx H1=>∃ a C dx fs v,x=.ref a/\H1 a=some (.ins C dx fs)/\xD K C/\mP K C f/\fs.lookup f=some v /\
 tv σ H1 λy H2=>rd v y H2 λz H3=>∃ dx' fs',H3 a=some (.ins C dx' fs')/\fs'.length<1000/\D.nx σ (upd H3 a (.ins C dx' (wW f z fs')))
section
variable {X:Cx} {o e value:Expr} {f:Str} {pos pos' tpos:Pos} {ta tv:TE}
end
section
variable {X:Cx} {pins:List (Addr × Obj)} {σ:St} {H:Hp} {s:Shared} {A:Around} {E:Value->Shared->Prop} {Q:Value->Shared->Prop} {c:Value} {b:Bool}
inductive fv (K:PySem.W.Frag) (H:Hp):V->Value->Prop where
 | bo:fv K H .bo (.type "NoneType")
 | bl (x:Bool):fv K H (.bl x) (.type "bool")
 | int (i:Int):fv K H (.int i) (.type "int")
 | str (x:Str):fv K H (.str x) (.type "str")
 | flt (x:UInt64):fv K H (.flt x) (.type "float")
 | lst {a:Addr} {xs:List V} (e:H a=some (.lst xs)):fv K H (.ref a) (.type "list")
 | frz {a:Addr} {o:Obj} {xs:List V} (e:H a=some (.frz o (.lst xs))):fv K H (.ref a) (.type "list")
 | tup {a:Addr} {xs:List V} (e:H a=some (.tup xs)):fv K H (.ref a) (.type "tuple")
 | dK {a:Addr} {kvs:List (Key × V)} (e:H a=some (.dK kvs)):fv K H (.ref a) (.type "dict")
 | dT {a:Addr} {kvs:List (List Key × V)} (e:H a=some (.dT kvs)):fv K H (.ref a) (.type "dict")
 | ins {a C dx:Addr} {fs:List (Str × V)} (e:H a=some (.ins C dx fs)) (cl:xD K C) (ha:PySem.W.findIn K (.ref C) "__class__"=some (some (.builtin "object.__class__")))
   (hn:PySem.W.specialIn K (.builtin "object.__class__") "__get__"=some (some (.builtin "getset_descriptor.__get__"))) (htk:PySem.W.takesIn K (.builtin "object.__class__")=some true)
   (hm:PySem.W.mroIn K C (.type "object")=some true):fv K H (.ref a) (.ref C)
theorem fj {x:V} {u t:Value} (I:Inv X pins σ H s) (rx:RelV x u) (ty:fv X.K H x t) (e:PySem.W.kitOne X.K t c=some b) (h:∀ tk,Q (.bool b) { s with toks:=tk }) :
  wpAny (model X.prog X.w) A (call (.builtin "isinstance") [u,c]) Q E s:=by
 cases ty with
 | bo=>cases (show u=Value.none from rx);exact PySem.W.kia_one PySem.W.kitx_none I.fY True.intro e (λz=>nomatch z) h
 | bl y=>cases (show u=Value.bool y from rx);exact PySem.W.kia_one PySem.W.kitx_bool I.fY True.intro e (λz=>nomatch z) h
 | int i=>obtain⟨t,q⟩:=(show ∃ t,u=Value.int i t from rx);cases q;exact PySem.W.kia_one PySem.W.kitx_int I.fY True.intro e (λz=>nomatch z) h
 | str y=>obtain⟨t,q⟩:=(show ∃ t,u=Value.str y t from rx);cases q;exact PySem.W.kia_one PySem.W.kitx_str I.fY True.intro e (λz=>nomatch z) h
 | flt y=>obtain⟨t,q⟩:=(show ∃ t,u=Value.float y t from rx);cases q;exact PySem.W.kia_one PySem.W.kitx_float I.fY True.intro e (λz=>nomatch z) h
 | @lst a xs ea =>
  cases (show u=Value.ref a from rx)
  obtain⟨_,_,n,_,h1⟩:=(show aZ X.prog X.w H s.heap a (.lst xs) from I.hok a _ ea)
  exact PySem.W.kia_one PySem.W.kitx_list I.fY ⟨_,h1,rfl⟩ e (λz=>nomatch z) h
 | @frz a ob xs ea =>
  cases (show u=Value.ref a from rx)
  obtain⟨_,_,_,n,_,h1⟩:=(show aZ X.prog X.w H s.heap a (.frz ob (.lst xs)) from I.hok a _ ea)
  exact PySem.W.kia_one PySem.W.kitx_list I.fY ⟨_,h1,rfl⟩ e (λz=>nomatch z) h
 | @tup a xs ea =>
  cases (show u=Value.ref a from rx)
  obtain⟨_,_,_,p⟩:=(show aZ X.prog X.w H s.heap a (.tup xs) from I.hok a _ ea)
  obtain⟨o,h1,h2,_⟩:=p
  exact PySem.W.kia_one PySem.W.kitx_tuple I.fY ⟨o,h1,h2⟩ e (λz=>nomatch z) h
 | @dK a kvs ea =>
  cases (show u=Value.ref a from rx)
  obtain⟨_,_,vs,_,p⟩:=(show aZ X.prog X.w H s.heap a (.dK kvs) from I.hok a _ ea)
  obtain⟨o,es,ep,h1,h2,_⟩:=p
  exact PySem.W.kia_one PySem.W.kitx_dict I.fY ⟨o,h1,h2.1⟩ e (λz=>nomatch z) h
 | @dT a kvs ea =>
  cases (show u=Value.ref a from rx)
  obtain⟨_,_,xs,_,o,es,ep,h1,h2,_⟩:=(show aZ X.prog X.w H s.heap a (.dT kvs) from I.hok a _ ea)
  exact PySem.W.kia_one PySem.W.kitx_dict I.fY ⟨o,h1,h2.1⟩ e (λz=>nomatch z) h
 | @ins a C dx fs ea cl ha hn htk hm =>
  cases (show u=Value.ref a from rx)
  obtain⟨mA,O,_⟩:=tN I.hok ea
  obtain⟨od,J,_⟩:=O.look
  exact PySem.W.kia_one (PySem.W.kitx_own (cl.get _) cl.hd ha hn htk hm) I.fY J e (λz=>nomatch z) h
end
structure cm (k:Nat) (A:Around):Prop where
 hd:A.handled=none
 dp:A.depth+3*k+5<recursionLimit
 un:A.units+16*k+200<cLine
theorem cm.mono {j k:Nat} {A:Around} (r:cm k A) (h:j<=k):cm j A:=⟨r.hd,by have:=r.dp;omega,by have:=r.un;omega⟩
theorem cm.deeper {k:Nat} {A:Around} (r:cm (k+1) A) (env:Env):cm k (A.deeper env) :=
 ⟨r.hd,by have:=r.dp;show A.depth+1+3*k+5<_;omega,by have:=r.un;show A.units+3+16*k+200<_;omega⟩
theorem nj {A:Around} {C:Addr} {us:List Value} {kw:List (Str × Value)}:(A.under (.builtin "type.__call__" ⟨.ref C::us,kw⟩)).depth=A.depth+1:=by
 first | rfl | simp [Around.under,Code.weight,Code.isCreation,Code.isGuard,Code.isCaller,Code.frames,Code.isFrame,guardIds]
theorem nk {A:Around} {C:Addr} {us:List Value} {kw:List (Str × Value)}:(A.under (.builtin "type.__call__" ⟨.ref C::us,kw⟩)).units=A.units+1:=by
 first | rfl | simp [Around.under,Code.cUnits,Code.frames,Code.isFrame]
theorem cm.make {k:Nat} {A:Around} (r:cm (k+1) A) (C:Addr) (us:List Value) (kw:List (Str × Value)):cm k (A.under (.builtin "type.__call__" ⟨.ref C::us,kw⟩)) :=
 ⟨r.hd,by have:=r.dp;rw [nj];omega,by have:=r.un;rw [nk];omega⟩
theorem cm.depth {k:Nat} {A:Around} (r:cm k A):A.depth<recursionLimit:=by have:=r.dp;omega
theorem cm.units {k:Nat} {A:Around} (r:cm k A):A.units+64<cLine:=by have:=r.un;omega
def uT:TA:=λ_ H Q=>Q [] H
def mF (ta:TE) (tr:TA):TA:=λσ H Q=>ta σ H λx H1=>tr σ H1 λxs H2=>Q (x::xs) H2
section
variable {X:Cx} {e:Expr} {es:List Expr} {te:TE} {t:TA} {pos:Pos}
theorem ae:PA X [] uT:=λ_ _ _ _ H Q I h=>Calls.spliced_nil ⟨[],H,I,.nil,h⟩
theorem aa (ha:PE X e te) (hr:PA X es t) (hs:starEach (e::es) X.env=(false,eval e X.env)::starEach es X.env:=by rfl):PA X (e::es) (mF te t):=by
 intro pos pins s σ H Q I h
 rw [hs]
 show wpAny _ _ (spliced ((false,eval e X.env)::backTo pos (starEach es X.env))) _ _ s
 refine Calls.spliced_cons (bH (ha pins s σ H _ I h) λu s1 ⟨x,H1,I1,r1,q1⟩=>?_)
 exact bH (hr pos pins s1 σ H1 _ I1 q1) λus s2 ⟨xs,H2,I2,r2,q2⟩=>⟨x::xs,H2,I2,.cons r1 r2,q2⟩
def yH (t:TA):TE:=λσ H Q=>t σ H λxs H1=>xs.length<=sizeLine/\∀ p,H1 p=none->Q (.ref p) (upd H1 p (.tup xs))
def yz (t:TA):TE:=λσ H Q=>t σ H λxs H1=>xs.length<=sizeLine/\∀ p,H1 p=none->Q (.ref p) (upd H1 p (.lst xs))
theorem aF {x1} (h:PA X es t):PE X (.Tuple es x1 pos) (yH t):=by
 intro pins s σ H Q I hq
 refine wpAny_Tuple_spliced (bH (h pos pins s σ H _ I hq) λus s1 ⟨xs,H1,I1,r,z,q⟩=>⟨by rw [<- r.length];exact z,?_⟩)
 have hf:H1 s1.heap.objs.size=none:=I1.hok.fresh (Nat.le_refl _)
 refine⟨.ref s1.heap.objs.size,upd H1 s1.heap.objs.size (.tup xs),I1.laid (t':=s1.toks) (λb u e=>Heap.get?_push_of_some _ e) (Nat.le_refl _) ?_,rfl,q _ hf⟩
 exact⟨z,us,r,⟨_,Heap.get?_push_size _ rfl,rfl,_,rfl⟩⟩
theorem bW (h:PA X es t):PE X (.List es pos) (yz t):=by
 intro pins s σ H Q I hq
 refine wpAny_List_spliced (bH (h pos pins s σ H _ I hq) λus s1 ⟨xs,H1,I1,r,z,q⟩=>⟨by rw [<- r.length];exact z,?_⟩)
 have hf:H1 s1.heap.objs.size=none:=I1.hok.fresh (Nat.le_refl _)
 refine⟨.ref s1.heap.objs.size,upd H1 s1.heap.objs.size (.lst xs),I1.laid (t':=s1.toks) (λb u e=>Heap.get?_push_of_some _ e) (Nat.le_refl _) ?_,rfl,q _ hf⟩
 exact⟨z,us,0,r,Heap.get?_push_size _ rfl⟩
end
abbrev Sp:=List V->Hp->VK->XK->Prop
abbrev iE:=List Env->Hp->Shared->XK->Value->Shared->Prop
structure mN (P:Program) (w:World) (K:PySem.W.Frag) (mg:Str->Option Value) (base:Heap) (A:Around) (outer:List Env) (s:Shared) (H:Hp):Prop where
 frames:A.frames=some outer
 mod:Mod K mg base
 bs:∀ b o,base.get? b=some o->s.heap.get? b=some o/\H b=none
 bsz:base.objs.size<=s.heap.objs.size
 iq:s.heap.FunFrames base outer
 frf:∀ b∈fx outer,H b=none
 hok:eP P w H s.heap
 bare:AllBare s.gens
def CE (outer:List Env) (P:Program) (w:World) (H:Hp) (s:Shared) (Q:VK) (u:Value) (s':Shared):Prop :=
 ∃ v H',s'.os=s.os/\AllBare s'.gens/\Un (fx outer) [] H H' s.heap s'.heap/\eP P w H' s'.heap/\RelV v u/\Q v H'
def CR (CX:iE) (outer:List Env) (P:Program) (w:World) (H:Hp) (s:Shared) (Q:VK) (E:XK) (r:Result) (s':Shared):Prop :=
 match r with
 | .ok (.ret u)=>CE outer P w H s Q u s'
 | .ok _=>False
 | .error e=>CX outer H s E e s'
structure cS (P:Program) (w:World) (K:PySem.W.Frag) (mg:Str->Option Value) (base:Heap) (CX:iE) (k:Nat) (f:Addr) (fd:FuncData) (ps:List Str) (sp:Sp):Prop where
 len:∀ vs H Q E,sp vs H Q E->vs.length=ps.length
 run:∀(A:Around) (outer:List Env) (s:Shared) (H:Hp) (args:Args) (us:List Value) (vs:List V) (Q:VK) (E:XK),cm k A->mN P w K mg base A outer s H->BindsTo s fd args (ps.zip us)->Vals vs us->sp vs H Q E ->
  codeAny (model P w) A (.call (.ref f) args) (CR CX outer P w H s Q E) s
theorem cS.mono {P:Program} {w:World} {K:PySem.W.Frag} {mg:Str->Option Value} {base:Heap} {CX:iE} {j k:Nat} {f:Addr} {fd:FuncData} {ps:List Str} {sp:Sp} (F:cS P w K mg base CX j f fd ps sp) (h:j<=k) :
  cS P w K mg base CX k f fd ps sp:=⟨F.len,λA outer s H args us vs Q E hr=>F.run A outer s H args us vs Q E (hr.mono h)⟩
theorem cS.imp {P:Program} {w:World} {K:PySem.W.Frag} {mg:Str->Option Value} {base:Heap} {CX:iE} {k:Nat} {f:Addr} {fd:FuncData} {ps:List Str} {sp sp':Sp} (F:cS P w K mg base CX k f fd ps sp)
  (h:∀ vs H Q E,sp' vs H Q E->sp vs H Q E):cS P w K mg base CX k f fd ps sp' :=
 ⟨λvs H Q E q=>F.len vs H Q E (h _ _ _ _ q),λA outer s H args us vs Q E hr he hb hv hs=>F.run A outer s H args us vs Q E hr he hb hv (h _ _ _ _ hs)⟩
theorem mN.make {P:Program} {w:World} {K:PySem.W.Frag} {mg:Str->Option Value} {base:Heap} {A:Around} {outer:List Env} {s:Shared} {H:Hp} (e:mN P w K mg base A outer s H) (C:Addr) (us:List Value) (kw:List (Str × Value)) :
  mN P w K mg base (A.under (.builtin "type.__call__" ⟨.ref C::us,kw⟩)) outer s H:=⟨by first | exact e.frames | (simpa [Around.under,Code.envs,Code.isFrame,pushEnvs] using e.frames),e.mod,e.bs,e.bsz,e.iq,e.frf,e.hok,e.bare⟩
section
variable {X:Cx} {pins:List (Addr × Obj)} {σ:St} {H:Hp} {s s':Shared}
theorem Inv.xT (I:Inv X pins σ H s):mN X.prog X.w X.K X.mg X.base X.A X.stack s H :=
 ⟨I.ok.frames,I.ok.mod,I.bs,Nat.le_trans I.ok.bsz I.sz,I.stack,I.gA,I.hok,I.bare⟩
theorem Inv.after {Q:VK} {u:Value} (I:Inv X pins σ H s) (h:CE X.stack X.prog X.w H s Q u s'):EP X pins σ Q u s':=by
 obtain⟨v,H',os,bare,un,hok,r,q⟩:=h
 obtain⟨hh,g,d,t,os'⟩:=s'
 obtain rfl:os'=s.os:=os
 exact⟨v,H',I.call (h':=hh) (g':=g) (d':=d) (t':=t) (ch:=[]) un hok bare (λb z=>absurd z (by simp)),r,q⟩
end
def mE (sp:Sp) (aY:List V) (E:XK) (t:TA):TE:=λσ H Q=>t σ H λvs H1=>sp (vs++aY) H1 Q E
def yB (C:Addr) (m:Str) (sp:Sp) (aY:List V) (E:XK) (ta:TE) (t:TA):TE:=λσ H Q=>ta σ H λx H1=>∃ a dx fs,x=.ref a/\H1 a=some (.ins C dx fs)/\fs.lookup m=none /\
 t σ H1 λvs H2=>sp (x::(vs++aY)) H2 Q E
def yA (C:Addr) (sp:Sp) (aY:List V) (E:XK) (t:TA):TE:=λσ H Q=>t σ H λvs H1=>∀ x dx,H1 x=none->H1 dx=none->dx≠x ->
 sp (.ref x::(vs++aY)) (upd (upd H1 dx (.own x)) x (.ins C dx [])) (λv H2=>v=.bo/\Q (.ref x) H2) E
def Binds (K:PySem.W.Frag) (fd:FuncData) (ps:List Str) (ds:List Value):Prop :=
 ∀(s:Shared) (us:List Value),K.In s.heap->(us++ds).length=ps.length->BindsTo s fd ⟨us,[]⟩ (ps.zip (us++ds))
theorem Binds.all {K:PySem.W.Frag} {fd:FuncData} {ps:List Str} (h:∀ us:List Value,us.length=ps.length->bindArgs fd ⟨us,[]⟩=pure (ps.zip us)):Binds K fd ps []:=λs us _ hl=>by
 rw [List.append_nil] at hl ⊢
 exact .of_eq (h us hl)
def Passes (CX:iE) (X:Cx) (E:XK):Prop:=∀(pins:List (Addr × Obj)) (σ:St) (H:Hp) (s:Shared) (e:Value) (s':Shared),Inv X pins σ H s->CX X.stack H s E e s'->X.xe e s'
section
variable {X:Cx} {CX:iE} {k:Nat} {f C:Addr} {fd:FuncData} {ps:List Str} {sp:Sp} {aY:List V} {ds:List Value} {E:XK} {x m:Str} {p pos apos:Pos} {e o:Expr} {es:List Expr} {ta:TE} {t:TA}
theorem xc {pins:List (Addr × Obj)} {σ:St} {H:Hp} {s:Shared} {Q:VK} {us:List Value} {vs:List V} (F:cS X.prog X.w X.K X.mg X.base CX k f fd ps sp) (hr:cm k X.A) (hb:Binds X.K fd ps ds) (hd:Vals aY ds) (hx:Passes CX X E)
  (I:Inv X pins σ H s) (r:Vals vs us) (h:sp (vs++aY) H Q E):wpAny (model X.prog X.w) X.A (call (.ref f) us) (EP X pins σ Q) X.xe s:=by
 have r2:Vals (vs++aY) (us++ds):=r.append hd
 have hl:(us++ds).length=ps.length:=by rw [<- r2.length];exact F.len _ _ _ _ h
 refine wpAny_call (codeAny_mono (F.run X.A X.stack s H ⟨us,[]⟩ (us++ds) (vs++aY) Q E hr I.xT (hb s us I.fY hl) r2 h) λr s' hq=>?_)
 cases r with
 | error e=>exact hx pins σ H s e s' I hq
 | ok fl =>
  cases fl with
  | ret u=>exact I.after hq
  | next=>exact False.elim hq
  | brk=>exact False.elim hq
  | cont=>exact False.elim hq
theorem uv (F:cS X.prog X.w X.K X.mg X.base CX k f fd ps sp) (hr:cm k X.A) (hg:Gl X x) (hm:X.mg x=some (.ref f)) (hk:PySem.W.keepIn X.K (.ref f)=true) (hb:Binds X.K fd ps ds) (hd:Vals aY ds) (hx:Passes CX X E)
  (ha:PA X (e::es) t) (hdb:(x==("__debug__":Str))=false:=by decide) (he:starEach (e::es) X.env=(false,eval e X.env)::starEach es X.env:=by rfl) (hpl:(backTo pos (starEach es X.env)).any (·.1)=false:=by rfl) :
  PE X (.Call (.Name x p) (e::es) [] pos) (mE sp aY E t):=by
 intro pins s σ H Q I h
 refine wpAny_Call_Name_kw (iz I hg hm ?_ hdb)
 refine PySem.W.callWith_K (h₀:=X.base) I.ok.mod.kin hk (bH (ha pos pins s σ H _ I h) λus s1 ⟨vs,H1,I1,r,q⟩=>⟨I1.fY,?_⟩) he hpl
 exact xc F hr hb hd hx I1 r q
end
section
variable {X:Cx} {CX:iE} {k:Nat} {f C:Addr} {fd:FuncData} {ps ks:List Str} {sp:Sp} {E:XK} {x m:Str} {p pos apos kpos:Pos} {e o:Expr} {es:List Expr} {kws:List Keyword} {te ta:TE} {t tk:TA} {nm:Option Str}
variable {g:List Value->List Value->List Value} {gV:List V->List V->List V}
end
structure ay (N P:List Str) (sc:Scope):Prop where
 kind:sc.kind=.function
 co:sc.isCoroutine=false
 gen:sc.isGenerator=false
 nd:N.Nodup
 pre:N.take P.length=P
 par:∀ x∈P,sc.names.lookup x=some .local∨sc.names.lookup x=some .cell
 nofree:∀ y∈sc.names,y.2≠.free
theorem jH {kindOf:Str->Option NameKind} {x:Str}:∀{binds:List (Str × Value)} {m:Str->Option Value},(∀ v,(x,v)∉binds)->bindL kindOf binds m x=m x
 | [],_,_=>rfl
 | (n,v)::r,m,h=>by
  unfold bindL
  rw [jH λw hw=>h w (List.mem_cons_of_mem _ hw)]
  split
  ·have:x≠n:=by rintro rfl;exact h v List.mem_cons_self
   simp [this]
  ·rfl
theorem jF {kindOf:Str->Option NameKind} {x:Str}:∀{binds:List (Str × Value)} {m:Str->Option Value},(∀ v,(x,v)∉binds)->bindC kindOf binds m x=m x
 | [],_,_=>rfl
 | (n,v)::r,m,h=>by
  unfold bindC
  rw [jF λw hw=>h w (List.mem_cons_of_mem _ hw)]
  split
  ·rfl
  ·have:x≠n:=by rintro rfl;exact h v List.mem_cons_self
   simp [this]
theorem jG {kindOf:Str->Option NameKind} {x:Str} {v:Value}:∀{P:List Str} {vs:List Value} {i:Nat} {m:Str->Option Value},P.Nodup->P[i]?=some x->vs[i]?=some v->kindOf x=some .local ->
  bindL kindOf (P.zip vs) m x=some v
 | [],_,_,_,_,h,_,_=>by simp at h
 | _::_,[],_,_,_,_,h,_=>by simp at h
 | p::P,w::vs,0,m,nd,h1,h2,hk=>by
  simp at h1 h2;subst h1;subst h2
  show bindL kindOf ((p,w)::P.zip vs) m p=_
  unfold bindL
  rw [jH λv hv=>(List.nodup_cons.mp nd).1 (List.of_mem_zip hv).1,if_pos hk]
  simp
 | p::P,w::vs,i+1,m,nd,h1,h2,hk=>by
  show bindL kindOf ((p,w)::P.zip vs) m x=_
  unfold bindL
  exact jG (i:=i) (List.nodup_cons.mp nd).2 (by simpa using h1) (by simpa using h2) hk
theorem jE {kindOf:Str->Option NameKind} {x:Str} {v:Value}:∀{P:List Str} {vs:List Value} {i:Nat} {m:Str->Option Value},P.Nodup->P[i]?=some x->vs[i]?=some v->kindOf x≠some .local ->
  bindC kindOf (P.zip vs) m x=some v
 | [],_,_,_,_,h,_,_=>by simp at h
 | _::_,[],_,_,_,_,h,_=>by simp at h
 | p::P,w::vs,0,m,nd,h1,h2,hk=>by
  simp at h1 h2;subst h1;subst h2
  show bindC kindOf ((p,w)::P.zip vs) m p=_
  unfold bindC
  rw [jF λv hv=>(List.nodup_cons.mp nd).1 (List.of_mem_zip hv).1,if_neg hk]
  simp
 | p::P,w::vs,i+1,m,nd,h1,h2,hk=>by
  show bindC kindOf ((p,w)::P.zip vs) m x=_
  unfold bindC
  exact jE (i:=i) (List.nodup_cons.mp nd).2 (by simpa using h1) (by simpa using h2) hk
def start (N:List Str) (vs:List V):St:=vs.map some++List.replicate (N.length-vs.length) none
def ei (CX:iE) (P:Program) (w:World) (K:PySem.W.Frag) (mg:Str->Option Value) (base:Heap) (N:List Str) (qual:Str) (scope:Scope) (f:Addr) (cd:Value) (A:Around) (outer:List Env) (s:Shared) (H:Hp) (E:XK):Cx where
 prog:=P
 w:=w
 K:=K
 mg:=mg
 base:=base
 A:=A.deeper (envOfC qual scope s.heap.objs.size f cd)
 N:=N
 s₀:=s
 H₀:=H
 env:=envOfC qual scope s.heap.objs.size f cd
 outer:=outer
 stack:=envOfC qual scope s.heap.objs.size f cd::outer
 ex:=[]
 calm:=true
 fn:=λ_=>true
 pn:=[]
 xe:=λe s'=>wpAny (model P w) (A.deeper (envOfC qual scope s.heap.objs.size f cd)) (leaving (envOfC qual scope s.heap.objs.size f cd) e) (λ_ s''=>CX outer H s E e s'') (λe' s''=>CX outer H s E e' s'') s'
theorem lB {sc:Scope} {n:Nat} {x:Str} (h:sc.names.lookup x=some .cell):∃ c,(cellsFrom n sc.names []).lookup x=some c:=by
 have q:=PySem.W.cellsFrom_some sc.names n [] (.inl h)
 exact Option.isSome_iff_exists.mp q
theorem pK {CX:iE} {P:Program} {w:World} {K:PySem.W.Frag} {mg:Str->Option Value} {base:Heap} {N ps:List Str} {qual:Str} {scope:Scope} {f:Addr} {cd:Value} {A:Around} {outer:List Env} {s s1:Shared} {H:Hp} {E:XK} {us:List Value} {vs:List V}
  (S:ay N ps scope) (hd:A.handled=none) (e0:mN P w K mg base A outer s H) (hl:vs.length=ps.length) (r:Vals vs us)
  (x:InCallC s s.heap.objs.size (bindL (envOfC qual scope s.heap.objs.size f cd).kindOf (ps.zip us) λ_=>none) (cellsFrom (s.heap.objs.size+1) scope.names []) (bindC (envOfC qual scope s.heap.objs.size f cd).kindOf (ps.zip us) λ_=>none) s1) :
  Inv (ei CX P w K mg base N qual scope f cd A outer s H E) [] (start N vs) H s1:=by
 have hpl:ps.length<=N.length:=by have:=congrArg List.length S.pre;rw [List.length_take] at this;omega
 obtain⟨h1,tk,rfl,hk⟩:=x.done
 have noA:∀ b:Addr,b∉(ei CX P w K mg base N qual scope f cd A outer s H E).ex:=λb z=>absurd (show b∈([]:List Addr) from z) (by simp)
 refine⟨⟨e0.mod,S.kind,rfl,rfl,Nat.le_refl _,λy z c h1 h2=>?_,λy hy=>?_,λy c _ h=>?_,λ_=>hd,Around.frames_deeper e0.frames,.inr ⟨rfl,rfl⟩,λb z=>absurd z (noA b),e0.bs,e0.bsz,λb _ _=>noA b,λb z=>absurd z (noA b),e0.iq,e0.frf⟩,
  rfl,e0.bare,Un.kept hk,⟨_,x.toInCall.ns,λi y v h1 h2 h3=>?_⟩,λy c h=>⟨_,x.cell y c h⟩,e0.hok.fresh (Nat.le_refl _),λy c h=>?_,λp hp=>absurd (show p∈([]:List (Addr × Obj)) from hp) (by simp),e0.hok.kept hk,?_⟩
 ·exact name_of_addr x.apart (PySem.mem_of_lookup h1) (PySem.mem_of_lookup h2)
 ·have hy:scope.names.lookup y=some .cell∨scope.names.lookup y=some .free:=hy
  rcases hy with hy | hy
  ·exact lB hy
  ·exact absurd rfl (S.nofree _ (PySem.mem_of_lookup hy))
 ·exact Nat.le_of_lt (x.above y c (PySem.mem_of_lookup h))
 ·have hi:i<vs.length:=by
   unfold start at h2
   by_cases hi:i<vs.length
   ·exact hi
   ·rw [List.getElem?_append_right (by simpa using hi)] at h2
    rw [List.getElem?_replicate] at h2
    split at h2<;>cases h2
  have ha:vs[i]?=some v:=by
   unfold start at h2
   rw [List.getElem?_append_left (by simpa using hi),List.getElem?_map] at h2
   cases e:vs[i]? with
   | none=>rw [e] at h2;cases h2
   | some a=>rw [e] at h2;cases h2;rfl
  obtain⟨u,hu,rv⟩:=r.get ha
  have hp:ps[i]?=some y:=by
   rw [<- S.pre,List.getElem?_take_of_lt (by omega)];exact h1
  have ndP:ps.Nodup:=by rw [<- S.pre];exact S.nd.sublist (List.take_sublist _ _)
  refine⟨u,rv,?_⟩
  rcases S.par y (List.mem_of_getElem? hp) with k | k
  ·exact .inl ⟨k,jG ndP hp hu k⟩
  ·obtain⟨c,e⟩:=lB (n:=s.heap.objs.size+1) k
   refine .inr ⟨.inl k,c,e,?_⟩
   have q:=x.cell y c e
   rw [jE ndP hp hu (by show scope.names.lookup y≠_;rw [k];decide)] at q
   exact q
 ·exact e0.hok.fresh (Nat.le_of_lt (x.above y c (PySem.mem_of_lookup h)))
 ·unfold start
  show _=N.length
  rw [List.length_append,List.length_map,List.length_replicate]
  omega
theorem ve {CX:iE} {P:Program} {w:World} {K:PySem.W.Frag} {mg:Str->Option Value} {base:Heap} {k:Nat} {f:Addr} {name qual:Str} {params:Arguments} {body:List Stmt} {scope:Scope} {dV kV doc pm cdv ct oc:Value} {an od:Option Addr}
  {osl:Array (Option Value)} {N ps:List Str} {sp:Sp} (lk:K.lookup f=some ⟨oc,od,.func (PySem.W.fnOf name qual params body scope dV kV doc pm an cdv ct),osl⟩) (hcd:PySem.W.codeIn K cdv qual=true) (S:ay N ps scope)
  (len:∀ vs H Q E,sp vs H Q E->vs.length=ps.length)
  (hbody:∀(A:Around) (outer:List Env) (s:Shared) (H:Hp) (vs:List V) (Q:VK) (E:XK),cm k (A.deeper (envOfC qual scope s.heap.objs.size f cdv))->sp vs H Q E ->
   ∃ t,ix (ei CX P w K mg base N qual scope f cdv A outer s H E) body t/\t { nx:=λ_ H'=>Q .bo H',rt:=Q } (start N vs) H) :
  cS P w K mg base CX (k+1) f (PySem.W.fnOf name qual params body scope dV kV doc pm an cdv ct) ps sp:=by
 refine⟨len,λA outer s H args us vs Q E hr e0 hb r hsp=>?_⟩
 have hl:=len _ _ _ _ hsp
 have KX:K.In s.heap:=e0.mod.kin.keeps λb o e=>(e0.bs b o e).1
 have lim:s.heap.NoLimit:=e0.mod.nolimit.keeps λb o e=>(e0.bs b o e).1
 have hkind:∀ y∈ps.zip us,scope.names.lookup y.1=some .local∨(scope.names.lookup y.1=some .cell/\((cellsFrom (s.heap.objs.size+1) scope.names []).lookup y.1).isSome=true):=fun⟨n,v⟩ hy=>by
  rcases S.par n (List.of_mem_zip hy).1 with q | q
  ·exact .inl q
  ·exact .inr ⟨q,PySem.W.cellsFrom_some _ _ _ (.inl q)⟩
 refine codeAny_call_function hr.depth (KX _ _ lk) rfl S.co S.gen rfl (PySem.W.codeRec_of KX hcd) (hb _ _ _ _ ?_)
 refine wpAny_newFunctionEnv_cells S.kind hkind λenv he s1 x=>?_
 subst he
 refine⟨lim.keeps x.toInCall.keep,codeAny_func ?_⟩
 obtain⟨t,ht,hq⟩:=hbody A outer s H vs Q E (hr.deeper _) hsp
 have I:Inv (ei CX P w K mg base N qual scope f cdv A outer s H E) [] (start N vs) H s1:=pK S hr.hd e0 hl r x
 refine wpAny_mono (ht [] s1 (start N vs) H _ I hq) (λfl s' hs=>?_) λe s' hs=>hs
 have fin:∀{σ':St} {H':Hp} {v:V} {u:Value},Inv (ei CX P w K mg base N qual scope f cdv A outer s H E) [] σ' H' s'->RelV v u->Q v H'->CE outer P w H s Q u s' :=
  λ{σ' H' v u} J rv q=>⟨v,H',J.os,J.bare,J.base,J.hok,rv,q⟩
 cases fl with
 | ret u =>
  obtain⟨v,σ',H',J,rv,q⟩:=hs
  exact fin J rv q
 | next =>
  obtain⟨σ',H',J,q⟩:=hs
  exact fin (v:=V.bo) (u:=Value.none) J rfl q
 | brk =>
  obtain⟨_,_,_,q⟩:=hs
  exact False.elim q
 | cont =>
  obtain⟨_,_,_,q⟩:=hs
  exact False.elim q
section
variable {X:Cx} {x:Str} {p pos:Pos} {e:Expr} {es:List Expr} {t:TA} {id T:String} {r:List V->Hp->VK->Prop}
def zD (r:List V->Hp->VK->Prop) (t:TA):TE:=λσ H Q=>t σ H λvs H1=>r vs H1 Q
theorem aC (hc:eO X (.builtin id) r) (hg:Gl X x) (hm:X.mg x=none) (hv:bootBuiltins x=some (.builtin id)) (ha:PA X (e::es) t) (hn:x ≠ "__name__":=by decide) (hdb:(x==("__debug__":Str))=false:=by decide)
  (he:starEach (e::es) X.env=(false,eval e X.env)::starEach es X.env:=by rfl) (hpl:(backTo pos (starEach es X.env)).any (·.1)=false:=by rfl):PE X (.Call (.Name x p) (e::es) [] pos) (zD r t):=by
 intro pins s σ H Q I h
 refine wpAny_Call_Name_kw (iN I hg hm hv ?_ hn hdb)
 exact PyProof.Rows.callWith_builtin1 (bH (ha pos pins s σ H _ I h) λus s1 ⟨vs,H1,I1,r1,q1⟩=>hc pins s1 σ H1 vs us Q I1 r1 q1) he hpl
theorem cJ (hc:eO X (.type T) r) (hg:Gl X x) (hm:X.mg x=none) (hv:bootBuiltins x=some (.type T)) (ha:PA X (e::es) t) (hn:x ≠ "__name__":=by decide) (hdb:(x==("__debug__":Str))=false:=by decide)
  (he:starEach (e::es) X.env=(false,eval e X.env)::starEach es X.env:=by rfl) (hpl:(backTo pos (starEach es X.env)).any (·.1)=false:=by rfl):PE X (.Call (.Name x p) (e::es) [] pos) (zD r t):=by
 intro pins s σ H Q I h
 refine wpAny_Call_Name_kw (iN I hg hm hv ?_ hn hdb)
 exact PyProof.Rows.callWith_type1 (bH (ha pos pins s σ H _ I h) λus s1 ⟨vs,H1,I1,r1,q1⟩=>hc pins s1 σ H1 vs us Q I1 r1 q1) he hpl
end
end L2
namespace HT
open PySem PyProof.Rows
section
open PySem.SeqAt
open PySem.AutoSeq1 (wpAny_loadPart')
open PySem.MeetsSeq PySem.MeetsSeq2 PySem.MeetsSeq3
end
section
variable {prog:Program} {w:World} {A:Around} {E:Value->Shared->Prop} {s:Shared}
theorem tD {t b:Addr} {vs ws:List Value} {Q:Value->Shared->Prop} (ht:IsTup s.heap t vs.toArray) (hb:IsTup s.heap b ws.toArray) (hv:vs≠[])
  (h1:ws=[]->Q (.ref t) s) (h2:ws≠[]->Q (.ref s.heap.objs.size) { s with heap:=s.heap.push { cls:=.type "tuple",data:=.seq (vs++ws).toArray } })
  (hsz:vs.length+ws.length<=sizeLine):wpAny (model prog w) A (binaryOp .Add (.ref t) (.ref b)) Q E s:=by
 obtain⟨⟨cls,dd,data,sl⟩,ho,hc,n,hd⟩:=id ht
 obtain⟨⟨cls2,dd2,data2,sl2⟩,ho2,hc2,n2,hd2⟩:=id hb
 simp only at hc hd hc2 hd2
 subst hc hd hc2 hd2
 have e:vs.toArray++ws.toArray=(vs++ws).toArray:=by simp
 by_cases hw:ws=[]
 ·exact concat_meets ⟨_,ho,rfl⟩ ⟨_,ho2,rfl⟩ noFill_tuple_add seq_tuple_add PySem.F.slot_tuple_add PySem.F.entry_tuple_add (PySem.F.args_tuple_add_2 _ _)
   (tuple_addW1 t b vs.toArray ws.toArray n n2 dd dd2 sl sl2 (by simpa using hv) (by simp [hw])) ⟨ho,ho2,h1 hw⟩
 ·refine concat_meets ⟨_,ho,rfl⟩ ⟨_,ho2,rfl⟩ noFill_tuple_add seq_tuple_add PySem.F.slot_tuple_add PySem.F.entry_tuple_add (PySem.F.args_tuple_add_2 _ _)
   (tuple_addW2 t b vs.toArray ws.toArray n n2 dd dd2 sl sl2 (by simpa using hv) (by simpa using hw) (by rw [List.size_toArray,List.size_toArray];exact hsz)) ⟨ho,ho2,?_⟩
  rw [e]
  exact h2 hw
def cG (n d:Nat):Option Int->Nat
 | none=>d
 | some v=>if v<0 then (v+(n:Int)).toNat else min v.toNat n
theorem xf (n d:Nat) (hd:d<=n) (o:Option Int):cG n d o<=n:=by
 cases o with
 | none=>exact hd
 | some v =>
  show (if v<0 then (v+(n:Int)).toNat else min v.toNat n)<=n
  by_cases hv:v<0
  ·rw [if_pos hv];omega
  ·rw [if_neg hv];exact Nat.min_le_right _ _
theorem n6 (v:Int) (n d:Nat):(if v<0 then max (v+(n:Int)) 0 else min v (n:Int))=((cG n d (some v):Nat):Int):=by
 show (if v<0 then max (v+(n:Int)) 0 else min v (n:Int))=(((if v<0 then (v+(n:Int)).toNat else min v.toNat n):Nat):Int)
 by_cases hv:v<0
 ·simp only [if_pos hv];omega
 ·simp only [if_neg hv];omega
theorem mR (lo hi:Option Int) (n:Nat):Builtin.Slice.sliceAdjust lo hi 1 (n:Int)=(((cG n 0 lo:Nat):Int),((cG n n hi:Nat):Int)):=by
 have h1:¬((1:Int)<0):=by omega
 unfold Builtin.Slice.sliceAdjust
 simp only [h1,if_false]
 refine Prod.ext ?_ ?_
 ·cases lo with
  | none=>rfl
  | some v=>exact n6 v n 0
 ·cases hi with
  | none=>rfl
  | some v=>exact n6 v n n
theorem nM (i j:Nat):Builtin.Slice.slicePlaces (i:Int) (j:Int) 1=j-i:=by
 unfold Builtin.Slice.slicePlaces
 have h1:(1:Int) > 0:=by omega
 simp only [h1,if_true,Int.ediv_one]
 split<;>omega
theorem fK {v:Value} {o:Option Int} {Q:Option Int->Shared->Prop} (p:IsPart v o) (h:Q o s):wpAny (model prog w) A (Builtin.Slice.slicePartIndex v) Q E s:=by
 cases p with
 | none=>exact slicePart_none h
 | int i t=>exact slicePart_int h
theorem d8 {sl:Addr} {vl vu:Value} {lo hi:Option Int} {n:Nat} {Q:Int × Int × Nat->Shared->Prop} (hs:s.heap.IsSliceOf sl vl vu .none) (pl:IsPart vl lo) (pu:IsPart vu hi)
  (h:Q (((cG n 0 lo:Nat):Int),1,cG n n hi-cG n 0 lo) s):wpAny (model prog w) A (Builtin.Slice.sliceApplied (.ref sl) (pure (n:Int))) Q E s:=by
 obtain⟨os,hos,hcs,hds⟩:=id hs
 unfold Builtin.Slice.sliceApplied Builtin.Slice.sliceFields
 refine wpAny_bind (wpAny_bind (wpAny_field hos hds (x:=vl) rfl (wpAny_bind (wpAny_field hos hds (x:=vu) rfl (wpAny_bind (wpAny_field hos hds (x:=.none) rfl (wpAny_pure ?_)))))))
 refine wpAny_bind (slicePart_none ?_)
 show wpAny _ _ (if ((1:Int)==0)=true then _ else _) _ _ s
 rw [if_neg (by decide)]
 refine wpAny_bind (fK pl (wpAny_bind (fK pu (wpAny_bind (wpAny_pure ?_)))))
 show wpAny _ _ (match Builtin.Slice.sliceAdjust lo hi 1 (n:Int) with | (lo,hi)=>pure (lo,(1:Int),Builtin.Slice.slicePlaces lo hi 1)) _ _ s
 rw [mR lo hi n]
 show wpAny _ _ (pure (((cG n 0 lo:Nat):Int),(1:Int),Builtin.Slice.slicePlaces ((cG n 0 lo:Nat):Int) ((cG n n hi:Nat):Int) 1)) _ _ s
 rw [nM]
 exact wpAny_pure h
theorem rJ (xs:Array Value) (i k:Nat):((List.range k).filterMap fun(m:Nat)=>xs[((i:Int)+(m:Int)*1).toNat]?).toArray=((xs.toList.drop i).take k).toArray:=by
 have e:(fun(m:Nat)=>xs[((i:Int)+(m:Int)*1).toNat]?)=λm=>xs[i+m]?:=by
  funext m
  have:((i:Int)+(m:Int)*1).toNat=i+m:=by omega
  rw [this]
 rw [e]
 have:=pick_run xs i k
 rw [List.filterMap_map] at this
 have e2:((λx=>xs[x]?)∘λx=>i+x)=λm=>xs[i+m]?:=rfl
 rw [e2] at this
 rw [this]
theorem fV {t sl:Addr} {items:Array Value} {vl vu:Value} {lo hi:Option Int} {Q:Value->Shared->Prop} (ht:IsTup s.heap t items) (hs:s.heap.IsSliceOf sl vl vu .none) (pl:IsPart vl lo) (pu:IsPart vu hi)
  (hw:¬(cG items.size 0 lo=0/\cG items.size items.size hi=items.size))
  (h:Q (.ref s.heap.objs.size) { s with heap:=s.heap.push { cls:=.type "tuple",data:=.seq ((items.toList.drop (cG items.size 0 lo)).take (cG items.size items.size hi-cG items.size 0 lo)).toArray } })
  (hsz:items.size<=sizeLine):wpAny (model prog w) A (getItem (.ref t) (.ref sl)) Q E s:=by
 have htake:sizeOk (.seq ((items.toList.drop (cG items.size 0 lo)).take (cG items.size items.size hi-cG items.size 0 lo)).toArray):=by
  show ((items.toList.drop (cG items.size 0 lo)).take (cG items.size items.size hi-cG items.size 0 lo)).toArray.size<=sizeLine
  rw [List.size_toArray,List.length_take,List.length_drop,Array.length_toList]
  omega
 have hj:cG items.size items.size hi<=items.size:=xf _ _ (Nat.le_refl _) hi
 obtain⟨os,hos,hcs,hds⟩:=id hs
 have hTs:s.TypeIs (.ref sl) "slice":=⟨os,hos,hcs⟩
 unfold getItem
 try with_reducible refine wpAny_holding ?_
 first | refine wpAny_bind (wpAny_pure ?_) | skip
 refine wpAny_bind (wpAny_sequenceKey ht.typeIs (by decide) ?_)
 refine wpAny_bind (wpAny_callSpecial?_slot (name:=Str.ofString "__getitem__") ht.typeIs PyProof.Rows.slot_tuple_getitem
  (wpAny_call_entry PyProof.Rows.slot_tuple_getitem ht.typeIs entry_tuple_getitem ?_ (args_tuple_getitem _ _)))
 show wpAny _ _ (Builtin.Tuple.tupleItemsOf (.ref t) >>= _) _ _ s
 refine wpAny_bind (tupleItemsOf_ ht ?_)
 refine wpAny_bind (wpAny_typeOf hTs ?_)
 rw [if_pos (by decide)]
 refine wpAny_bind (d8 hs pl pu ?_)
 have hno:¬((((cG items.size 0 lo:Nat):Int)==0 && (1:Int)==1 && (cG items.size items.size hi-cG items.size 0 lo)==items.size)=true):=by
  intro q
  rw [Bool.and_eq_true,Bool.and_eq_true] at q
  have q1:((cG items.size 0 lo:Nat):Int)=0:=eq_of_beq q.1.1
  have q2:cG items.size items.size hi-cG items.size 0 lo=items.size:=eq_of_beq q.2
  exact hw ⟨by omega,by omega⟩
 show wpAny _ _ (if (((cG items.size 0 lo:Nat):Int)==0 && (1:Int)==1 && (cG items.size items.size hi-cG items.size 0 lo)==items.size)=true then _ else _) _ _ s
 rw [if_neg hno,rJ]
 first
  | exact wpAny_bind (m:=Builtin.Tuple.tupleExact _) (wpAny_newObj_type (wpAny_pure ⟨_,rfl,wpAny_pure h⟩) htake)
  | exact wpAny_bind (m:=Builtin.Tuple.tupleExact _) (wpAny_newObj_type (wpAny_bind (wpAny_pure (wpAny_pure ⟨_,rfl,wpAny_pure h⟩))) htake)
  | exact wpAny_bind (wpAny_bind (m:=Builtin.Tuple.tupleExact _) (wpAny_newObj_type (wpAny_pure (wpAny_pure ⟨_,rfl,wpAny_pure h⟩)) htake))
  | exact wpAny_bind (wpAny_bind (m:=Builtin.Tuple.tupleExact _) (wpAny_newObj_type (wpAny_pure ⟨_,rfl,wpAny_pure h⟩) htake))
end
end HT
namespace L2
open PySem PySem.Spec PyProof.Rows
abbrev TO:=St->Hp->(Option Int->Hp->Prop)->Prop
def PO (X:Cx) (e:Option Expr) (t:TO):Prop :=
 ∀(pins:List (Addr × Obj)) (s:Shared) (σ:St) (H:Hp) (Q:Option Int->Hp->Prop),Inv X pins σ H s->t σ H Q ->
  wpAny (model X.prog X.w) X.A (evalPart e X.env) (λu s'=>∃ o H',Inv X pins σ H' s'/\IsPart u o/\Q o H') X.xe s
def oR:TO:=λ_ H Q=>Q none H
def vR (t:TE):TO:=λσ H Q=>t σ H λx H1=>∃ i,x=.int i/\Q (some i) H1
section
variable {X:Cx} {e:Expr} {te:TE} {lo hi:Option Expr} {tl th:TO} {pos p2:Pos}
theorem cM:PO X none oR:=by
 intro pins s σ H Q I h
 rw [evalPart_none]
 exact wpAny_pure ⟨none,H,I,.none,h⟩
theorem cF (h:PE X e te):PO X (some e) (vR te):=by
 intro pins s σ H Q I hw
 rw [evalPart_some]
 refine bH (h pins s σ H _ I hw) λu s1 ⟨x,H1,I1,r1,q1⟩=>?_
 obtain⟨i,rfl,q⟩:=q1
 obtain⟨t,rfl⟩:=r1
 exact⟨some i,H1,I1,.int i t,q⟩
def yO (X:Cx) (r:V->Option Int->Option Int->Hp->VK->Prop):Prop :=
 ∀(pins:List (Addr × Obj)) (s:Shared) (σ:St) (H:Hp) (x:V) (v vl vu:Value) (lo hi:Option Int) (sl:Addr) (Q:VK),Inv X pins σ H s->RelV x v->s.heap.IsSliceOf sl vl vu .none->IsPart vl lo->IsPart vu hi->r x lo hi H Q ->
  ∃ T id,typeLookup (.type T) "__getitem__"=pure (some (.builtin id))/\s.TypeIs v T/\wpAny (model X.prog X.w) X.A (getItem v (.ref sl)) (EP X pins σ Q) X.xe s
def z5 (r:V->Option Int->Option Int->Hp->VK->Prop) (te:TE) (tl th:TO):TE:=λσ H Q=>te σ H λx H1=>tl σ H1 λl H2=>th σ H2 λu H3=>r x l u H3 Q
theorem bZ {r:V->Option Int->Option Int->Hp->VK->Prop} (hr:yO X r) (he:PE X e te) (hl:PO X lo tl) (hu:PO X hi th):PE X (.Subscript e (.Slice lo hi none p2) pos) (z5 r te tl th):=by
 intro pins s σ H Q I h
 refine Subscript_ (bH (he pins s σ H _ I h) λv s1 ⟨x,H1,I1,r1,q1⟩=>?_)
 refine wpAny_Slice (bH (hl pins s1 σ H1 _ I1 q1) λvl s2 ⟨l,H2,I2,pl,q2⟩=>bH (hu pins s2 σ H2 _ I2 q2) λvu s3 ⟨u,H3,I3,pu,q3⟩=>?_)
 rw [evalPart_none]
 refine wpAny_pure ?_
 have I4:Inv X pins σ H3 { s3 with heap:=s3.heap.push { cls:=.type "slice",data:=.fields #[vl,vu,.none] } }:=I3.kept (t':=s3.toks) λb ob q=>Heap.get?_push_of_some _ q
 obtain⟨T,id,hT,ht,hg⟩:=hr pins { s3 with heap:=s3.heap.push { cls:=.type "slice",data:=.fields #[vl,vu,.none] } } σ H3 x v vl vu l u s3.heap.objs.size Q I4 r1 (Heap.IsSliceOf.new ..) pl pu q3
 show wpAny (model X.prog X.w) X.A (subscriptTail e (.Slice lo hi none p2) v (.ref s3.heap.objs.size)) (EP X pins σ Q) X.xe { s3 with heap:=s3.heap.push { cls:=.type "slice",data:=.fields #[vl,vu,.none] } }
 exact tail_any (ops:=[.ref s3.heap.objs.size,v]) ht hT hg (by with_unfolding_all rfl)
def eQ (xs:List V) (lo hi:Option Int):List V:=(xs.drop (HT.cG xs.length 0 lo)).take (HT.cG xs.length xs.length hi-HT.cG xs.length 0 lo)
theorem cp (xs:List V) (lo hi:Option Int):(eQ xs lo hi).length<=xs.length:=by
 unfold eQ
 rw [List.length_take,List.length_drop]
 omega
def zB (K:PySem.W.Frag):V->Option Int->Option Int->Hp->VK->Prop:=λx lo hi H Q=>∃ a xs,x=.ref a/\aQ K H a xs /\
 ¬(HT.cG xs.length 0 lo=0/\HT.cG xs.length xs.length hi=xs.length)/\∀ p,H p=none->Q (.ref p) (upd H p (.tup (eQ xs lo hi)))
theorem xj:yO X (zB X.K):=by
 intro pins s σ H x v vl vu lo hi sl Q I rx hs pl pu h
 obtain⟨a,xs,rfl,hx,hw,q⟩:=h
 cases rx
 obtain⟨its,r,ht,hz⟩:=I.tuple hx
 have hlen:its.toArray.size=xs.length:=by rw [List.size_toArray];exact r.length.symm
 refine⟨"tuple",_,PyProof.Rows.slot_tuple_getitem.lookup,ht.typeIs,?_⟩
 refine HT.fV ht hs pl pu (by rw [hlen];exact hw) ?_ (by rw [hlen];exact hz)
 rw [hlen]
 refine⟨.ref s.heap.objs.size,_,I.laid (t':=s.toks) (o:=.tup (eQ xs lo hi)) (λb ob q=>Heap.get?_push_of_some _ q) (Nat.le_refl _) ?_,rfl,q _ (I.hok.fresh (Nat.le_refl _))⟩
 exact⟨Nat.le_trans (cp xs lo hi) hz,_,(r.drop (HT.cG xs.length 0 lo)).take (HT.cG xs.length xs.length hi-HT.cG xs.length 0 lo),IsTup.new _ _⟩
def yi (K:PySem.W.Frag):R2:=λx y H Q=>∃ a b xs ys,x=.ref a/\y=.ref b/\aQ K H a xs/\aQ K H b ys/\xs≠[]/\xs.length+ys.length<=sizeLine /\
 (ys=[]->Q (.ref a) H)/\(ys≠[]->∀ p,H p=none->Q (.ref p) (upd H p (.tup (xs++ys))))
theorem Vals.iA {xs:List V} {us:List Value} (r:Vals xs us):us=[]↔xs=[]:=by
 cases r with
 | nil=>simp
 | cons _ _=>simp
theorem uo:fz X (binaryOp .Add) (yi X.K):=by
 intro pins s σ H x y v u Q I rx ry h
 obtain⟨a,b,xs,ys,rfl,rfl,ha,hb,hx,hz,q1,q2⟩:=h
 cases rx
 cases ry
 obtain⟨its,r1,p1,_⟩:=I.tuple ha
 obtain⟨its2,r2,p2,_⟩:=I.tuple hb
 refine HT.tD p1 p2 (λz=>hx (r1.iA.mp z)) (λz=>⟨.ref a,H,I,rfl,q1 (r2.iA.mp z)⟩) (λz=>?_) (by rw [<- r1.length,<- r2.length];exact hz)
 refine⟨.ref s.heap.objs.size,_,I.laid (t':=s.toks) (o:=.tup (xs++ys)) (λb ob q=>Heap.get?_push_of_some _ q) (Nat.le_refl _) ?_,rfl,q2 (λw=>z (r2.iA.mpr w)) _ (I.hok.fresh (Nat.le_refl _))⟩
 exact⟨by rw [List.length_append];exact hz,_,r1.append r2,IsTup.new _ _⟩
end
def tT (n:Nat) (i:Int):Option Nat:=if 0<=i then (if i<n then some i.toNat else none) else if -(n:Int)<=i then some (i+n).toNat else none
def nX {α:Type} (xs:List α) (i:Int):Option α:=(tT xs.length i).bind λj=>xs[j]?
theorem tV {n:Nat} {i:Int} {j:Nat} (h:tT n i=some j):seqIndex? i n=some j/\j<n /\ -(n:Int)<=i/\i<n:=by
 unfold tT at h
 by_cases h0:0<=i
 ·rw [if_pos h0] at h
  by_cases h1:i<n
  ·rw [if_pos h1] at h
   have e:i.toNat=j:=Option.some.inj h
   exact⟨by rw [seqIndex_of h0 h1,e],by omega,by omega,h1⟩
  ·rw [if_neg h1] at h;cases h
 ·rw [if_neg h0] at h
  by_cases h1:-(n:Int)<=i
  ·rw [if_pos h1] at h
   have e:(i+n).toNat=j:=Option.some.inj h
   exact⟨by rw [seqIndex_neg (by omega) h1,e],by omega,h1,by omega⟩
  ·rw [if_neg h1] at h;cases h
theorem nY {α:Type} {xs:List α} {i:Int} {v:α} (h:nX xs i=some v):∃ j,seqIndex? i xs.length=some j/\xs[j]?=some v/\j<xs.length /\ -(xs.length:Int)<=i/\i<xs.length:=by
 unfold nX at h
 cases e:tT xs.length i with
 | none=>rw [e] at h;cases h
 | some j =>
  rw [e] at h
  obtain⟨h1,h2,h3,h4⟩:=tV e
  exact⟨j,h1,h,h2,h3,h4⟩
theorem kj {α:Type} {xs:List α} {j:Nat} {v:α} (h:xs[j]?=some v):nX xs (j:Int)=some v:=by
 have hj:j<xs.length:=(List.getElem?_eq_some_iff.mp h).1
 have e:tT xs.length (j:Int)=some j:=by
  unfold tT
  rw [if_pos (by omega),if_pos (by omega)];simp
 unfold nX;rw [e];exact h
def sV (b:Expr):Prop:=∀ o i,subscripted b false o i=operate [o,i] (getItem o i)
def yK (X:Cx) (r:R2):Prop :=
 ∀(value slice:Expr) (pins:List (Addr × Obj)) (s:Shared) (σ:St) (H:Hp) (x y:V) (v u:Value) (Q:VK),Inv X pins σ H s->RelV x v->RelV y u->r x y H Q ->
  subscripted slice false v u=operate [v,u] (getItem v u)->wpAny (model X.prog X.w) X.A (subscriptTail value slice v u) (EP X pins σ Q) X.xe s
def y7 (X:Cx) (id:String) (r:V->List V->Hp->VK->Prop):Prop :=
 ∀(pins:List (Addr × Obj)) (s:Shared) (σ:St) (H:Hp) (x:V) (xs:List V) (v:Value) (us:List Value) (Q:VK),Inv X pins σ H s->RelV x v->Vals xs us->r x xs H Q ->
  wpAny (model X.prog X.w) X.A (call (.builtin id) (v::us)) (EP X pins σ Q) X.xe s
section
variable {X:Cx} {a b:Expr} {ta tb:TE} {pos:Pos}
theorem aH {r:R2} (hr:yK X r) (ha:PE X a ta) (hb:PE X b tb) (hs:sV b):PE X (.Subscript a b pos) (yD r ta tb):=by
 intro pins s σ H Q I h
 exact Subscript_ (v5 ha hb I h λv u s2 x y H2 I2 rx ry q=>hr a b pins s2 σ H2 x y v u Q I2 rx ry q (hs _ _))
def wZ (K:PySem.W.Frag):R2:=λx y H Q=>∃ p xs i v,x=.ref p/\y=.int i/\aT K H p xs/\nX xs i=some v/\Q v H
def w5 (K:PySem.W.Frag):R2:=λx y H Q=>∃ p xs i v,x=.ref p/\y=.int i/\aQ K H p xs/\nX xs i=some v/\Q v H
theorem cw:yK X (wZ X.K):=by
 intro value slice pins s σ H x y v u Q I rx ry h hs
 obtain⟨p,xs,i,z,rfl,rfl,hq,he,q⟩:=h
 cases rx
 obtain⟨t,rfl⟩:=ry
 obtain⟨its,r,pl,hz⟩:=I.list hq
 obtain⟨j,h1,h2,h3,h4,h5⟩:=nY he
 obtain⟨w,ew,rw'⟩:=r.get h2
 have hl:=r.length
 have hn:=kC
 have fin:EP X pins σ Q w s:=⟨z,H,I,rw',q⟩
 by_cases h0:0<=i
 ·have hj:i.toNat=j:=by
   rw [seqIndex_of h0 h5] at h1
   exact Option.some.inj h1
  exact item_listR pl.isList h0 (by omega) (by rw [hj];simpa using ew) fin hs
 ·have hj:(i+(its.toArray.size:Int)).toNat=j:=by
   rw [seqIndex_neg (by omega) h4] at h1
   rw [List.size_toArray,<- hl]
   exact Option.some.inj h1
  exact subscriptTail_builtinR (x:=w) pl.isList.typeIs slot_list_getitem.lookup
   (wpAny_getItem_list_neg (Q:=λr s'=>r=w/\EP X pins σ Q r s') pl.isList (by omega) (by rw [List.size_toArray]<;>omega) (by omega) (by rw [hj];simpa using ew) ⟨rfl,fin⟩) hs
theorem aI:yK X (w5 X.K):=by
 intro value slice pins s σ H x y v u Q I rx ry h hs
 obtain⟨p,xs,i,z,rfl,rfl,hq,he,q⟩:=h
 cases rx
 obtain⟨t,rfl⟩:=ry
 obtain⟨its,r,pl,hz⟩:=I.tuple hq
 obtain⟨j,h1,h2,h3,h4,h5⟩:=nY he
 obtain⟨w,ew,rw'⟩:=r.get h2
 have hl:=r.length
 have hn:=kC
 have fin:EP X pins σ Q w s:=⟨z,H,I,rw',q⟩
 exact subscriptTail_builtinR (x:=w) pl.typeIs slot_tuple_getitem.lookup
  (getItem_tuple (j:=j) (Q:=λr s'=>r=w/\EP X pins σ Q r s') pl (by omega) (by omega) (by rw [List.size_toArray,<- hl];exact h1) (by simpa using ew) ⟨rfl,fin⟩) hs
theorem Inv.lst {pins:List (Addr × Obj)} {σ:St} {H:Hp} {s:Shared} {p:Addr} {xs:List V} (I:Inv X pins σ H s) (h:H p=some (.lst xs)) :
  ∃(its:List Value) (n:Nat),Vals xs its/\s.heap.get? p=some { cls:=.type "list",data:=.seq its.toArray n }/\xs.length<=sizeLine:=by
 obtain⟨z,its,n,r,e⟩:=I.hok p _ h
 exact⟨its,n,r,e,z⟩
theorem kU (lo hi:Option Int) (n:Nat):(sliceBounds lo hi none n).1=((HT.cG n 0 lo:Nat):Int)/\(sliceBounds lo hi none n).2.1=((HT.cG n n hi:Nat):Int)/\(sliceBounds lo hi none n).2.2=1:=by
 refine⟨?_,?_,rfl⟩
 ·cases lo with
  | none=>simp [sliceBounds,HT.cG]
  | some i =>
   simp only [sliceBounds,HT.cG,Option.getD_none,show (1:Int) > 0 by decide,if_true]
   by_cases h:i<0
   ·simp only [h,if_true]<;>omega
   ·simp only [h,if_false]<;>omega
 ·cases hi with
  | none=>simp [sliceBounds,HT.cG]
  | some i =>
   simp only [sliceBounds,HT.cG,Option.getD_none,show (1:Int) > 0 by decide,if_true]
   by_cases h:i<0
   ·simp only [h,if_true]<;>omega
   ·simp only [h,if_false]<;>omega
theorem jz (its:List Value) (lo hi:Option Int):slicePick its.toArray lo hi none=((its.drop (HT.cG its.length 0 lo)).take (HT.cG its.length its.length hi-HT.cG its.length 0 lo)).toArray:=by
 obtain⟨h1,h2,h3⟩:=kU lo hi its.toArray.size
 unfold slicePick
 rw [h1,h2,h3]
 simp only [sliceRange_one,pick_run,List.size_toArray]<;>rfl
def zA (K:PySem.W.Frag):V->Option Int->Option Int->Hp->VK->Prop:=λx lo hi H Q=>∃ a xs,x=.ref a/\aT K H a xs/\∀ p,H p=none->Q (.ref p) (upd H p (.lst (eQ xs lo hi)))
theorem uN:yO X (zA X.K):=by
 intro pins s σ H x v vl vu lo hi sl Q I rx hs pl pu h
 obtain⟨a,xs,rfl,hx,q⟩:=h
 cases rx
 obtain⟨its,r,ht,hz⟩:=I.list hx
 have hlen:=r.length
 refine⟨"list",_,slot_list_getitem.lookup,ht.isList.typeIs,?_⟩
 refine wpAny_getItem_list_slice ht.isList hs pl pu .none (by simp) ?_ (by rw [List.size_toArray]<;>omega)
 rw [jz,<- hlen]
 refine⟨.ref s.heap.objs.size,_,I.laid (t':=s.toks) (o:=.lst (eQ xs lo hi)) (λb ob q=>Heap.get?_push_of_some _ q) (Nat.le_refl _) ?_,rfl,q _ (I.hok.fresh (Nat.le_refl _))⟩
 exact⟨Nat.le_trans (cp xs lo hi) hz,_,0,(r.drop (HT.cG xs.length 0 lo)).take (HT.cG xs.length xs.length hi-HT.cG xs.length 0 lo),Heap.get?_push_size _ rfl⟩
def vd:V->Bool
 | .bo=>true
 | .bl _=>true
 | .int _=>true
 | .str _=>true
 | _=>false
def Ag:V->V->Bool
 | .bo,.bo=>true
 | .bl a,.bl b=>a==b
 | .bl a,.int b=>(if a then 1 else 0)==b
 | .int a,.bl b=>a==(if b then 1 else 0)
 | .int a,.int b=>a==b
 | .str a,.str b=>a==b
 | _,_=>false
theorem km:eO X (.builtin "len") (λxs H Q=>∃ p ys,xs=[.ref p]/\(aT X.K H p ys∨aQ X.K H p ys)/\Q (.int ys.length) H):=by
 intro pins s σ H xs us Q I r h
 obtain⟨p,ys,rfl,hq,q⟩:=h
 obtain⟨u,rfl,rx⟩:=vals1 r
 cases rx
 have hn:=kC
 rcases hq with hq | hq
 ·obtain⟨its,r',pl,hz⟩:=I.list hq
  have hlen:=r'.length
  exact Calls.call_len_list pl.isList (by simp only [List.size_toArray]<;>omega) ⟨.int ys.length,H,I.tok _,⟨s.toks+1,by rw [List.size_toArray,hlen]⟩,q⟩
 ·obtain⟨its,r',pl,hz⟩:=I.tuple hq
  have hlen:=r'.length
  exact len_tuple pl (by simp only [List.size_toArray]<;>omega) ⟨.int ys.length,H,I.tok _,⟨s.toks+1,by rw [List.size_toArray,hlen]⟩,q⟩
theorem fP:eO X (.type "list") (λxs H Q=>∃ p ys,xs=[.ref p]/\(aT X.K H p ys∨aQ X.K H p ys)/\∀ l,H l=none->Q (.ref l) (upd H l (.lst ys))):=by
 intro pins s σ H xs us Q I r h
 obtain⟨p,ys,rfl,hq,q⟩:=h
 obtain⟨u,rfl,rx⟩:=vals1 r
 cases rx
 have fin:∀(its:List Value),Vals ys its->ys.length<=sizeLine->∀(h':Heap) (c':Nat),(∀ b o',s.heap.get? b=some o'->h'.get? b=some o') ->
   h'.get? s.heap.objs.size=some { cls:=.type "list",dict:=none,data:=.seq its.toArray c',slots:=#[] }->EP X pins σ Q (.ref s.heap.objs.size) { s with heap:=h' }:=λits r' hz h' c' kp e =>
  ⟨.ref s.heap.objs.size,_,I.laid (t':=s.toks) kp (Nat.le_refl _) (show aZ X.prog X.w _ h' _ (.lst ys) from ⟨hz,its,c',r',e⟩),rfl,q _ (I.hok.fresh (Nat.le_refl _))⟩
 rcases hq with hq | hq
 ·obtain⟨its,r',pl,hz⟩:=I.list hq
  have hlen:=r'.length
  obtain⟨o,ho,hc,n,hd⟩:=pl.isList
  exact call_list_seq p (.inl rfl) ho hc hd (λh' c' kp e=>fin its r' hz h' c' kp e) (by simp only [List.size_toArray]<;>omega)
 ·obtain⟨its,r',pl,hz⟩:=I.tuple hq
  have hlen:=r'.length
  obtain⟨o,ho,hc,n,hd⟩:=pl
  exact call_list_seq p (.inr rfl) ho hc hd (λh' c' kp e=>fin its r' hz h' c' kp e) (by simp only [List.size_toArray]<;>omega)
theorem cL:eO X (.type "tuple") (λxs H Q=>∃ p ys,xs=[.ref p]/\((aT X.K H p ys/\∀ l,H l=none->Q (.ref l) (upd H l (.tup ys)))∨(aQ X.K H p ys/\Q (.ref p) H))):=by
 intro pins s σ H xs us Q I r h
 obtain⟨p,ys,rfl,h⟩:=h
 obtain⟨u,rfl,rx⟩:=vals1 r
 cases rx
 rcases h with⟨hq,q⟩|⟨hq,q⟩
 ·obtain⟨its,r',pl,hz⟩:=I.list hq
  have hlen:=r'.length
  refine call_tuple_list pl.isList (λh' kp=>?_) (by simp only [List.size_toArray]<;>omega)
  have I1:Inv X pins σ H { s with heap:=h' }:=I.kept (t':=s.toks) kp
  have I2:Inv X pins σ (upd H h'.objs.size (.tup ys)) { s with heap:=h'.push { cls:=.type "tuple",data:=.seq its.toArray } } :=
   I1.laid (t':=s.toks) (λb o e=>Heap.get?_push_of_some _ e) (Nat.le_refl _) (show aZ X.prog X.w _ _ _ (.tup ys) from ⟨hz,its,r',IsTup.new _ _⟩)
  exact⟨.ref h'.objs.size,_,I2,rfl,q _ (I1.hok.fresh (Nat.le_refl _))⟩
 ·obtain⟨its,r',pl,hz⟩:=I.tuple hq
  exact call_tuple_same pl ⟨.ref p,H,I,rfl,q⟩
def zN (K:PySem.W.Frag) (T:String) (x:V) (H:Hp):Prop:=match x with
 | .str _=>T = "str"
 | .int _=>T = "int"
 | .ref p=>(T = "list"/\∃ xs,aT K H p xs)∨(T = "tuple"/\∃ o,K.lookup p=some o/\o.cls=.type "tuple"/\o.dict=none) ∨
   (T = "dict"/\((∃ kvs,H p=some (.dK kvs))∨∃ kvs,H p=some (.dT kvs)))∨(T = "set"/\∃ S n,H p=some (.set S n))
 | _=>False
theorem sL {pins:List (Addr × Obj)} {σ:St} {H:Hp} {s:Shared} {T:String} {x:V} {v:Value} (I:Inv X pins σ H s) (r:RelV x v) (ty:zN X.K T x H) :
  s.TypeIs v T/\∀ a,v=.ref a->∃ ob,s.heap.get? a=some ob/\ob.dict=none:=by
 cases x with
 | str z =>
  obtain⟨t,rfl⟩:=r
  cases (show T = "str" from ty)
  exact⟨typeIs_str s z t,λ_ e=>nomatch e⟩
 | int i =>
  obtain⟨t,rfl⟩:=r
  cases (show T = "int" from ty)
  exact⟨typeIs_int s i t,λ_ e=>nomatch e⟩
 | ref p =>
  cases r
  rcases ty with⟨rfl,xs,hq⟩|⟨rfl,o,hk,hc,hd⟩|⟨rfl,hk⟩|⟨rfl,S,n,hk⟩
  ·obtain⟨its,_,pl,_⟩:=I.list hq
   refine⟨pl.isList.typeIs,λa e=>?_⟩
   cases e
   obtain⟨o,n,e,c,hd,_⟩:=pl
   exact⟨o,e,hd⟩
  ·refine⟨⟨o,I.fY p o hk,hc⟩,λa e=>?_⟩
   cases e
   exact⟨o,I.fY _ o hk,hd⟩
  ·have z:∃ o,s.heap.get? p=some o/\o.ExactDict:=by
    rcases hk with⟨kvs,hk⟩|⟨kvs,hk⟩
    ·obtain⟨_,_,_,_,o,_,_,e,ex,_⟩:=I.hok p _ hk
     exact⟨o,e,ex⟩
    ·obtain⟨_,_,_,_,o,_,_,e,ex,_⟩:=I.hok p _ hk
     exact⟨o,e,ex⟩
   obtain⟨o,e,ex⟩:=z
   refine⟨⟨o,e,ex.1⟩,λa e2=>?_⟩
   cases e2
   exact⟨o,e,ex.2.1⟩
  ·obtain⟨o,_,_,_,e,ex,_⟩:=I.hok p _ hk
   refine⟨⟨o,e,ex.1⟩,λa e2=>?_⟩
   cases e2
   exact⟨o,e,ex.2.1⟩
 | _=>exact False.elim ty
def yw (K:PySem.W.Frag) (T:String) (r:V->List V->Hp->VK->Prop) (to:TE):TE:=λσ H Q=>to σ H λx H1=>zN K T x H1/\r x [] H1 Q
def zX (K:PySem.W.Frag) (T:String) (r:V->List V->Hp->VK->Prop) (to:TE) (t:TA):TE:=λσ H Q=>to σ H λx H1=>zN K T x H1/\t σ H1 λxs H2=>r x xs H2 Q
variable {o e:Expr} {es:List Expr} {to:TE} {t:TA} {name:Str} {apos cpos:Pos} {T id:String} {r:V->List V->Hp->VK->Prop}
theorem wR (pa:PlainAttrs T) (slot:Slot T name id) (hty:typeOf (.builtin id)=pure (.type "method_descriptor")) (hm:y7 X id r) (ho:PE X o to)
  (hbase:attributeBase o name X.env (eval o X.env)=eval o X.env:=by rfl) (hline:(apos.endLine==cpos.line)=true:=by rfl):PE X (.Call (.Attribute o name apos) [] [] cpos) (yw X.K T r to):=by
 intro pins s σ H Q I h
 refine wpAny_Call_method0_late hbase hline (bH (ho pins s σ H _ I h) λv s1 ⟨x,H1,I1,r1,ty,q1⟩=>?_)
 obtain⟨h1,h2⟩:=sL I1 r1 ty
 exact⟨T,id,pa,slot,hty,h1,h2,Calls.callWith_builtin rfl (PySem.evalArgs_none (hm pins s1 σ H1 x [] v [] Q I1 r1 .nil q1))⟩
theorem rG (pa:PlainAttrs T) (slot:Slot T name id) (hty:typeOf (.builtin id)=pure (.type "method_descriptor")) (hm:y7 X id r) (ho:PE X o to) (ha:PA X (e::es) t)
  (hbase:attributeBase o name X.env (eval o X.env)=eval o X.env:=by rfl)
  (hfew:((backTo cpos (starEach (e::es) X.env)).all (λx=>!x.1) && (backToKw cpos (keywordEach [] X.env)).all (λx=>x.1.isSome)
   && decide ((e::es).length+([]:List Keyword).length+(if ([]:List Keyword).isEmpty then 0 else 1)<30))=true:=by rfl)
  (hline:(apos.endLine==cpos.line)=true:=by rfl) (hs:starEach (e::es) X.env=(false,eval e X.env)::starEach es X.env:=by rfl) (hplain:(backTo cpos (starEach es X.env)).any (·.1)=false:=by rfl) :
  PE X (.Call (.Attribute o name apos) (e::es) [] cpos) (zX X.K T r to t):=by
 intro pins s σ H Q I h
 refine wpAny_Call_method_late hbase hfew hline rfl (bH (ho pins s σ H _ I h) λv s1 ⟨x,H1,I1,r1,ty,q1⟩=>?_)
 obtain⟨h1,h2⟩:=sL I1 r1 ty
 refine⟨T,id,pa,slot,hty,h1,h2,?_⟩
 have hA:=ha cpos pins s1 σ H1 _ I1 q1
 rw [hs] at hA ⊢
 refine Calls.callWith_builtin (by show (false || (backTo cpos (starEach es X.env)).any (·.1))=false;rw [hplain]<;>rfl) (Calls.evalArgs_plain ?_)
 exact bH hA λus s2 ⟨vs,H2,I2,r2,q2⟩=>hm pins s2 σ H2 x vs v us Q I2 r1 r2 q2
/- xs.append(e),list.index on a module's tuple .. are y7 facts of 06m -/
end
def y4 (X:Cx) (id:String) (r:V->List V->Hp->VK->Prop):Prop :=
 ∀(pins:List (Addr × Obj)) (s:Shared) (σ:St) (H:Hp) (x:V) (xs:List V) (v:Value) (us:List Value) (Q:VK),Inv X pins σ H s->RelV x v->Vals xs us->r x xs H Q ->
  wpAny (model X.prog X.w) X.A (call (.builtin id) (v::us)) (EP X pins σ Q) X.xe s
theorem Vals.one:∀{x:V} {us:List Value},Vals [x] us->∃ u,us=[u]/\RelV x u
 | _,_,.cons r .nil=>⟨_,rfl,r⟩
theorem Vals.two:∀{x y:V} {us:List Value},Vals [x,y] us->∃ u v,us=[u,v]/\RelV x u/\RelV y v
 | _,_,_,.cons r (.cons q .nil)=>⟨_,_,rfl,r,q⟩
theorem Vals.zero:∀{us:List Value},Vals [] us->us=[]
 | _,.nil=>rfl
theorem Vals.dropLast {xs:List V} {us:List Value} (h:Vals xs us):Vals xs.dropLast us.dropLast:=by
 induction h with
 | nil=>exact .nil
 | cons r t ih =>
  cases t with
  | nil=>exact .nil
  | cons q t'=>exact .cons r ih
theorem Vals.reverse {xs:List V} {us:List Value} (h:Vals xs us):Vals xs.reverse us.reverse:=by
 induction h with
 | nil=>exact .nil
 | cons r t ih=>rw [List.reverse_cons,List.reverse_cons];exact Vals.append ih (.cons r .nil)
theorem m6 {α:Type} (l:List α):l.eraseIdx (l.length-1)=l.dropLast:=by
 induction l with
 | nil=>rfl
 | cons a r ih =>
  cases r with
  | nil=>rfl
  | cons b r =>
   have e:(a::b::r).length-1=((b::r).length-1)+1:=by
    have h1:(a::b::r).length=r.length+2:=rfl
    have h2:(b::r).length=r.length+1:=rfl
    omega
   rw [e,List.eraseIdx_cons_succ,ih]
   all_goals rfl
section
variable {X:Cx} {pins:List (Addr × Obj)} {σ:St} {H:Hp} {s:Shared} {l b:Addr} {xs ys zs:List V}
theorem Inv.wx {its its':List Value} {n:Nat} {f:Array Value->Array Value} {t':Nat} (I:Inv X pins σ H s) (hH:H l=some (.lst xs))
  (e:s.heap.get? l=some { cls:=.type "list",data:=.seq its.toArray n }) (hf:f its.toArray=its'.toArray) (hv:Vals ys its') (hz:ys.length<=sizeLine) :
  Inv X pins σ (upd H l (.lst ys)) { s with heap:=s.heap.update l (Obj.mapSeq f),toks:=t' }:=by
 have q:=PySem.IsL.update e f
 rw [hf] at q
 refine I.write (x:=l) (e:=l) (by rw [hH];exact trivial) (.inl rfl) (λb' u hb hu=>(Heap.get?_update_other s.heap (Obj.mapSeq f) (Ne.symm hb)).trans hu) ⟨_,q⟩ ?_
 exact⟨hz,its',_,hv,q⟩
theorem Inv.zq {its:List Value} {t':Nat} (I:Inv X pins σ H s) (hv:Vals ys its) (hz:ys.length<=sizeLine) :
  Inv X pins σ (upd H s.heap.objs.size (.lst ys)) { s with heap:=s.heap.push { cls:=.type "list",data:=.seq its.toArray },toks:=t' } :=
 I.laid (λ_ _ q=>Heap.get?_push_of_some _ q) (Nat.le_refl _) ⟨hz,its,0,hv,Heap.get?_push_size _ rfl⟩
theorem Inv.fresh (I:Inv X pins σ H s):H s.heap.objs.size=none:=I.hok.fresh (Nat.le_refl _)
theorem Inv.pP (I:Inv X pins σ H s) (hH:H l=some (.lst xs)):xs.length<=sizeLine/\∃(its:List Value) (n:Nat),Vals xs its/\xs.length=its.length/\s.heap.get? l=some { cls:=.type "list",data:=.seq its.toArray n }:=by
 obtain⟨z,its,n,r,e⟩:=I.hok l _ hH
 exact⟨z,its,n,r,r.length,e⟩
theorem rg {n:Nat} (h:n<=sizeLine):Builtin.List.listTooLong n=false:=by
 unfold Builtin.List.listTooLong
 exact decide_eq_false (by omega)
end
section
variable {X:Cx}
def uB:V->List V->Hp->VK->Prop:=λx vs H Q=>∃ l xs y,x=.ref l/\vs=[y]/\H l=some (.lst xs)/\xs.length<sizeLine/\Q .bo (upd H l (.lst (xs++[y])))
theorem jR:y4 X "list.append" uB:=by
 intro pins s σ H x vs v us Q I rx rv h
 obtain⟨l,xs,y,rfl,rfl,hH,hz,q⟩:=h
 cases rx
 obtain⟨u,rfl,ru⟩:=rv.one
 obtain⟨z,its,n,r,hl,e⟩:=I.pP hH
 refine call_meets F.slot_list_append ⟨_,e,rfl⟩ F.entry_list_append (F.args_list_append_2 _ _) (PySem.list_append l its.toArray n u (by rw [List.size_toArray];omega)) ⟨e,?_⟩
 refine⟨.bo,_,I.wx (its':=its++[u]) hH e (by simp) (r.append (.cons ru .nil)) ?_,rfl,q⟩
 rw [List.length_append,List.length_singleton]
 omega
def uC:V->List V->Hp->VK->Prop:=λx vs H Q=>∃ l b xs zs,x=.ref l/\vs=[.ref b]/\H l=some (.lst xs)/\H b=some (.lst zs)/\xs.length+zs.length<=sizeLine/\Q .bo (upd H l (.lst (xs++zs)))
theorem pQ:y4 X "list.extend" uC:=by
 intro pins s σ H x vs v us Q I rx rv h
 obtain⟨l,b,xs,zs,rfl,rfl,hH,hB,hz,q⟩:=h
 cases rx
 obtain⟨u,rfl,ru⟩:=rv.one
 cases ru
 obtain⟨z,its,n,r,hl,e⟩:=I.pP hH
 obtain⟨z2,its2,n2,r2,hl2,e2⟩:=I.pP hB
 have hsz:its.toArray.size+its2.toArray.size<=sizeLine:=by rw [List.size_toArray,List.size_toArray];omega
 have hlong:¬(!its.toArray.isEmpty && Builtin.List.listTooLong (its.toArray.size+its2.toArray.size))=true:=by
  rw [rg hsz,Bool.and_false]
  exact Bool.false_ne_true
 refine call_meets F.slot_list_extend ⟨_,e,rfl⟩ F.entry_list_extend (F.args_list_extend_2 _ _)
  (AutoSeq1.list_extend_list_list_0 l its.toArray n b its2.toArray n2 hlong (by rw [List.size_toArray];omega) (by omega)) ⟨e,e2,?_⟩
 refine⟨.bo,_,I.wx (its':=its++its2) hH e (by simp) (r.append r2) ?_,rfl,q⟩
 rw [List.length_append]
 omega
def zz:V->List V->Hp->VK->Prop:=λx vs H Q=>∃ l xs y,x=.ref l/\vs=[]/\H l=some (.lst xs)/\xs[xs.length-1]?=some y/\Q y (upd H l (.lst xs.dropLast))
theorem wz:y4 X "list.pop" zz:=by
 intro pins s σ H x vs v us Q I rx rv h
 obtain⟨l,xs,y,rfl,rfl,hH,hy,q⟩:=h
 cases rx
 have hus:=rv.zero
 subst hus
 obtain⟨z,its,n,r,hl,e⟩:=I.pP hH
 obtain⟨u,hu,ru⟩:=r.get hy
 have hy':its.toArray[its.toArray.size-1]?=some u:=by
  show its.toArray[its.length-1]?=some u
  rw [<- Array.getElem?_toList,<- hl]
  exact hu
 refine call_meets F.slot_list_pop ⟨_,e,rfl⟩ F.entry_list_pop (F.args_list_pop_1 _) (MeetsSeq.list_pop_last l its.toArray n u hy' (by rw [List.size_toArray];omega)) ⟨e,?_⟩
 refine⟨y,_,I.wx (its':=its.dropLast) hH e ?_ r.dropLast ?_,ru,q⟩
 ·show its.toArray.eraseIdxIfInBounds (its.toArray.size-1)=its.dropLast.toArray
  rw [List.size_toArray,List.eraseIdxIfInBounds_toArray,m6]
 ·rw [List.length_dropLast]
  omega
def zy:R2:=λx y H Q=>∃ l b xs zs,x=.ref l/\y=.ref b/\H l=some (.lst xs)/\H b=some (.lst zs)/\xs.length+zs.length<=sizeLine/\∀ p,H p=none->Q (.ref p) (upd H p (.lst (xs++zs)))
theorem wJ:fz X (binaryOp .Add) zy:=by
 intro pins s σ H x y v u Q I rx ry h
 obtain⟨l,b,xs,zs,rfl,rfl,hH,hB,hz,q⟩:=h
 cases rx
 cases ry
 obtain⟨z,its,n,r,hl,e⟩:=I.pP hH
 obtain⟨z2,its2,n2,r2,hl2,e2⟩:=I.pP hB
 refine PySem.P.add_list e e2 ?_ (by rw [List.size_toArray,List.size_toArray];omega)
 have ea:its.toArray++its2.toArray=(its++its2).toArray:=by simp
 rw [ea]
 exact⟨.ref _,_,I.zq (t':=s.toks) (r.append r2) (by rw [List.length_append];omega),rfl,q _ I.fresh⟩
end
section
variable {prog:Program} {w:World} {A:Around} {E:Value->Shared->Prop} {s:Shared}
end
section
variable {X:Cx}
end
end L2
namespace Att
open PySem PySem.W PySem.Calls PyProof.Rows
theorem ir {P:Params} {h:Heap}:∀(ns:List Int) (vs:List Value),WellAll P h vs (ns.map WData.int)->IntsAre vs ns:=by
 intro ns
 induction ns with
 | nil =>
  intro vs w
  rw [List.map_nil] at w
  cases w
  exact .nil
 | cons n ns ih =>
  intro vs w
  rw [List.map_cons] at w
  cases w with
  | cons a b =>
   cases a
   exact .cons _ _ (ih _ b)
theorem qt {l:OpenLaw} {n:Nat} (hn:l.most=some n) {P:Params} {h:Heap} {args:List WData} {vals:List Value}
  (hpre:l.row.toRowW.claim.pre args=true) (hwl:WellAll P h vals args) :
  ∃ a vs ns,vals=[Value.ref a]/\args=[WData.list (ns.map WData.int)]/\h.get? a=some { cls:=.type "list",data:=.seq vs.toArray }/\IntsAre vs ns/\ns.length<=n:=by
 have hsh:WShape.hasAll [] args [.list .int]=true:=(pre_splitW hpre).1
 have hc:l.pre.holds [] { args:=args }=true:=(pre_splitW hpre).2
 obtain⟨d,r,rfl,h1,h2⟩:=hasAllW_cons hsh
 obtain rfl:=hasAllW_nil h2
 obtain⟨xs,rfl,h3⟩:=hasW_list h1
 obtain⟨ns,rfl⟩:=items_int h3
 have hlen:ns.length<=n:=by
  unfold OpenLaw.pre at hc
  have h4:(WTm.not (.lt (.lit (.int (n:Int))) (.len (.arg 0)))).holds [] { args:=[.list (ns.map .int)] }=true:=by
   have h4:=(holds_andW hc).1
   rw [hn] at h4
   exact h4
  have h5:=condW_of h4 (w_not (w_lt w_lit (w_len_list (w_arg rfl))))
  rw [List.length_map] at h5
  refine Nat.le_of_not_lt λq=>?_
  have q':(n:Int)<((ns.length:Nat):Int):=by omega
  first
   | (rw [decide_eq_true q'] at h5;exact absurd h5 (by decide))
   | (simp at h5;omega)
 cases hwl with
 | cons w1 w2 =>
  cases w2
  cases w1 with
  | list ho hall=>exact⟨_,_,ns,rfl,rfl,ho,ir ns _ hall,hlen⟩
theorem qg (l:OpenLaw) (args:List WData):l.row.toRowW.claim.post args (.bool true) args=true :=
 postW_of (r:=l.row.toRowW) (X:=(true==true))
  (show WShape.has [] (.bool true) .bool=true by first | rfl | decide | simp [WShape.has,WShape.arms,WShape.armsAll])
  (show (WTm.eq .res (.lit (.bool true))).value [] { args:=args,res:=some (.bool true),after:=args }=some (.bool (true==true)) from w_eq_bool (w_res rfl) w_lit) rfl
theorem ly {l:OpenLaw} {n:Nat} {q:Program} {loose:List Str} {XP:(Str->Option Value)->Heap->Prop} {YP:World->Heap->Prop} {d:DefRec}
  (hn:l.most=some n) (hdf:d.params.defaults=[])
  (call:∀(w:World) (s₀ s₁:Shared) (mg mb:Str->Option Value) (fa:Addr) (o:Obj) (pm cd doc:Value) (a:Addr) (vs:List Value) (ns:List Int),
   Ground q loose [] XP w s₀ mg mb s₁.heap->YP w s₁.heap ->
   s₁.heap.get? fa=some o->o.data=.func (docDef d.name d.params d.body d.scope pm cd doc)->s₁.heap.CodeRec cd d.name->mg d.name=some (.ref fa) ->
   s₁.heap.get? a=some { cls:=.type "list",data:=.seq vs.toArray }->IntsAre vs ns->ns.length<=n->s₁.gens=#[] ->
   codeAny (model l.prog w) callerA (.call (.ref fa) ⟨[.ref a],[]⟩) (λr s'=>r=.ok (.ret (.bool true))/\OldK s₁.heap s'.heap/\s'.os=s₁.os/\AllBare s'.gens) s₁) :
  WalkO q loose XP YP l.row.toRowW d [] (λf vs=>PySem.call f vs):=by
 intro w s₀ s₁ mg mb G Y fa o pm cd doc dV kV ho hd hcd hD hmg hg args vals as hpre hlay hrd hwl hlo
 obtain rfl:dV=.none:=Dflts.none hD hdf
 obtain rfl:kV=.none:=Dflts.noKw hD
 obtain⟨a,vs,ns,rfl,rfl,hobj,hints,hlen⟩:=qt hn hpre hwl
 refine enter_call (codeAny_mono (call w s₀ s₁ mg mb fa o pm cd doc a vs ns G Y ho (fd_plain hd) hcd hmg hobj hints hlen hg) λr s' hq=>?_)
 obtain⟨rfl,h2,h3,h4⟩:=hq
 exact⟨.inl ⟨.bool true,.bool true,[],rfl,λ_=>rfl,.bool true,qg l _,λ_=>⟨List.Pairwise.nil,λ_ hm=>(nomatch hm)⟩⟩,h2,h3,h4⟩
section
variable {prog:Program} {w:World} {A:Around} {E:Value->Shared->Prop} {s:Shared} {K:Frag}
end
end Att
namespace L2
open PySem PySem.Spec PyProof.Rows
theorem kg:∀{vs:List Value} {ns:List Int},IntsAre vs ns->Vals (ns.map V.int) vs
 | _,_,.nil=>.nil
 | _,_,.cons n t h=>.cons ⟨t,rfl⟩ (kg h)
def sS (H:Hp):Prop:=∀ b,H b=none∨∃ o xs,H b=some (.frz o (.lst xs))
theorem qZ {P:Program} {w:World} {K:PySem.W.Frag} {mg mb:Str->Option Value} {CX:iE} {k:Nat} {fa a:Addr} {fd:FuncData} {x:Str} {sp:Sp} {s₁:Shared} {vs:List Value} {ns:List Int}
  (KX:K.In s₁.heap) (hns:s₁.heap.Ns mainGlobals mg) (hb:s₁.heap.Ns builtinsNs mb) (hbb:∀ x:Str,x ≠ "__name__"->mb x=bootBuiltins x) (hlim:s₁.heap.NoLimit) (hg:s₁.gens=#[])
  (ha:s₁.heap.get? a=some { cls:=.type "list",data:=.seq vs.toArray }) (hi:IntsAre vs ns) (hl:ns.length<=sizeLine) (hr:cm k callerA)
  (F:∀ base:Heap,K.In base->base.Ns mainGlobals mg->cS P w K mg base CX k fa fd [x] sp) (hbind:∀(s:Shared) (u:Value),BindsTo s fd ⟨[u],[]⟩ [(x,u)])
  (hsp:∀ H:Hp,sS H->aT K H a (ns.map V.int)->sp [.ref a] H (λv _=>v=.bl true) λ_ _ _=>False)
  (hCX:∀ H e s',CX [] H s₁ (λ_ _ _=>False) e s'->False) :
  codeAny (model P w) callerA (.call (.ref fa) ⟨[.ref a],[]⟩) (λr s'=>r=.ok (.ret (.bool true))/\OldK s₁.heap s'.heap/\s'.os=s₁.os/\AllBare s'.gens) s₁:=by
 have rv:=kg hi
 have lenV:=hi.length
 -- from an abstract heap in which nothing but the script may be tracked
 have core:∀ H:Hp,sS H->aT K H a (ns.map V.int)->eP P w H s₁.heap->(∀ b,H b≠none->b=a)->(H a≠none->K.lookup a=none) ->
   codeAny (model P w) callerA (.call (.ref fa) ⟨[.ref a],[]⟩) (λr s'=>r=.ok (.ret (.bool true))/\OldK s₁.heap s'.heap/\s'.os=s₁.os/\AllBare s'.gens) s₁:=by
  intro H hO hS hok hA hK
  have base_of:∀{b:Addr} {o:Obj},s₁.heap.get? b=some o->H b=none->(kz s₁.heap H).get? b=some o:=λe n=>qX e n
  have noA:∀{b:Addr} {o:Obj} {es:Array DictEntry} {ep:Nat},s₁.heap.get? b=some o->o.data=.dict es ep->H b=none:=λ{b o es ep} e d=>by
   cases q:H b with
   | none=>rfl
   | some u =>
    have e':b=a:=hA b (by rw [q];simp)
    subst e'
    rw [ha] at e;cases e
    have d':Data.seq vs.toArray _=Data.dict es ep:=d
    cases d'
  have nsK:∀{b:Addr} {m:Str->Option Value},s₁.heap.Ns b m->(kz s₁.heap H).Ns b m:=λ{b m} ⟨o,es,ep,e,d,r⟩=>⟨o,es,ep,base_of e (noA e d),d,r⟩
  have hKb:K.In (kz s₁.heap H):=λb o e=>base_of (KX b o e) (by
   cases q:H b with
   | none=>rfl
   | some u =>
    have e':b=a:=hA b (by rw [q];simp)
    subst e'
    rw [hK (by rw [q];simp)] at e;cases e)
  have hM:Mod K mg (kz s₁.heap H):=⟨hKb,nsK hns,⟨mb,nsK hb,hbb⟩,let ⟨mc,h1,h2⟩:=hlim;⟨mc,nsK h1,h2⟩⟩
  have e0:mN P w K mg (kz s₁.heap H) callerA [] s₁ H:=⟨rfl,hM,λb o e=>ub e,Nat.le_of_eq (pI _ _),trivial,λb hb=>absurd (show b∈([]:List Addr) from hb) (by simp),hok,.of_eq hg⟩
  refine codeAny_mono ((F _ hKb (nsK hns)).run callerA [] s₁ H ⟨[.ref a],[]⟩ [.ref a] [.ref a] _ _ hr e0 (hbind s₁ (.ref a)) (.cons rfl .nil) (hsp H hO hS)) λr s' h=>?_
  cases r with
  | error e=>exact (hCX H e s' h).elim
  | ok fl =>
   cases fl with
   | next=>exact False.elim h
   | brk=>exact False.elim h
   | cont=>exact False.elim h
   | ret u =>
    obtain⟨v,H',os,bare,un,hok',r',q⟩:=h
    have q':v=.bl true:=q
    subst q'
    obtain rfl:u=Value.bool true:=r'
    refine⟨rfl,OldK.of_keep λb o e=>?_,os,bare⟩
    cases q:H b with
    | none=>exact un.keep b o e q (by intro z;exact absurd (show b∈([]:List Addr) from z) (by simp)) (by simp)
    | some u =>
     rcases hO b with z | ⟨ob,xs,z⟩
     ·rw [q] at z;cases z
     ·have z2:=un.frzs b ob _ z
      obtain⟨e1,_⟩:=hok b _ z
      obtain⟨e2,_⟩:=hok' b _ z2
      rw [e] at e1;cases e1
      exact e2
 cases hk:K.lookup a with
 | some o =>
  -- the script is one of the module's own objects
  have e:=KX a o hk
  rw [ha] at e
  cases e
  refine core (λ_=>none) (λ_=>.inl rfl) (.inr ⟨_,vs.toArray,_,hk,rfl,rfl,rfl,by rw [List.size_toArray,lenV];exact hl,by simpa using rv⟩) (λb u z=>by have z':(none:Option HO)=some u:=z;cases z') (λb z=>absurd rfl z) λz=>absurd rfl z
 | none =>
  refine core (λb=>if b=a then some (.frz { cls:=.type "list",data:=.seq vs.toArray } (.lst (ns.map V.int))) else none) (λb=>?_) (.inl (.inr ⟨{ cls:=.type "list",data:=.seq vs.toArray },if_pos rfl⟩)) (λb u z=>?_) (λb z=>?_) λ_=>hk
  ·by_cases hb:b=a
   ·exact .inr ⟨_,_,if_pos hb⟩
   ·exact .inl (if_neg hb)
  ·by_cases hb:b=a
   ·have z':=(if_pos hb).symm.trans z
    cases z'
    subst hb
    exact⟨ha,by rw [List.length_map];exact hl,vs,_,rv,ha⟩
   ·have z':=(if_neg hb).symm.trans z
    cases z'
  ·by_cases hb:b=a
   ·exact hb
   ·exact absurd (if_neg hb) z
abbrev cR {K:PySem.W.Frag} {h:Heap} (_:K.In h):PySem.W.Frag:=K
theorem oU {l:PySem.W.OpenLaw} {n k:Nat} {q:Program} {loose:List Str} {XP:(Str->Option Value)->Heap->Prop} {YP:World->Heap->Prop} {d:DefRec} {K:Params->PySem.W.Frag} {CX:World->iE} {sp:World->Sp} {x:Str}
  (hn:l.most=some n) (hn2:n<=sizeLine) (hdf:d.params.defaults=[]) (hr:cm k callerA)
  (hY:∀(w:World) (h:Heap),YP w h->(K w.params).In h)
  (F:∀(w:World) (mg:Str->Option Value) (fa:Addr) (h:Heap),(K w.params).In h->h.Ns mainGlobals mg->mg d.name=some (.ref fa) ->
   ∃ fd:FuncData,(∀(s:Shared) (u:Value),BindsTo s fd ⟨[u],[]⟩ [(x,u)]) /\
    ∀ base:Heap,(K w.params).In base->base.Ns mainGlobals mg->cS l.prog w (K w.params) mg base (CX w) k fa fd [x] (sp w))
  (hsp:∀(w:World) (H:Hp) (a:Addr) (ns:List Int),ns.length<=n->sS H->aT (K w.params) H a (ns.map V.int)->sp w [.ref a] H (λv _=>v=.bl true) λ_ _ _=>False)
  (hCX:∀(w:World) (H:Hp) (s:Shared) (e:Value) (s':Shared),CX w [] H s (λ_ _ _=>False) e s'->False) :
  PySem.W.WalkO q loose XP YP l.row.toRowW d [] (λf vs=>PySem.call f vs):=by
 refine Att.ly hn hdf λw s₀ s₁ mg mb fa o pm cd doc a vs ns G Y ho hd hcd hmg hobj hints hlen hg=>?_
 have KX:=hY w _ Y
 obtain⟨fd,hb,hF⟩:=F w mg fa _ KX G.T.g hmg
 exact qZ KX G.T.g G.T.b G.T.builtins G.T.nolimit hg hobj hints (Nat.le_trans hlen hn2) hr hF hb (λH hO hS=>hsp w H a ns hlen hO hS) λH e s'=>hCX w H s₁ e s'
theorem sM {l:PySem.W.OpenLaw} {n k:Nat} {q:Program} {loose:List Str} {XP:(Str->Option Value)->Heap->Prop} {YP:World->Heap->Prop} {d:DefRec} {K:Params->PySem.W.Frag} {CX:iE} {sp:PySem.W.Frag->Sp} {x:Str}
  (hn:l.most=some n) (hn2:n<=sizeLine) (hdf:d.params.defaults=[]) (hr:cm k callerA)
  (hY:∀(w:World) (h:Heap),YP w h->(K w.params).In h)
  (F:∀(w:World) (mg:Str->Option Value) (fa:Addr) (h:Heap),(K w.params).In h->h.Ns mainGlobals mg->mg d.name=some (.ref fa) ->
   ∃ fd:FuncData,(∀(s:Shared) (u:Value),BindsTo s fd ⟨[u],[]⟩ [(x,u)]) /\
    ∀ base:Heap,(K w.params).In base->base.Ns mainGlobals mg->cS l.prog w (K w.params) mg base CX k fa fd [x] (sp (K w.params)))
  (hsp:∀(K:PySem.W.Frag) (H:Hp) (a:Addr) (ns:List Int),ns.length<=n->sS H->aT K H a (ns.map V.int)->sp K [.ref a] H (λv _=>v=.bl true) λ_ _ _=>False)
  (hCX:∀(H:Hp) (s:Shared) (e:Value) (s':Shared),CX [] H s (λ_ _ _=>False) e s'->False) :
  PySem.W.WalkO q loose XP YP l.row.toRowW d [] (λf vs=>PySem.call f vs) :=
 oU (K:=K) (CX:=λ_=>CX) (sp:=λw=>sp (K w.params)) hn hn2 hdf hr hY F (λw H a ns h1 h2 h3=>hsp (K w.params) H a ns h1 h2 h3) λ_ H s e s'=>hCX H s e s'
end L2
/- THE LAST THEOREM (shape;LID,My.* are yours):
   My.Adr: a structure of the addresses that your layer names (classes,functions);My.Txt K t: a structure (Prop) of the equations over K;
   My.txt_mk:{K} {implicit addresses ..} (e1:nsIn K mainGlobals "law"=some (some (.ref f))) (e2:K.lookup f=some ⟨oc,od,.func (fnOf "law" "law" params body scope dV kV doc pm an cdv ct),sl⟩) (e3:codeIn K cdv "law"=true) ..:∃ t,My.Txt K t
set_option maxRecDepth 100000 in
set_option maxHeartbeats 0 in
theorem PySem.Challenge.cw_LID_holds : PySem.Challenge.rw_LID.Holds := by
 w_on;o_law;k_head;(case hw=>w_witness2)
 k_fill
 refine L2.oU (l:=PySem.Challenge.rw_LID) (n:=63) (k:=40) (x := "script") (CX:=λw=>..) (sp:=λ_=>My.sp_law) rfl (by decide) rfl ⟨rfl,by decide,by decide⟩ (λw h Y=>PySem.W.kIn_of Y) ?F ?S ?C
 case F =>
  intro w mg fa h KX G hmg
  have T:∃ t,My.Txt (L2.cR KX) t:=by
   dsimp only [L2.cR]                          -- K must stand as «<heap const> w.params» for k_is
   refine' My.txt_mk ?e1 ?e2 ?e3 ..
   (case e1=>PySem.W.k_is)                    -- in the order: a name -> its address -> its object -> its parts
   (case e2=>PySem.W.k_is)
   ..
  obtain⟨t,T⟩:=T
  have e0:=hmg.symm.trans (PySem.W.mg_of KX G T.law)
  cases e0                                       -- fa is the law's own address
  exact⟨_,λs u=>.of_eq rfl,λbase kb nb=>My.law_fn T kb nb⟩     -- if «.of_eq rfl» comes too early: refine' ⟨_,?b,λbase kb nb=>My.law_fn T kb nb⟩;exact λs u=>.of_eq rfl
 case S=>exact λw H a ns hl hO hS=>..
 case C=>exact ..
(the tactic k_is has no namespace: write k_is) -/
namespace L2
open PySem PySem.Spec PyProof.Rows
def inClass (s:Stmt) (j:Nat):Stmt:=match s with
 | .ClassDef _ _ _ body _ _ _ _ _ _ _=>body.getD j (.Pass ⟨0,0,0,0⟩)
 | _=>.Pass ⟨0,0,0,0⟩
def bM (s:Stmt):Arguments:=match s with
 | .FunctionDef _ a _ _ _ _ _ _ _ _=>a
 | _=>{ posonlyargs:=[],args:=[],vararg:=none,kwonlyargs:=[],kw_defaults:=[],kwarg:=none,defaults:=[] }
def aR (s:Stmt):List Stmt:=match s with
 | .FunctionDef _ _ b _ _ _ _ _ _ _=>b
 | _=>[]
def aj (s:Stmt):Scope:=match s with
 | .FunctionDef _ _ _ _ _ _ sc _ _ _=>sc
 | _=>{ kind:=.function,names:=[],isGenerator:=false,isCoroutine:=false }
abbrev aM:iE:=λ_ _ _ _ _ _=>False
abbrev E0:XK:=λ_ _ _=>False
theorem aw {X:Cx}:Passes aM X E0:=λ_ _ _ _ _ _ _ h=>h.elim
structure sP (K:PySem.W.Frag) (x qual:Str) (st:Stmt) (f:Addr) (fd:FuncData):Prop where
 ex:∃(oc:Value) (od:Option Addr) (kV doc pm:Value) (an:Option Addr) (cdv ct:Value) (osl:Array (Option Value)),
  fd=PySem.W.fnOf x qual (bM st) (aR st) (aj st) .none kV doc pm an cdv ct/\K.lookup f=some ⟨oc,od,.func fd,osl⟩/\PySem.W.codeIn K cdv qual=true
 kp:PySem.W.keepIn K (.ref f)=true
section
variable {P:Program} {w:World} {K:PySem.W.Frag} {mg:Str->Option Value} {base:Heap}
theorem sP.ok {x qual:Str} {st:Stmt} {f:Addr} {fd:FuncData} {N ps:List Str} {k:Nat} {sp:Sp} (F:sP K x qual st f fd) (S:ay N ps (aj st)) (len:∀ vs H Q E,sp vs H Q E->vs.length=ps.length)
  (hbody:∀(cdv:Value) (A:Around) (outer:List Env) (s:Shared) (H:Hp) (vs:List V) (Q:VK) (E:XK),cm k (A.deeper (envOfC qual (aj st) s.heap.objs.size f cdv))->sp vs H Q E ->
   ∃ t,ix (ei aM P w K mg base N qual (aj st) f cdv A outer s H E).mL (aR st) t/\t { nx:=λ_ H'=>Q .bo H',rt:=Q } (start N vs) H):cS P w K mg base aM (k+1) f fd ps sp:=by
 obtain⟨oc,od,kV,doc,pm,an,cdv,ct,osl,rfl,lk,hcd⟩:=F.ex
 refine ve lk hcd S len λA outer s H vs Q E hr hsp=>?_
 obtain⟨t,h,q⟩:=hbody cdv A outer s H vs Q E hr hsp
 exact⟨t,h.mL,q⟩
theorem sP.binds {x qual:Str} {st:Stmt} {f:Addr} {fd:FuncData} {ps:List Str} (F:sP K x qual st f fd)
  (h:∀(kV doc pm:Value) (an:Option Addr) (cdv ct:Value) (us:List Value),us.length=ps.length->bindArgs (PySem.W.fnOf x qual (bM st) (aR st) (aj st) .none kV doc pm an cdv ct) ⟨us,[]⟩=pure (ps.zip us)):Binds K fd ps []:=by
 obtain⟨oc,od,kV,doc,pm,an,cdv,ct,osl,rfl,lk,hcd⟩:=F.ex
 exact .all (h kV doc pm an cdv ct)
theorem qV {x qual:Str} {st:Stmt} {f:Addr} {oc:Value} {od an:Option Addr} {osl:Array (Option Value)} {kV doc pm cdv ct:Value} (l:K.lookup f=some ⟨oc,od,.func (PySem.W.fnOf x qual (bM st) (aR st) (aj st) .none kV doc pm an cdv ct),osl⟩)
  (c:PySem.W.codeIn K cdv qual=true) (k:PySem.W.keepIn K (.ref f)=true):sP K x qual st f (PySem.W.fnOf x qual (bM st) (aR st) (aj st) .none kV doc pm an cdv ct):=⟨⟨oc,od,kV,doc,pm,an,cdv,ct,osl,rfl,l,c⟩,k⟩
end
theorem gW {A:Around} {k:Nat} (hr:cm k A):A.units+1<cLine:=Nat.lt_of_le_of_lt (Nat.add_le_add_left (by decide:1<=64) _) hr.units
theorem qu {n:Nat} (h:n<=1000):n<sizeLine:=Nat.lt_of_le_of_lt h (by decide)
section
variable {X:Cx}
theorem pv (i:Nat) {x:Str} {pos:Pos} (hN:X.N[i]?=some x:=by rfl) (hv:xE X.env.scope x:=by first | exact Or.inl rfl | exact Or.inr (Or.inl rfl) | exact Or.inr (Or.inr rfl)) (hd:(x==("__debug__":Str))=false:=by decide)
  (hcd:(x==("__classdict__":Str))=false:=by decide):PE X (.Name x pos) (qw i):=nL hN hv hd hcd
end
theorem aD {c A B:Prop} [Decidable c] (h1:c->A) (h2:¬c->B):if c then A else B:=by
 by_cases h:c
 ·rw [if_pos h]
  exact h1 h
 ·rw [if_neg h]
  exact h2 h
def aB (H H':Hp):Prop:=∀ b o,H b=some o->H' b=some o
theorem aB.refl (H:Hp):aB H H:=λ_ _ h=>h
theorem aB.trans {H H1 H2:Hp} (a:aB H H1) (b:aB H1 H2):aB H H2:=λc o h=>b c o (a c o h)
theorem aB.free {H H':Hp} (e:aB H H') {l:Addr} (h:H' l=Option.none):H l=Option.none:=by
 cases q:H l with
 | none=>rfl
 | some o =>
  rw [e l o q] at h
  cases h
theorem aB.seq {K:PySem.W.Frag} {H H':Hp} {a:Addr} {xs:List V} (e:aB H H') (h:aT K H a xs):aT K H' a xs:=by
 rcases h with (h | ⟨o,h⟩) | h
 ·exact .inl (.inl (e _ _ h))
 ·exact .inl (.inr ⟨o,e _ _ h⟩)
 ·exact .inr h
end L2
set_option maxHeartbeats 1000000
namespace L2
open PySem PySem.Spec PyProof.Rows
theorem kr {Ex:Value->Shared->Prop} {prog:Program} {w:World} {A:Around} {R:Result->Shared->Prop} {s:Shared} {elt target:Expr} {gens:List Comprehension} {scope:Scope} {pos ps:Pos} {ifs:List Expr} {d:Nat} {B:Sem Unit} {it acc:Value} {env:Env} (I:Nat->Shared->Prop)
  (ht:compTurn (.ListComp elt gens scope pos) d it acc env=(do
   standAt ps
   match <- pyNext it with
   | none=>pure (.done .next)
   | some v =>
    letOwnedTupleGo target it v
    assign target env v
    let mut ok:=true
    for c in ifs do
     if ok then ok <- isTrue c env (eval c env)
    if ok then B
    again (.compLoop (.ListComp elt gens scope pos) d it acc env)))
  (turn:∀ n s,I n s->wpAny (model prog w) A (pyNext it) (λr s₁=>match r with
   | none=>R (.ok .next) s₁
   | some v=>wpAny (model prog w) A (letOwnedTupleGo target it v) (λ_ s₁'=>wpAny (model prog w) A (assign target env v) (λ_ s₂ =>
     wpAny (model prog w) A (forIn ifs true λc r=>if r=true then do let ok <- isTrue c env (eval c env);pure (ForInStep.yield ok) else pure (ForInStep.yield r)) (λok s₃ =>
      if ok=true then wpAny (model prog w) A B (λ_ s₅=>∃ m,m<n/\I m s₅) Ex s₃
      else ∃ m,m<n/\I m s₃) Ex s₂) Ex s₁') Ex s₁) Ex s)
  (n:Nat) (h:I n s) (hE:∀ e s',Ex e s'->notedBy (model prog w) A env (λe s''=>R (.error e) s'') e s') :
  codeAny (model prog w) A (.compLoop (.ListComp elt gens scope pos) d it acc env) R s:=by
 refine codeAny_loop rfl I (λn s hI=>?_) n h
 show wpAny _ A ((compTurn (.ListComp elt gens scope pos) d it acc env).onRaise (λx=>do noteFrame x env;theTreesLotGoes x)) _ _ s
 refine wpAny_noted ?_
 rw [ht]
 refine wpAny_bind (wpAny_standAt (wpAny_bind (wpAny_mono (turn n s hI) (λr s₁ h₁=>?_) λ_ _ h'=>hE _ _ h')))
 cases r with
 | none=>exact wpAny_pure h₁
 | some v =>
  refine wpAny_bind (wpAny_mono h₁ (λ_ s₁' h₁'=>?_) λ_ _ h'=>hE _ _ h')
  refine wpAny_bind (wpAny_mono h₁' (λ_ s₂ h₂=>wpAny_bind (wpAny_mono h₂ (λok s₃ h₃=>?_) λ_ _ h'=>hE _ _ h')) λ_ _ h'=>hE _ _ h')
  cases ok with
  | false=>exact wpAny_pure ⟨rfl,h₃⟩
  | true=>exact wpAny_bind (wpAny_mono h₃ (λ_ s₅ h₅=>wpAny_pure ⟨rfl,h₅⟩) λ_ _ h'=>hE _ _ h')
def nZ (elt:Expr) (acc:Value) (env:Env):Sem Unit:=do let _ <- call (.builtin "list.append") [acc,<- eval elt env]
theorem sI (elt target iter:Expr) (ifs:List Expr) (scope:Scope) (pos:Pos) (it acc:Value) (env:Env) :
  compTurn (.ListComp elt [⟨target,iter,ifs,0⟩] scope pos) 0 it acc env=(do
   standAt iter.pos
   match <- pyNext it with
   | none=>pure (.done .next)
   | some v =>
    letOwnedTupleGo target it v
    assign target env v
    let mut ok:=true
    for c in ifs do
     if ok then ok <- isTrue c env (eval c env)
    if ok then nZ elt acc env
    again (.compLoop (.ListComp elt [⟨target,iter,ifs,0⟩] scope pos) 0 it acc env)):=by rfl
def cu (X:Cx) (Ex:Value->Shared->Prop) (N':List Str) (scope:Scope) (cl:List (Str × Addr)) (C:Addr) (s₂:Shared) (H₂:Hp) (fp:List Addr):Cx :=
 { X with N:=N',s₀:=s₂,H₀:=H₂,env:=compEnvC scope (cellsFrom (C+1) scope.names cl) C X.env,outer:=X.stack,stack:=X.stack,ex:=fp,fn:=λx=>scope.names.lookup x==some .cell,pn:=[],xe:=Ex }
abbrev kq (X:Cx):=cu X λ_ _=>False
def AllIn (env:Env):List (Str × Addr)->Prop
 | []=>True
 | p::r=>env.cells.lookup p.1=some p.2/\AllIn env r
theorem AllIn.get {env:Env}:∀{l:List (Str × Addr)},AllIn env l->∀ y c,l.lookup y=some c->env.cells.lookup y=some c
 | [],_,_,_,h=>by simp at h
 | (z,d)::r,a,y,c,h=>by
  rw [List.lookup_cons] at h
  cases e:y==z with
  | true =>
   rw [e] at h
   have q:y=z:=by simpa using e
   subst q
   cases h
   exact a.1
  | false =>
   rw [e] at h
   exact AllIn.get a.2 y c h
def dJ (js:List (Option Nat)) (σ:St):St:=js.map λo=>match o with | none=>none | some j=>(σ[j]?).join
structure iF (X:Cx) (N':List Str) (js:List (Option Nat)) (scope:Scope) (cl:List (Str × Addr)):Prop where
 clos:closureFor scope X.env=pure cl
 kind:scope.kind=.function
 nocell:∀ y∈scope.names,y.2=.cell->scope.names.lookup y.1=some .cell/\∀ p∈js.zip N',p.1.isSome=true->p.2≠y.1
 names:∀ y∈scope.names,y.2=.local->scope.names.lookup y.1=some .local
 sub:AllIn X.env cl
 has:∀ y∈scope.names,y.2=.free->(cl.lookup y.1).isSome=true
 jlen:js.length=N'.length
 jok:∀(i j:Nat) x,js[i]?=some (some j)->N'[i]?=some x->X.N[j]?=some x/\(cl.lookup x).isSome=true/\xE X.env.scope x/\X.env.kindOf x≠some .local/\((relabel scope X.env).names.lookup x=some .cell∨(relabel scope X.env).names.lookup x=some .free)
theorem gY {scope:Scope} {env:Env} {x:Str} {k:NameKind} (h:(relabel scope env).names.lookup x=some k) (hk:k=.cell∨k=.free):∃ y∈scope.names,y.1=x/\(y.2=.free∨y.2=.cell):=by
 have hm:=PySem.mem_of_lookup h
 obtain⟨⟨n,q⟩,hm',e⟩:=List.mem_map.mp hm
 dsimp only at e
 split at e
 ·rename_i hc
  have e1:n=x:=congrArg Prod.fst e
  refine⟨(n,q),hm',e1,.inl ?_⟩
  have:(q==NameKind.free)=true:=by
   simp only [Bool.and_eq_true] at hc
   exact hc.1.1
  simpa using this
 ·have e1:n=x:=congrArg Prod.fst e
  have e2:q=k:=congrArg Prod.snd e
  refine⟨(n,q),hm',e1,?_⟩
  rcases hk with hk | hk
  ·exact .inr (e2.trans hk)
  ·exact .inl (e2.trans hk)
theorem fQ {x:Str} {c:Addr}:∀(ns:List (Str × NameKind)) (n:Nat) (acc:List (Str × Addr)),(cellsFrom n ns acc).lookup x=some c->acc.lookup x=some c∨n<=c
 | [],_,_,h=>.inl h
 | (y,k)::r,n,acc,h=>by
  unfold cellsFrom at h
  split at h
  ·rcases fQ r _ _ h with z | z
   ·rw [List.lookup_cons] at z
    split at z
    ·cases z;exact .inr (Nat.le_refl _)
    ·exact .inl z
   ·exact .inr (Nat.le_of_succ_le z)
  ·exact fQ r _ _ h
theorem mV {x:Str} {c:Addr}:∀(ns:List (Str × NameKind)) (n:Nat) (acc:List (Str × Addr)),ns.lookup x=some .cell->(cellsFrom n ns acc).lookup x=some c->n<=c
 | [],_,_,h,_=>by cases h
 | (y,k)::r,n,acc,h,e=>by
  rw [List.lookup_cons] at h
  unfold cellsFrom at e
  split at h
  ·rename_i hy
   cases h
   rcases fQ r _ _ e with z | z
   ·rw [List.lookup_cons,hy] at z
    cases z;exact Nat.le_refl _
   ·exact Nat.le_of_succ_le z
  ·split at e
   ·exact Nat.le_of_succ_le (mV r _ _ h e)
   ·exact mV r _ _ h e
theorem ko {x:Str}:∀(ns:List (Str × NameKind)) (n:Nat) (acc:List (Str × Addr)),(∀ y∈ns,y.2=.cell->x≠y.1)->(cellsFrom n ns acc).lookup x=acc.lookup x
 | [],_,_,_=>rfl
 | (y,k)::r,n,acc,h=>by
  unfold cellsFrom
  split
  ·rename_i hk
   rw [ko r _ _ λz hz=>h z (List.mem_cons_of_mem _ hz),List.lookup_cons]
   have:(x==y)=false:=by simpa using h (y,k) List.mem_cons_self (by simpa using hk)
   rw [this]
  ·exact ko r _ _ λz hz=>h z (List.mem_cons_of_mem _ hz)
theorem mU:∀(ns:List (Str × NameKind)) (n:Nat) (acc:List (Str × Addr)),(∀ x c,acc.lookup x=some c->c<n)->(∀ x y c,acc.lookup x=some c->acc.lookup y=some c->x=y) ->
  ∀ x y c,(cellsFrom n ns acc).lookup x=some c->(cellsFrom n ns acc).lookup y=some c->x=y
 | [],_,_,_,h=>h
 | (z,k)::r,n,acc,hl,hi=>by
  unfold cellsFrom
  split
  ·refine mU r _ _ (λx c e=>?_) λx y c e1 e2=>?_
   ·rw [List.lookup_cons] at e
    split at e
    ·cases e;exact Nat.lt_succ_self _
    ·exact Nat.lt_succ_of_lt (hl x c e)
   ·rw [List.lookup_cons] at e1 e2
    split at e1<;>split at e2
    ·rename_i a _ b
     rw [eq_of_beq a,eq_of_beq b]
    ·cases e1;exact absurd (hl y _ e2) (Nat.lt_irrefl _)
    ·cases e2;exact absurd (hl x _ e1) (Nat.lt_irrefl _)
    ·exact hi x y c e1 e2
  ·exact mU r _ _ hl hi
theorem kn:∀(ns:List (Str × NameKind)) (h:Heap) (acc:List (Str × Addr)),(∀ x c,acc.lookup x=some c->∃ v,h.IsCell c v)->∀ x c,(cellsFrom h.objs.size ns acc).lookup x=some c->∃ v,(pushCells h ns).IsCell c v
 | [],_,_,h=>h
 | (z,k)::r,h,acc,hl=>by
  unfold cellsFrom pushCells
  split
  ·have:=kn r (h.push { cls:=.type "cell",data:=.cell none }) ((z,h.objs.size)::acc) λx c e=>by
    rw [List.lookup_cons] at e
    split at e
    ·cases e;exact⟨none,_,Heap.get?_push_size _ rfl,rfl⟩
    ·obtain⟨v,q⟩:=hl x c e
     exact⟨v,q.keeps λb o e=>Heap.get?_push_of_some _ e⟩
   rwa [Heap.size_push] at this
  ·exact kn r h acc hl
theorem jB {M:Model} {A:Around} {E:Value->Shared->Prop} {s:Shared} {scope:Scope} {g:Addr} {cl:List (Str × Addr)} {qual:Str} {env:Env} {Q:Env->Shared->Prop}
  (h:Q (newEnv scope s.heap.objs.size g (cellsFrom (s.heap.objs.size+1) scope.names cl) qual none .none (some env) builtinsNs) { s with heap:=pushCells (s.heap.push { cls:=.type "dict",data:=.dict #[] }) scope.names }) :
  wpAny M A (newFunctionEnv scope g cl [] qual none .none (some env)) Q E s:=by
 simp only [newFunctionEnv,Option.isSome_some,if_true]
 refine wpAny_bind (wpAny_alloc ?_)
 refine wpAny_bind (wpAny_layCells _ (λname kind cells=>by cases hkc:kind==NameKind.cell<;>simp [hkc]) _ _ _ _ ?_)
 rw [show ({ s with heap:=s.heap.push { cls:=.type "dict",data:=.dict #[] } }:Shared).heap.objs.size=s.heap.objs.size+1 from Heap.size_push ..]
 exact wpAny_bind (wpAny_pure (wpAny_pure h))
def lobj (ys:List Value):Obj:={ cls:=.type "list",data:=.seq ys.toArray ys.length }
def qE (X:Cx) (ifs:List Expr) (t:TT):Prop :=
 ∀(pins:List (Addr × Obj)) (s:Shared) (σ:St) (H:Hp) (Q:Bool->Hp->Prop),Inv X pins σ H s->t σ H Q ->
  wpAny (model X.prog X.w) X.A (forIn ifs true λc r=>if r=true then do let ok <- isTrue c X.env (eval c X.env);pure (ForInStep.yield ok) else pure (ForInStep.yield r)) (TP X pins σ Q) X.xe s
def su:TT:=λ_ H Q=>Q true H
theorem dc {X:Cx}:qE X [] su:=λpins s σ H Q I h=>wpAny_tests_nil ⟨H,I,h⟩
theorem iT {X:Cx} {c:Expr} {t:TT} (h:PT X c t):qE X [c] t:=λpins s σ H Q I q=>wpAny_tests_one (h pins s σ H Q I q)
def bO:List (Option V)->List (Option V)->Prop
 | [],[]=>True
 | none::r,_::r'=>bO r r'
 | some v::r,some u::r'=>u=v/\bO r r'
 | _,_=>False
theorem bO.len:∀{a b:List (Option V)},bO a b->a.length=b.length
 | [],[],_=>rfl
 | none::r,_::r',h=>by simp [bO.len (a:=r) (b:=r') h]
 | some v::r,some u::r',h=>by simp [bO.len (a:=r) (b:=r') h.2]
 | some v::r,none::r',h=>h.elim
 | some v::r,[],h=>h.elim
 | none::r,[],h=>h.elim
 | [],_::_,h=>h.elim
theorem bO.get:∀{a b:List (Option V)},bO a b->∀(i:Nat) v,a[i]?=some (some v)->b[i]?=some (some v)
 | [],[],_,i,v,h=>by simp at h
 | none::r,_::r',h,0,v,e=>by simp at e
 | none::r,_::r',h,i+1,v,e=>by
  have:=bO.get (a:=r) (b:=r') h i v (by simpa using e)
  simpa using this
 | some v::r,some u::r',h,0,v',e=>by
  have q:v=v':=by simpa using e
  have:=h.1
  simp [this,q]
 | some v::r,some u::r',h,i+1,v',e=>by
  have:=bO.get (a:=r) (b:=r') h.2 i v' (by simpa using e)
  simpa using this
 | some v::r,none::r',h,_,_,_=>h.elim
 | some v::r,[],h,_,_,_=>h.elim
 | none::r,[],h,_,_,_=>h.elim
 | [],_::_,h,_,_,_=>h.elim
def zZ (js:List (Option Nat)) (wi:TI) (g:TG) (tt:TT) (te:TE):TE:=λσ H Q=>wi σ H λJ H1=>∃ W:Nat->Nat->List V->Hp->Prop,(∃ m,W 0 m [] H1)/\∀ i m ys H,W i m ys H ->
 (J.stop i H/\ys.length<=sizeLine/\∀ p,H p=none->Q (.ref p) (upd H p (.lst ys))) ∨
 (J.go i H/\ys.length<sizeLine/\∃ N:List V->Hp->Prop,(∀ ys' H',N ys' H'->∃ m',m'<m/\W (i+1) m' ys' H') /\
  ∀ x H',J.yld i H x H'->g x (dJ js σ) H' λσ2 H2=>bO (dJ js σ) σ2/\tt σ2 H2 λb H3=>if b=true then te σ2 H3 λv H4=>N (ys++[v]) H4 else N ys H3)
structure mO (X:Cx) (C:Addr) (s₂:Shared) (H₂:Hp) (fp:List Addr):Prop where
 inv:∃ pins σ,Inv X pins σ H₂ s₂
 new:∀ b∈fp,X.s₀.heap.objs.size<=b∨b∈X.ex
 nof:∀ b∈fx X.stack,b∉fp
 le:s₂.heap.objs.size<=C
def vX (X:Cx) (elt target:Expr) (gens:List Comprehension) (ifs:List Expr) (scope:Scope) (pos:Pos) (Bd:(Value->Shared->Prop)->Value->Env->(Shared->Prop)->Shared->Prop):Prop :=
 ∀(Ex:Value->Shared->Prop) (R:Result->Shared->Prop) (s:Shared) (it acc:Value) (env:Env) (I:Nat->Shared->Prop),
  (∀ n s,I n s->wpAny (model X.prog X.w) X.A (pyNext it) (λr s₁=>match r with
   | none=>R (.ok .next) s₁
   | some v=>wpAny (model X.prog X.w) X.A (letOwnedTupleGo target it v) (λ_ s₁'=>wpAny (model X.prog X.w) X.A (assign target env v) (λ_ s₂ =>
     wpAny (model X.prog X.w) X.A (forIn ifs true λc r=>if r=true then do let ok <- isTrue c env (eval c env);pure (ForInStep.yield ok) else pure (ForInStep.yield r)) (λok s₃ =>
      if ok=true then Bd Ex acc env (λs₅=>∃ m,m<n/\I m s₅) s₃ else ∃ m,m<n/\I m s₃) Ex s₂) Ex s₁') Ex s₁) Ex s) ->
  ∀ n,I n s->(∀ e s',Ex e s'->notedBy (model X.prog X.w) X.A env (λe s''=>R (.error e) s'') e s')->codeAny (model X.prog X.w) X.A (.compLoop (.ListComp elt gens scope pos) 0 it acc env) R s
structure nW (Y:Cx) (D:Addr) (P:List (Addr × Obj)):Prop where
 ne:∀ p∈P,p.1≠D
 new:Y.s₀.heap.objs.size<=D
 cell:∀ x c,Y.env.cells.lookup x=some c->c≠D
theorem wu {X:Cx} {Ex:Addr->Shared->Hp->List Addr->Value->Shared->Prop} {elt target iter:Expr} {rest:List Comprehension} {ifs:List Expr} {scope:Scope} {pos:Pos} {N':List Str} {js:List (Option Nat)} {cl:List (Str × Addr)} {g:TG} {tt:TT} {Cc:List V->Prop} {tb:List V->St->Hp->(List V->Hp->Prop)->Prop} {Bd:(Value->Shared->Prop)->Value->Env->(Shared->Prop)->Shared->Prop} (hcalm:X.calm=true) (hloop:vX X elt target (⟨target,iter,ifs,0⟩::rest) ifs scope pos Bd)
  (K:iF X N' js scope cl)
  (hg:∀ C s₂ H₂ fp,mO X C s₂ H₂ fp->PG (cu X (Ex C s₂ H₂ fp) N' scope cl C s₂ H₂ fp) target g) (ht:∀ C s₂ H₂ fp,mO X C s₂ H₂ fp->qE (cu X (Ex C s₂ H₂ fp) N' scope cl C s₂ H₂ fp) ifs tt) (hB:∀ C s₂ H₂ fp,mO X C s₂ H₂ fp->∀(D:Addr) ys vys P σ H s N Ps,Inv (cu X (Ex C s₂ H₂ fp) N' scope cl C s₂ H₂ fp) ([(D,lobj ys)]++P) σ H s->Vals vys ys->nW (cu X (Ex C s₂ H₂ fp) N' scope cl C s₂ H₂ fp) D P->Cc vys->tb vys σ H N ->
   (∀ ys' vys' H' s',Inv (cu X (Ex C s₂ H₂ fp) N' scope cl C s₂ H₂ fp) ([(D,lobj ys')]++P) σ H' s'->Vals vys' ys'->N vys' H'->Ps s')->Bd (Ex C s₂ H₂ fp) (.ref D) (cu X (Ex C s₂ H₂ fp) N' scope cl C s₂ H₂ fp).env Ps s)
  (herr:∀ C s₂ H₂ fp use Q' acc e s',Ex C s₂ H₂ fp e s'->notedBy (model X.prog X.w) X.A (compEnvC scope (cellsFrom (C+1) scope.names cl) C X.env) (λe s''=>compPost (model X.prog X.w) X.A X.xe use Q' acc C (.error e) s'') e s')
  {pins:List (Addr × Obj)} {σ:St} {Q:VK} {use:Option (Value->Sem Unit)} {Q':Value->Shared->Prop} {itv:Value} {s2:Shared}
  (h2:yM X pins σ target (λJ H1=>∃ W:Nat->Nat->List V->Hp->Prop,(∃ m,W 0 m [] H1)/\∀ i m ys H,W i m ys H ->
 (J.stop i H/\ys.length<=sizeLine/\∀ p,H p=none->Q (.ref p) (upd H p (.lst ys))) ∨
 (J.go i H/\Cc ys/\∃ N:List V->Hp->Prop,(∀ ys' H',N ys' H'->∃ m',m'<m/\W (i+1) m' ys' H') /\
  ∀ x H',J.yld i H x H'->g x (dJ js σ) H' λσ2 H2=>bO (dJ js σ) σ2/\tt σ2 H2 λb H3=>if b=true then tb ys σ2 H3 N else N ys H3)) itv s2)
  (hok:∀ C D vys H4 s5,(∃ m,s5.heap.Ns C m)->s2.heap.objs.size<=D->D<=C->D≠C->H4 D=none->H4 C=none->(∀ h',Heap.SameBut C s5.heap h'->Inv X pins σ (upd H4 D (.lst vys)) { s5 with heap:=h' })->Q (.ref D) (upd H4 D (.lst vys))->compPost (model X.prog X.w) X.A X.xe use Q' (.ref D) C (.ok .next) s5) :
  wpAny (model X.prog X.w) X.A (newList []) (λacc s₃=>wpAny (model X.prog X.w) X.A (newFunctionEnv scope X.env.globals cl [] X.env.qual none .none (some X.env)) (λcenv s₄ =>
   codeAny (model X.prog X.w) X.A (.compStart (.ListComp elt (⟨target,iter,ifs,0⟩::rest) scope pos) 0 itv acc { cenv with scope:=relabel scope X.env }) (compPost (model X.prog X.w) X.A X.xe use Q' acc cenv.locals) s₄) X.xe s₃) X.xe s2:=by
 obtain⟨it,fp,tn,J,H2,e,I2,T,st2,f2,W,⟨m0,w0⟩,turn⟩:=h2
 subst e
 refine wpAny_newObj_type (jB ?_)
 dsimp only
 generalize hP2:s2.heap.push { cls:=.type "list",dict:=none,data:=.seq ([]:List Value).toArray }=P2
 generalize hh₁:pushCells (P2.push { cls:=.type "dict",data:=.dict #[] }) scope.names=h₁
 have hns₁:h₁.Ns P2.objs.size λ_=>none:=hh₁▸(Heap.Ns.new P2 (.type "dict")).keeps (pushCells_keeps _ _)
 have upP:∀ b o,P2.get? b=some o->h₁.get? b=some o:=λb o e=>hh₁▸pushCells_keeps _ _ b o (Heap.get?_push_of_some _ e)
 have hcel:∀ x c,(cellsFrom (P2.objs.size+1) scope.names cl).lookup x=some c->∃ v,h₁.IsCell c v:=by
  have:=kn scope.names (P2.push { cls:=.type "dict",data:=.dict #[] }) cl λx c e=>by
   obtain⟨v,q⟩:=I2.cell x c (K.sub.get x c e)
   exact⟨v,q.keeps λb o e=>Heap.get?_push_of_some _ (hP2▸Heap.get?_push_of_some _ e)⟩
  rw [Heap.size_push,hh₁] at this
  exact this
 have hC:P2.objs.size=s2.heap.objs.size+1:=by rw [<- hP2,Heap.size_push]
 have hDC:s2.heap.objs.size≠P2.objs.size:=by rw [hC];exact Nat.ne_of_lt (Nat.lt_succ_self _)
 have below:∀ b,b<s2.heap.objs.size->b≠P2.objs.size/\b≠s2.heap.objs.size:=λb hb=>⟨by rw [hC];exact Nat.ne_of_lt (Nat.lt_succ_of_lt hb),Nat.ne_of_lt hb⟩
 have old:∀ b o,s2.heap.get? b=some o->h₁.get? b=some o:=λb o e=>upP b o (hP2▸Heap.get?_push_of_some _ e)
 have hacc:h₁.get? s2.heap.objs.size=some (lobj []):=upP _ _ (hP2▸Heap.get?_push_size _ rfl)
 generalize hCe:P2.objs.size=C at *
 generalize hDe:s2.heap.objs.size=D at *
 let Y:Cx:=cu X (Ex C s2 H2 fp) N' scope cl C s2 H2 fp
 have clLt:∀ y c,cl.lookup y=some c->c<D:=λy c e=>by
  obtain⟨v,q⟩:=I2.cell y c (K.sub.get y c e)
  rw [<- hDe]
  exact q.lt
 have cellsX:∀ y c,Y.env.cells.lookup y=some c->cl.lookup y=some c∨C+1<=c:=λy c e=>fQ _ _ _ e
 have cellNe:∀ y c,Y.env.cells.lookup y=some c->c≠D:=λy c e=>by
  rcases cellsX y c e with z | z
  ·exact Nat.ne_of_lt (clLt y c z)
  ·exact Nat.ne_of_gt (by omega)
 have freshH:∀ a,D<=a->H2 a=none:=λa ha=>I2.hok.fresh (by rw [hDe];exact ha)
 have hDleC:D<=C:=by rw [hC];exact Nat.le_succ _
 have lc:mO X C s2 H2 fp:=⟨⟨pins,σ,I2⟩,λb hb=>((f2 b hb).2.2.2.1).symm,λb hf hb=>by
   rcases List.mem_cons.mp (I2.ff b hf) with z | z
   ·exact (f2 b hb).2.1 z
   ·exact (f2 b hb).2.2.1 z,by rw [hDe];exact hDleC⟩
 have hbelowfp:∀ b∈fp,b<D:=λb hb=>by
  obtain⟨o,e,_⟩:=T.obj _ _ st2 b hb
  rw [<- hDe]
  exact Heap.lt_size e
 have okY:Y.Ok:=by
  refine⟨I2.ok.mod,K.kind,I2.ok.glob,I2.ok.blt,?_,mU _ _ _ (λx c e=>Nat.lt_succ_of_lt (Nat.lt_of_lt_of_le (clLt x c e) hDleC)) (λx y c e1 e2=>I2.ok.inj x y c (K.sub.get x c e1) (K.sub.get y c e2)),λx hx=>?_,λx c hf hc=>?_,I2.ok.hd,I2.ok.frames,.inl rfl,λb hb=>?_,I2.bs,Nat.le_trans I2.ok.bsz I2.sz,λb o e hb=>?_,λb hb hf=>?_,I2.stack,I2.gA⟩
  ·show s2.heap.objs.size<=C
   rw [hDe];exact hDleC
  ·have hx':(relabel scope X.env).names.lookup x=some .cell∨(relabel scope X.env).names.lookup x=some .free:=hx
   have:∃ y∈scope.names,y.1=x/\(y.2=.free∨y.2=.cell):=by
    rcases hx' with q | q
    ·exact gY q (.inl rfl)
    ·exact gY q (.inr rfl)
   obtain⟨y,hm,e1,e2⟩:=this
   refine Option.isSome_iff_exists.mp (PySem.W.cellsFrom_some _ _ _ ?_)
   rcases e2 with e2 | e2
   ·have q:=K.has y hm e2
    rw [e1] at q
    exact .inr q
   ·exact .inl (e1▸(K.nocell y hm e2).1)
  ·have hf':scope.names.lookup x=some .cell:=by simpa using (show (scope.names.lookup x==some .cell)=true from hf)
   have:=mV _ _ _ hf' hc
   show s2.heap.objs.size<=c
   rw [hDe];exact Nat.le_trans hDleC (Nat.le_of_succ_le this)
  ·refine⟨Nat.ne_of_lt (Nat.lt_of_lt_of_le (hbelowfp b hb) hDleC),λx c e=>?_⟩
   rcases cellsX x c e with z | z
   ·exact (f2 b hb).2.2.2.2.1 x c (K.sub.get x c z)
   ·exact Nat.ne_of_gt (Nat.lt_of_lt_of_le (Nat.lt_of_lt_of_le (hbelowfp b hb) hDleC) (Nat.le_of_succ_le z))
  ·rcases (f2 b hb).2.2.2.1 with z | z
   ·exact I2.ok.noex b o e z
   ·exact absurd (Nat.lt_of_lt_of_le (Heap.lt_size e) (Nat.le_trans I2.ok.bsz z)) (Nat.lt_irrefl _)
  ·rcases List.mem_cons.mp (I2.ff b hf) with z | z
   ·exact (f2 b hb).2.1 z
   ·exact (f2 b hb).2.2.1 z
 -- the block's names
 have locY:∀{s':Shared} {H':Hp} {σ':St},True:=λ{_ _ _}=>trivial
 have invY0:Inv Y [(D,lobj [])] (dJ js σ) H2 { s2 with heap:=h₁ }:=by
  refine⟨okY,rfl,I2.bare,Un.kept old,⟨_,hns₁,λi x v e1 e2 vis=>?_⟩,hcel,freshH C hDleC,λy c e=>?_,λp hp=>?_,I2.hok.kept old,?_⟩
  ·-- a name of the block that has a value stands outside in a cell
   have e2':(dJ js σ)[i]?=some (some v):=e2
   unfold dJ at e2'
   rw [List.getElem?_map] at e2'
   cases ej:js[i]? with
   | none=>rw [ej] at e2';cases e2'
   | some o =>
    rw [ej] at e2'
    cases o with
    | none=>cases e2'
    | some j =>
     obtain⟨n1,n2,n3,n4,n5⟩:=K.jok i j x ej e1
     have e3:(σ[j]?).join=some v:=by simpa using e2'
     have e4:σ[j]?=some (some v):=by
      cases q:σ[j]? with
      | none=>rw [q] at e3;cases e3
      | some z=>rw [q] at e3;simpa using e3
     obtain⟨m,hn,hl⟩:=I2.loc
     obtain⟨u,r,l⟩:=hl j x v n1 e4 n3
     refine⟨u,r,.inr ⟨n5,?_⟩⟩
     rcases l with⟨k,_⟩|⟨k,c,ec,z⟩
     ·exact absurd k n4
     ·obtain⟨c',ec'⟩:=Option.isSome_iff_exists.mp n2
      have ee:=K.sub.get x c' ec'
      rw [ec] at ee
      cases ee
      refine⟨c,(ko _ _ _ λy hy hk=>(K.nocell y hy hk).2 (some j,x) ?_ rfl).trans ec',?_⟩
      ·exact List.mem_of_getElem? (i:=i) (by rw [List.getElem?_zip_eq_some];exact⟨ej,e1⟩)
      obtain⟨o,ho,hd⟩:=z
      exact⟨o,old c o ho,hd⟩
  ·rcases cellsX y c e with z | z
   ·exact I2.freeC y c (K.sub.get y c z)
   ·exact freshH c (by omega)
  ·have hp':p∈[(D,lobj [])]:=hp
   have e:p=(D,lobj []):=by simpa using hp'
   subst e
   refine⟨hacc,freshH D (Nat.le_refl _),hDC,λz=>?_,λv z=>by cases z⟩
   rcases List.mem_cons.mp (I2.ff D z) with q | q
   ·exact absurd (q▸I2.lt) (by rw [hDe];exact Nat.lt_irrefl _)
   ·exact I2.wB (by rw [hDe];exact Nat.le_refl _) q
  ·show (dJ js σ).length=N'.length
   unfold dJ
   rw [List.length_map]
   exact K.jlen
 have hDfs:D∉Y.fs:=λz=>by
  rcases List.mem_cons.mp (I2.ff D z) with q | q
  ·exact absurd (q▸I2.lt) (by rw [hDe];exact Nat.lt_irrefl _)
  ·exact I2.wB (by rw [hDe];exact Nat.le_refl _) q
 have stat:∀{H':Hp} {ys:List Value},(∀ b∈fp,H' b=none)->∀ b∈fp,kh Y [(D,lobj ys)] H' b:=λ{H' ys} hn b hb=>by
  refine⟨hn b hb,Nat.ne_of_lt (Nat.lt_of_lt_of_le (hbelowfp b hb) hDleC),okY.exfs b hb,.inl hb,okY.exf b hb |>.2,λp hp=>?_⟩
  have hp':p∈[(D,lobj ys)]:=hp
  have e:p=(D,lobj ys):=by simpa using hp'
  subst e
  exact Nat.ne_of_gt (hbelowfp b hb)
 have loop:∀ s3:Shared,s3={ s2 with heap:=h₁ } ->
   codeAny (model X.prog X.w) X.A (.compLoop (.ListComp elt (⟨target,iter,ifs,0⟩::rest) scope pos) 0 (.ref it) (.ref D) (compEnvC scope (cellsFrom (C+1) scope.names cl) C X.env)) (compPost (model X.prog X.w) X.A X.xe use Q' (.ref D) C) s3:=by
  rintro s3 rfl
  refine hloop _ _ _ _ _ _ (λn s'=>∃ i ys vys H',Inv Y [(D,lobj ys)] (dJ js σ) H' s'/\tn i s'.heap/\(∀ b∈fp,H' b=none)/\Vals vys ys/\W i n vys H') ?_ m0
   ⟨0,[],[],H2,invY0,T.keep _ _ _ st2 λb _ o e=>old b o e,λb hb=>(f2 b hb).1,.nil,w0⟩ λe s' z=>herr C s2 H2 fp use Q' (.ref D) e s' z
  rintro n s4 ⟨i,ys,vys,H4,I4,st4,fr4,rv,w4⟩
  rcases turn i n vys H4 w4 with⟨stop,hz,qn⟩|⟨go,hz,Nn,hN,step⟩
  ·refine bH (T.done Y rfl rfl rfl hcalm i _ s4 _ H4 (Ex C s2 H2 fp) I4 (stat fr4) st4 stop) λr s5 ⟨hr,I5⟩=>?_
   subst hr
   obtain⟨m5,hn5,_⟩:=I5.loc
   obtain⟨pD,nD,_,_,_⟩:=I5.pin (D,lobj ys) (by show _∈[(D,lobj ys)];simp)
   have nC:H4 C=none:=I5.free
   refine hok C D vys H4 s5 ⟨m5,hn5⟩ (Nat.le_refl _) hDleC hDC nD nC (λh' hsb=>?_) (qn D nD)
   have pD':h'.get? D=some (lobj ys):=hsb.extBut _ _ hDC pD
   refine I2.xP (s':={ s5 with heap:=h' }) (ch:=fp) I5.os ?_ ?_ I5.bare (λb hb=>?_)
   ·-- kept
    have u:=I5.base
    have neC:∀ b o,s2.heap.get? b=some o->b≠C/\b≠D:=λb o e=>by
     have:=Heap.lt_size e
     rw [hDe] at this
     exact⟨Nat.ne_of_lt (Nat.lt_of_lt_of_le this hDleC),Nat.ne_of_lt this⟩
    refine⟨λb o e nn hb hx=>hsb.extBut b o (neC b o e).1 (u.keep b o e nn hb hx),λb o e nn hb hx=>?_,λb o e nn hx=>?_,λb o e hx=>?_,λb xs e=>?_,λb o xs e=>?_,λb ps e=>?_⟩
    ·obtain⟨sl,q⟩:=u.slot b o e nn hb hx
     exact⟨sl,hsb.extBut b _ (neC b o e).1 q⟩
    ·rw [au (neC b o e).2]
     exact u.free b o e nn hx
    ·obtain⟨o',q⟩:=u.there b o e hx
     exact⟨o',hsb.extBut b _ (neC b o e).1 q⟩
    ·rw [au (aS (u.tups b xs e) nD)]
     exact u.tups b xs e
    ·rw [au (aS (u.frzs b o xs e) nD)]
     exact u.frzs b o xs e
    ·obtain⟨more,q⟩:=u.tbls b ps e
     exact⟨more,by rw [au (aS q nD)];exact q⟩
   ·intro b o e
    by_cases hb:b=D
    ·subst hb
     rw [ah] at e
     cases e
     exact⟨hz,ys,_,rv,pD'⟩
    ·rw [au hb] at e
     refine (I5.hok b o e).jj (λc w' hc q=>hsb.extBut c w' ?_ q) (λc q=>by rw [au (aS q nD)];exact q) λc xs q=>by rw [au (aS q nD)];exact q
     rintro rfl
     rcases hc with rfl | hc
     ·rw [nC] at e;cases e
     ·rw [nC] at hc;cases hc
   ·exact⟨(f2 b hb).2.2.2.1,(f2 b hb).2.1,(f2 b hb).2.2.2.2.1,(f2 b hb).2.2.2.2.2⟩
  ·refine bH (T.item Y rfl rfl rfl hcalm i _ s4 _ H4 (Ex C s2 H2 fp) I4 (stat fr4) st4 go) λr s5 ⟨u,hr,h5⟩=>?_
   subst hr
   refine bH h5 λ_ s6 ⟨x,H6,I6,r6,y6,st6,fr6⟩=>?_
   have I6':=I6.pinned (stat fr6) (T.obj _ _ st6)
   refine bH (hg C s2 H2 fp lc _ s6 _ H6 x u _ I6' r6 (step x H6 y6)) λ_ s7 ⟨σ7,H7,I7,k7,q7⟩=>?_
   refine bH (ht C s2 H2 fp lc _ s7 σ7 H7 _ I7 q7) λb s8 ⟨H8,I8,q8⟩=>?_
   -- behind the tests and the element: the state goes back to what the next turn wants
   have again:∀{ys':List Value} {s9:Shared} {H9:Hp},Inv Y ([(D,lobj ys')]++gN fp s6.heap) σ7 H9 s9->Inv Y [(D,lobj ys')] (dJ js σ) H9 s9/\tn (i+1) s9.heap/\∀ b∈fp,H9 b=none:=λ{ys' s9 H9} I9=>by
    refine⟨(I9.gD).weak k7.len k7.get,T.keep _ _ _ st6 λb hb o e=>(I9.pin (b,o) (List.mem_append_right _ (List.mem_append_right _ (eC hb e)))).1,λb hb=>?_⟩
    obtain⟨o,e,d⟩:=T.obj _ _ st6 b hb
    exact (I9.pin (b,o) (List.mem_append_right _ (List.mem_append_right _ (eC hb e)))).2.1
   cases b with
   | false =>
    rw [if_neg Bool.false_ne_true] at q8 ⊢
    obtain⟨m',hm,w8⟩:=hN _ _ q8
    obtain⟨J8,t8,f8⟩:=again I8
    exact⟨m',hm,i+1,ys,vys,H8,J8,t8,f8,rv,w8⟩
   | true =>
    rw [if_pos rfl] at q8 ⊢
    have aok:nW Y D (gN fp s6.heap):=⟨λp hp z=>absurd (hbelowfp p.1 (jU hp).1) (by rw [z];exact Nat.lt_irrefl _),by show s2.heap.objs.size<=D;rw [hDe];exact Nat.le_refl _,λx c e=>cellNe x c e⟩
    refine hB C s2 H2 fp lc D ys vys _ σ7 H8 s8 Nn _ I8 rv aok hz q8 λys' vys' H9 s9 I9 rv' q9=>?_
    obtain⟨J9,t9,f9⟩:=again I9
    obtain⟨m',hm,w9⟩:=hN _ _ q9
    exact⟨m',hm,i+1,ys',vys',H9,J9,t9,f9,rv',w9⟩
 exact codeAny_compStart_list (loop _ rfl) (T.self _ 0 _ _ _ (T.keep _ _ _ st2 λb _ o e=>old b o e) (loop _ rfl))
theorem tj {Y:Cx} {D:Addr} {ys:List Value} {P:List (Addr × Obj)} {σ:St} {H:Hp} {s:Shared} {y:Value} {Q:Value->Shared->Prop} {E:Value->Shared->Prop} (hpn:Y.pn=[]) (I:Inv Y ([(D,lobj ys)]++P) σ H s) (ok:nW Y D P) (z:ys.length<sizeLine)
  (q:∀ s',Inv Y ([(D,lobj (ys++[y]))]++P) σ H s'->Q .none s'):wpAny (model Y.prog Y.w) Y.A (call (.builtin "list.append") [.ref D,y]) Q E s:=by
 obtain⟨pD,nD,neD,nfD,_⟩:=I.pin (D,lobj ys) (by rw [hpn];simp)
 refine append_at (hsz:=by show ys.toArray.size<=sizeLine;rw [List.size_toArray];exact Nat.le_of_lt z) (show s.heap.get? D=some { cls:=.type "list",data:=.seq ys.toArray ys.length } from pD) λh' hsb hD'=>q _ ?_
 have eD:h'.get? D=some (lobj (ys++[y])):=by
  rw [hD']
  unfold lobj
  rw [List.length_append,List.length_singleton,List.push_toArray]
 have J1:Inv Y P σ H s:=I.iB λp hp=>I.pin p (List.mem_append_right _ (List.mem_append_right _ hp))
 have J2:Inv Y P σ H { s with heap:=h' }:=J1.turned (t':=s.toks) (it:=D) (λb o hb e=>hsb.extBut b o hb e) nD neD (.inr ok.new) ok.cell λp hp=>ok.ne p (by rw [hpn] at hp;simpa using hp)
 refine J2.iB λp hp=>?_
 rcases List.mem_append.mp hp with hp | hp
 ·have e:p=(D,lobj (ys++[y])):=by simpa using hp
  subst e
  exact⟨eD,nD,neD,nfD,λv z=>by cases z⟩
 ·exact J2.pin p (List.mem_append_right _ hp)
theorem qH {Y:Cx} {D:Addr} {ys:List Value} {vys:List V} {P:List (Addr × Obj)} {σ:St} {H:Hp} {s:Shared} {elt:Expr} {te:TE} {N:List V->Hp->Prop} {Ps:Shared->Prop} (hpn:Y.pn=[]) (he:PE Y elt te) (I:Inv Y ([(D,lobj ys)]++P) σ H s) (rv:Vals vys ys) (ok:nW Y D P) (z:vys.length<sizeLine) (q:te σ H λv H4=>N (vys++[v]) H4)
  (k:∀ ys' vys' H' s',Inv Y ([(D,lobj ys')]++P) σ H' s'->Vals vys' ys'->N vys' H'->Ps s'):wpAny (model Y.prog Y.w) Y.A (nZ elt (.ref D) Y.env) (λ_ s'=>Ps s') Y.xe s:=by
 unfold nZ
 refine wpAny_bind (bH (he _ s σ H _ I q) λy s9 ⟨vy,H9,I9,r9,q9⟩=>?_)
 exact wpAny_bind (tj hpn I9 ok (by rw [<- rv.length];exact z) λs' I'=>wpAny_pure (k _ _ _ _ I' (rv.append (.cons r9 .nil)) q9))
theorem tZ {X:Cx} {Ex:Addr->Shared->Hp->List Addr->Value->Shared->Prop} {elt target iter:Expr} {ifs:List Expr} {scope:Scope} {pos:Pos} {N':List Str} {js:List (Option Nat)} {cl:List (Str × Addr)} {g:TG} {tt:TT} {te:TE} (hcalm:X.calm=true)
  (K:iF X N' js scope cl)
  (hg:∀ C s₂ H₂ fp,mO X C s₂ H₂ fp->PG (cu X (Ex C s₂ H₂ fp) N' scope cl C s₂ H₂ fp) target g) (ht:∀ C s₂ H₂ fp,mO X C s₂ H₂ fp->qE (cu X (Ex C s₂ H₂ fp) N' scope cl C s₂ H₂ fp) ifs tt) (he:∀ C s₂ H₂ fp,mO X C s₂ H₂ fp->PE (cu X (Ex C s₂ H₂ fp) N' scope cl C s₂ H₂ fp) elt te)
  (herr:∀ C s₂ H₂ fp use Q' acc e s',Ex C s₂ H₂ fp e s'->notedBy (model X.prog X.w) X.A (compEnvC scope (cellsFrom (C+1) scope.names cl) C X.env) (λe s''=>compPost (model X.prog X.w) X.A X.xe use Q' acc C (.error e) s'') e s')
  {pins:List (Addr × Obj)} {σ:St} {Q:VK} {use:Option (Value->Sem Unit)} {Q':Value->Shared->Prop} {itv:Value} {s2:Shared}
  (h2:yM X pins σ target (λJ H1=>∃ W:Nat->Nat->List V->Hp->Prop,(∃ m,W 0 m [] H1)/\∀ i m ys H,W i m ys H ->
 (J.stop i H/\ys.length<=sizeLine/\∀ p,H p=none->Q (.ref p) (upd H p (.lst ys))) ∨
 (J.go i H/\ys.length<sizeLine/\∃ N:List V->Hp->Prop,(∀ ys' H',N ys' H'->∃ m',m'<m/\W (i+1) m' ys' H') /\
  ∀ x H',J.yld i H x H'->g x (dJ js σ) H' λσ2 H2=>bO (dJ js σ) σ2/\tt σ2 H2 λb H3=>if b=true then te σ2 H3 λv H4=>N (ys++[v]) H4 else N ys H3)) itv s2)
  (hok:∀ C D vys H4 s5,(∃ m,s5.heap.Ns C m)->s2.heap.objs.size<=D->D<=C->D≠C->H4 D=none->H4 C=none->(∀ h',Heap.SameBut C s5.heap h'->Inv X pins σ (upd H4 D (.lst vys)) { s5 with heap:=h' })->Q (.ref D) (upd H4 D (.lst vys))->compPost (model X.prog X.w) X.A X.xe use Q' (.ref D) C (.ok .next) s5) :
  wpAny (model X.prog X.w) X.A (newList []) (λacc s₃=>wpAny (model X.prog X.w) X.A (newFunctionEnv scope X.env.globals cl [] X.env.qual none .none (some X.env)) (λcenv s₄ =>
   codeAny (model X.prog X.w) X.A (.compStart (.ListComp elt [⟨target,iter,ifs,0⟩] scope pos) 0 itv acc { cenv with scope:=relabel scope X.env }) (compPost (model X.prog X.w) X.A X.xe use Q' acc cenv.locals) s₄) X.xe s₃) X.xe s2 :=
 wu (Bd:=λEx acc env Ps s=>wpAny (model X.prog X.w) X.A (nZ elt acc env) (λ_ s'=>Ps s') Ex s) (Cc:=λys=>ys.length<sizeLine) (tb:=λys σ2 H3 N=>te σ2 H3 λv H4=>N (ys++[v]) H4) hcalm
  (λ_ _ _ it acc env I turn n h hE=>kr I (sI elt target iter ifs scope pos it acc env) turn n h hE) K hg ht
  (λC s₂ H₂ fp lc D ys vys P σ H s N Ps I rv ok z q k=>qH rfl (he C s₂ H₂ fp lc) I rv ok z q k) herr h2 hok
theorem fC {X:Cx} {elt target iter:Expr} {ifs:List Expr} {scope:Scope} {pos:Pos} {N':List Str} {js:List (Option Nat)} {cl:List (Str × Addr)} {wi:TI} {g:TG} {tt:TT} {te:TE} (hcalm:X.calm=true)
  (K:iF X N' js scope cl) (hi:PI X target iter wi)
  (hg:∀ C s₂ H₂ fp,PG (kq X N' scope cl C s₂ H₂ fp) target g) (ht:∀ C s₂ H₂ fp,qE (kq X N' scope cl C s₂ H₂ fp) ifs tt) (he:∀ C s₂ H₂ fp,PE (kq X N' scope cl C s₂ H₂ fp) elt te)
  (hs:∀ x,foldedSetIterable iter X.env x=pure x:=by intro _;rfl):PE X (.ListComp elt [⟨target,iter,ifs,0⟩] scope pos) (zZ js wi g tt te):=by
 intro pins s σ H Q I h
 rw [eval_ListComp]
 refine wpAny_comprehension_free (use:=none) rfl hs K.clos K.kind K.names (bH (hi pins s σ H _ I h) λv s1 h1=>bH h1 λitv s2 h2=>?_)
 exact tZ (Ex:=λ_ _ _ _ _ _=>False) hcalm K (λC s H f _=>hg C s H f) (λC s H f _=>ht C s H f) (λC s H f _=>he C s H f) (λ_ _ _ _ _ _ _ _ _ z=>z.elim) h2 λC D vys H4 s5 ⟨m,hn⟩ _ _ _ _ _ hI q=>⟨m,hn,λh' hsb=>⟨.ref D,_,hI h' hsb,rfl,q⟩⟩
def Bd (i:Int):Prop:=i.natAbs<2^4000
theorem qG:(10:Nat)^250<=2^4000:=by decide +kernel
theorem Bd.of {i:Int} (h1:-(10^250)<i) (h2:i<10^250):Bd i:=by
 refine Nat.lt_of_lt_of_le ?_ qG
 have:((10:Nat)^250:Nat)=((10:Int)^250).toNat:=by decide +kernel
 rw [this]
 omega
theorem Bd.mono {i j:Int} (h:Bd j) (h':i.natAbs<=j.natAbs):Bd i:=Nat.lt_of_le_of_lt h' h
theorem Bd.bits {i:Int} (h:Bd i):Builtin.Int.intBits i<=2^20 :=
 Nat.le_trans (intBits_le h) (by decide)
theorem Bd.zT {i j:Int} (h:Bd j):Builtin.divisionGoesByPylong i j=false:=by
 refine PyProof.noPylong_of_log2 ?_
 by_cases z:j.natAbs=0
 ·rw [z];decide
 ·exact Nat.lt_of_lt_of_le ((Nat.log2_lt z).mpr h) (by decide)
section
variable {X:Cx}
theorem aW:fz X (binaryOp .Mult) (rI (λi j=>Bd i/\Bd j) λi j=>.int (i*j)):=yh λ_ _ _ _ _ _ _ hc q=>mul_int q (IntMulOk.of_bits hc.1.bits hc.2.bits)
theorem bJ:fz X (binaryOp .FloorDiv) (rI (λ_ j=>0<j/\Bd j) λi j=>.int (i/j)):=yh λi j _ _ _ _ _ hc q=>by
 have h1:(0:Int)<j:=hc.1
 exact floordiv_int (by omega) (by rw [Int.fdiv_eq_ediv_of_nonneg i (by omega)];exact q) (.inl hc.2.zT)
theorem eR:fz X (inplaceOp .FloorDiv) (rI (λ_ j=>0<j/\Bd j) λi j=>.int (i/j)):=yh λi j _ _ _ _ _ hc q=>by
 have h1:(0:Int)<j:=hc.1
 exact ifloordiv_int (by omega) (by rw [Int.fdiv_eq_ediv_of_nonneg i (by omega)];exact q) (.inl hc.2.zT)
theorem fX {op:Operator} {r:R2} (ho:fz X (inplaceOp op) r):zQ X op r:=λpins s σ H x y v u Q I r1 r2 h=>ho pins s σ H x y v u Q I r1 r2 h
def vQ (i j k:Nat) (ta:TA):TS:=λD σ H=>ta σ H λvs H1=>∃ v w u,vs=[v,w,u]/\D.nx (((σ.set i (some v)).set j (some w)).set k (some u)) H1
theorem oJ {i j k:Nat} {x y z:Str} {a b c:Expr} {ta:TA} {px py pz pt pos:Pos} {kt k2 pt2} (hc:X.calm=true) (hN:X.N.Nodup) (hi:X.N[i]?=some x) (hj:X.N[j]?=some y) (hk:X.N[k]?=some z) (hij:i≠j) (hik:i≠k) (hjk:j≠k)
  (hx:X.env.scope.names.lookup x=some .local) (hy:X.env.scope.names.lookup y=some .local) (hz:X.env.scope.names.lookup z=some .local) (ha:PA X [a,b,c] ta)
  (hw:swappedStores [.Tuple [.Name x px,.Name y py,.Name z pz] kt pt] (.Tuple [a,b,c] k2 pt2) X.env=pure (some [x,y,z]))
  (hs:swapsWithSole [.Tuple [.Name x px,.Name y py,.Name z pz] kt pt] (.Tuple [a,b,c] k2 pt2) pos.line X.env=pure false:=by rfl) :
  PS X (.Assign [.Tuple [.Name x px,.Name y py,.Name z pz] kt pt] (.Tuple [a,b,c] k2 pt2) pos) (vQ i j k ta):=by
 intro pins s σ H D I h
 rw [exec_Assign_arm]
 refine wpAny_bind (wpAny_standAt ?_)
 rw [hs]
 refine wpAny_bind (wpAny_pure ?_)
 rw [if_neg (by decide)]
 refine wpAny_bind (Tuple_ (bH (ha _ pins s σ H _ I h) λus s1 ⟨vs,H1,I1,r1,q1⟩=>?_))
 obtain⟨v,w,u,e1,q1⟩:=q1
 subst e1
 obtain⟨u1,u2,u3,rfl,rv,rw',ru⟩:∃ u1 u2 u3,us=[u1,u2,u3]/\RelV v u1/\RelV w u2/\RelV u u3:=by
  cases r1 with
  | cons p q =>
   cases q with
   | cons p' q' =>
    cases q' with
    | cons p'' q'' =>
     cases q''
     exact⟨_,_,_,rfl,p,p',p''⟩
 refine wpAny_newObj_type ?_ (by show 3<=sizeLine;decide)
 have I2:Inv X pins σ H1 { s1 with heap:=s1.heap.push { cls:=.type "tuple",data:=.seq [u1,u2,u3].toArray } }:=I1.kept (t':=s1.toks) λb o e=>Heap.get?_push_of_some _ e
 rw [hw]
 refine wpAny_bind (wpAny_pure ?_)
 show wpAny (model X.prog X.w) X.A (do rule "assign.swapped-stores";let items <- unpackItems (.ref s1.heap.objs.size) 3 none;assignInOrder [λv=>bindName X.env z v,λv=>bindName X.env y v,λv=>bindName X.env x v] items.reverse;pure Flow.next) _ _ _
 refine wpAny_bind (wpAny_rule (wpAny_bind (unpackItems_tuple (items:=#[u1,u2,u3]) (I.ok.hd hc) (IsTup.new s1.heap _) λh' hx'=>?_)))
 have I3:=I2.kept (h':=h') (t':=s1.toks) λb o e=>hx' b o (Nat.ne_of_lt (Heap.lt_size e)) e
 show wpAny _ _ (assignInOrder [λv=>bindName X.env z v,λv=>bindName X.env y v,λv=>bindName X.env x v] [u3,u2,u1] >>= λ_=>pure Flow.next) _ _ _
 refine wpAny_bind (assignInOrder_cons (wpAny_bindName (cQ I3 hN hk (.inl hz) ru (λs2 I4=>?_) (.inr hz))))
 refine assignInOrder_cons (wpAny_bindName (cQ I4 hN hj (.inl hy) rw' (λs3 I5=>?_) (.inr hy)))
 refine assignInOrder_cons (wpAny_bindName (cQ I5 hN hi (.inl hx) rv (λs4 I6=>assignInOrder_nil (wpAny_pure ?_)) (.inr hx)))
 have e:((σ.set k (some u)).set j (some w)).set i (some v)=((σ.set i (some v)).set j (some w)).set k (some u):=by
  rw [List.set_comm _ _ (Ne.symm hij),List.set_comm _ _ (Ne.symm hik),List.set_comm _ _ (Ne.symm hjk)]
 rw [e] at I6
 exact⟨_,H1,I6,q1⟩
def wX (K:PySem.W.Frag):List V->Hp->VK->Prop:=λxs H Q=>∃(a:Addr) (bs:List Bool),xs=[.ref a]/\aT K H a (bs.map V.bl)/\Q (.bl (bs.all id)) H
theorem iI (hc:X.calm=true):eO X (.builtin "all") (wX X.K):=by
 intro pins s σ H xs us Q I r h
 obtain⟨a,bs,rfl,hq,q⟩:=h
 obtain⟨u,rfl,ru⟩:=vals1 r
 cases ru
 obtain⟨its,rv,p,hz⟩:=I.list hq
 have hl:=p.isList
 have hlt:a<s.heap.objs.size:=by obtain⟨_,e,_⟩:=hl;exact Heap.lt_size e
 have hb:∀(i:Nat) v,its[i]?=some v->∃ b,bs[i]?=some b/\v=.bool b:=λi v e=>by
  have hi:i<its.length:=(List.getElem?_eq_some_iff.mp e).1
  have hi2:i<bs.length:=by have:=rv.length;rw [List.length_map] at this;omega
  obtain⟨u,e1,e2⟩:=rv.get (i:=i) (x:=V.bl bs[i]) (by rw [List.getElem?_map,List.getElem?_eq_getElem hi2];rfl)
  rw [e] at e1
  cases e1
  exact⟨bs[i],List.getElem?_eq_getElem hi2,e2⟩
 have hln:its.length=bs.length:=by have:=rv.length;rw [List.length_map] at this;omega
 refine call_all_walk (wpAny_pyIter_list hl ?_)
 refine⟨s.heap.objs.size,[s.heap.objs.size,a],[s.heap.objs.size],its.toArray.size,_,_,λi=>(bs[i]?).getD true,rfl,Walks.list (A:=X.A.in1) (I.ok.hd hc) _ a (Nat.ne_of_lt hlt) its.toArray,
  ⟨⟨_,Heap.get?_push_size _ rfl,rfl,rfl⟩,hl.push _⟩,λi v s' Q' E' hP hQ=>?_,λh' tk hk=>?_⟩
 ·obtain⟨b,e,rfl⟩:=hb i v (by simpa using hP)
  simp only [e,Option.getD_some] at hQ
  exact wpAny_truthy_bool hQ
 ·have e:((List.range its.toArray.size).all λi=>(bs[i]?).getD true)=bs.all id:=by
   rw [List.size_toArray,hln,Bool.eq_iff_iff]
   simp only [List.all_eq_true,List.mem_range,id]
   constructor
   ·intro z b hb'
    obtain⟨i,hi,rfl⟩:=List.mem_iff_getElem.mp hb'
    have:=z i hi
    rwa [List.getElem?_eq_getElem hi,Option.getD_some] at this
   ·intro z i hi
    rw [List.getElem?_eq_getElem hi,Option.getD_some]
    exact z _ (List.getElem_mem hi)
  rw [e]
  exact⟨.bl _,H,I.kept λb o eb=>hk b o (λhm=>by rw [List.mem_singleton.mp hm] at eb;exact Nat.lt_irrefl _ (Heap.lt_size eb)) (Heap.get?_push_of_some _ eb),rfl,q⟩
end
def av (K:PySem.W.Frag) (mg:Str->Option Value) (x:Str) (st:Stmt):Prop:=∃ f fd,sP K x x st f fd/\mg x=some (.ref f)
structure Callee (P:Program) (w:World) (K:PySem.W.Frag) (mg:Str->Option Value) (base:Heap) (CX:iE) (k:Nat) (x:Str) (ps:List Str) (sp:Sp):Prop where
 ex:∃ f fd,cS P w K mg base CX k f fd ps sp/\mg x=some (.ref f)/\PySem.W.keepIn K (.ref f)=true/\Binds K fd ps []
section
variable {P:Program} {w:World} {K:PySem.W.Frag} {mg:Str->Option Value} {base:Heap} {CX:iE} {k:Nat} {x:Str} {ps:List Str} {sp:Sp}
theorem Callee.imp {sp':Sp} (C:Callee P w K mg base CX k x ps sp) (h:∀ vs H Q E,sp' vs H Q E->sp vs H Q E):Callee P w K mg base CX k x ps sp':=by
 obtain⟨f,fd,F,a,b,c⟩:=C.ex
 exact⟨f,fd,F.imp h,a,b,c⟩
theorem Callee.mono {j:Nat} (C:Callee P w K mg base CX k x ps sp) (h:k<=j):Callee P w K mg base CX j x ps sp:=by
 obtain⟨f,fd,F,a,b,c⟩:=C.ex
 exact⟨f,fd,F.mono h,a,b,c⟩
theorem aA {X:Cx} {E:XK} {e:Expr} {es:List Expr} {t:TA} {p pos:Pos} (C:Callee X.prog X.w X.K X.mg X.base CX k x ps sp) (hr:cm k X.A) (hg:Gl X x) (hx:Passes CX X E)
  (ha:PA X (e::es) t) (hdb:(x==("__debug__":Str))=false:=by decide) (he:starEach (e::es) X.env=(false,eval e X.env)::starEach es X.env:=by rfl) (hpl:(backTo pos (starEach es X.env)).any (·.1)=false:=by rfl) :
  PE X (.Call (.Name x p) (e::es) [] pos) (mE sp [] E t):=by
 obtain⟨f,fd,F,hm,hk,hb⟩:=C.ex
 exact uv F hr hg hm hk hb .nil hx ha hdb he hpl
theorem pB {st:Stmt} {N:List Str} (D:av K mg x st)
  (hb:∀(kV doc pm:Value) (an:Option Addr) (cdv ct:Value) (us:List Value),us.length=ps.length->bindArgs (PySem.W.fnOf x x (bM st) (aR st) (aj st) .none kV doc pm an cdv ct) ⟨us,[]⟩=pure (ps.zip us))
  (S:ay N ps (aj st)) (len:∀ vs H Q E,sp vs H Q E->vs.length=ps.length)
  (hbody:∀(f:Addr) (cdv:Value) (A:Around) (outer:List Env) (s:Shared) (H:Hp) (vs:List V) (Q:VK) (E:XK),cm k (A.deeper (envOfC x (aj st) s.heap.objs.size f cdv))->sp vs H Q E ->
   ∃ t,ix (ei aM P w K mg base N x (aj st) f cdv A outer s H E).mL (aR st) t/\t { nx:=λ_ H'=>Q .bo H',rt:=Q } (start N vs) H):Callee P w K mg base aM (k+1) x ps sp:=by
 obtain⟨f,fd,F,hm⟩:=D
 exact⟨f,fd,F.ok S len λcdv A outer s H vs Q E hr h=>hbody f cdv A outer s H vs Q E hr h,hm,F.kp,F.binds hb⟩
theorem qN {h:Heap} {f:Addr} {st:Stmt} {oc:Value} {od an:Option Addr} {osl:Array (Option Value)} {kV doc pm cdv ct:Value} (X:K.In h) (G:h.Ns mainGlobals mg)
  (a:PySem.W.nsIn K mainGlobals x=some (some (.ref f))) (l:K.lookup f=some ⟨oc,od,.func (PySem.W.fnOf x x (bM st) (aR st) (aj st) .none kV doc pm an cdv ct),osl⟩)
  (c:PySem.W.codeIn K cdv x=true) (kk:PySem.W.keepIn K (.ref f)=true):av K mg x st:=⟨f,_,qV l c kk,PySem.W.mg_of X G a⟩
end
def gG (cl:List (Str × Addr)):List (Str × NameKind)->Prop
 | []=>True
 | y::r=>(match y.2 with | .free=>(cl.lookup y.1).isSome=true | _=>True)/\gG cl r
theorem gG.get {cl:List (Str × Addr)}:∀{l:List (Str × NameKind)},gG cl l->∀ y∈l,y.2=.free->(cl.lookup y.1).isSome=true
 | [],_,_,h,_=>nomatch h
 | z::r,a,y,h,e=>by
  rcases List.mem_cons.mp h with q | q
  ·subst q
   have:=a.1
   rw [e] at this
   exact this
  ·exact gG.get a.2 y q e
def fM (X:Cx) (scope:Scope) (cl:List (Str × Addr)):List (Option Nat)->List Str->Prop
 | none::r,_::n=>fM X scope cl r n
 | some j::r,x::n=>(X.N[j]?=some x/\(cl.lookup x).isSome=true/\(X.env.scope.names.lookup x=some .cell∨X.env.scope.names.lookup x=some .free)/\((relabel scope X.env).names.lookup x=some .cell∨(relabel scope X.env).names.lookup x=some .free))/\fM X scope cl r n
 | [],[]=>True
 | _,_=>False
theorem fM.len {X:Cx} {scope:Scope} {cl:List (Str × Addr)}:∀{js:List (Option Nat)} {N:List Str},fM X scope cl js N->js.length=N.length
 | [],[],_=>rfl
 | none::r,_::n,h=>by
  have h':fM X scope cl r n:=h
  simp [fM.len h']
 | some j::r,x::n,h=>by
  have h':fM X scope cl r n:=h.2
  simp [fM.len h']
 | [],_::_,h=>h.elim
 | none::_,[],h=>h.elim
 | some _::_,[],h=>h.elim
theorem fM.get {X:Cx} {scope:Scope} {cl:List (Str × Addr)}:∀{js:List (Option Nat)} {N:List Str},fM X scope cl js N->∀(i j:Nat) x,js[i]?=some (some j)->N[i]?=some x ->
  X.N[j]?=some x/\(cl.lookup x).isSome=true/\xE X.env.scope x/\X.env.kindOf x≠some .local/\((relabel scope X.env).names.lookup x=some .cell∨(relabel scope X.env).names.lookup x=some .free)
 | [],[],_,i,j,x,e,_=>by simp at e
 | none::r,y::n,h,0,j,x,e,_=>by simp at e
 | none::r,y::n,h,i+1,j,x,e,e2=>fM.get (js:=r) (N:=n) h i j x (by simpa using e) (by simpa using e2)
 | some k::r,y::n,h,0,j,x,e,e2=>by
  have q:k=j:=by simpa using e
  have q2:y=x:=by simpa using e2
  subst q;subst q2
  obtain⟨a,b,c,d⟩:=h.1
  refine⟨a,b,?_,?_,d⟩
  ·rcases c with c | c
   ·exact .inr (.inl c)
   ·exact .inr (.inr c)
  ·intro z
   have z':X.env.scope.names.lookup y=some .local:=z
   rcases c with c | c
   ·rw [c] at z';cases z'
   ·rw [c] at z';cases z'
 | some k::r,y::n,h,i+1,j,x,e,e2=>fM.get (js:=r) (N:=n) h.2 i j x (by simpa using e) (by simpa using e2)
 | [],_::_,h,_,_,_,_,_=>h.elim
 | none::_,[],h,_,_,_,_,_=>h.elim
 | some _::_,[],h,_,_,_,_,_=>h.elim
theorem v8 {X:Cx} {N':List Str} {js:List (Option Nat)} {scope:Scope} {cl:List (Str × Addr)} (clos:closureFor scope X.env=pure cl) (kind:scope.kind=.function) (nocell:∀ y∈scope.names,y.2=.cell->scope.names.lookup y.1=some .cell/\∀ p∈js.zip N',p.1.isSome=true->p.2≠y.1)
  (names:∀ y∈scope.names,y.2=.local->scope.names.lookup y.1=some .local) (sub:AllIn X.env cl) (has:gG cl scope.names) (j:fM X scope cl js N'):iF X N' js scope cl :=
 ⟨clos,kind,nocell,names,sub,has.get,j.len,j.get⟩
theorem boot_int:bootBuiltins "int"=some (.type "int"):=by decide +kernel
theorem boot_bool:bootBuiltins "bool"=some (.type "bool"):=by decide +kernel
theorem boot_tuple:bootBuiltins "tuple"=some (.type "tuple"):=by decide +kernel
theorem boot_list:bootBuiltins "list"=some (.type "list"):=by decide +kernel
theorem boot_abs:bootBuiltins "abs"=some (.builtin "abs"):=by decide +kernel
theorem boot_all:bootBuiltins "all"=some (.builtin "all"):=by decide +kernel
theorem ak {H:Hp} {p:Addr} {o:HO} (h:H p=none):aB H (upd H p o):=λb u q=>by rw [au (aS q h)];exact q
theorem bc {α:Type} {c:TT} {tb:TS} {D:Ends} {σ:St} {H:Hp} (S:α->St) (Pv:α->Hp->Prop) (μ:α->Nat) (x₀:α) (hσ:σ=S x₀) (h0:Pv x₀ H)
  (hs:∀ x H,Pv x H->c (S x) H λb H1=>if b=true then (∃ N:St->Hp->Prop,(∀ σ' H',N σ' H'->∃ y,σ'=S y/\Pv y H'/\μ y<μ x)/\tb { D with nx:=N,ct:=N,bk:=D.nx } (S x) H1) else D.nx (S x) H1):sy c tb D σ H:=by
 subst hσ
 refine⟨λm σ H=>∃ x,σ=S x/\Pv x H/\m=μ x,⟨_,x₀,rfl,h0,rfl⟩,?_⟩
 rintro m σ H ⟨x,rfl,p,rfl⟩
 have q:=hs x H p
 have e:(λb H1=>if b=true then (∃ N:St->Hp->Prop,(∀ σ' H',N σ' H'->∃ y,σ'=S y/\Pv y H'/\μ y<μ x)/\tb { D with nx:=N,ct:=N,bk:=D.nx } (S x) H1) else D.nx (S x) H1) =
   (λb H1=>if b=true then (∃ N:St->Hp->Prop,(∀ σ' H',N σ' H'->∃ m',m'<μ x/\∃ y,σ'=S y/\Pv y H'/\m'=μ y)/\tb { D with nx:=N,ct:=N,bk:=D.nx } (S x) H1) else D.nx (S x) H1):=by
  funext b H1
  cases b with
  | false=>rfl
  | true =>
   simp only [if_true]
   refine propext ⟨fun⟨N,hN,z⟩=>⟨N,λσ' H' n=>?_,z⟩,fun⟨N,hN,z⟩=>⟨N,λσ' H' n=>?_,z⟩⟩
   ·obtain⟨y,e1,e2,e3⟩:=hN σ' H' n
    exact⟨_,e3,y,e1,e2,rfl⟩
   ·obtain⟨m',l,y,e1,e2,e3⟩:=hN σ' H' n
    exact⟨y,e1,e2,e3▸l⟩
 rw [e] at q
 exact q
end L2
namespace Gcd
structure J (A B g u v ng nu nv:Int):Prop where
 g0:0<=g
 n0:0<=ng
 e1:u*A+v*B=g
 e2:nu*A+nv*B=ng
 ex:∃ s U NU V NV:Int,(s=1∨s = -1)/\0<=U/\0<=NU/\0<=V/\0<=NV/\u=s*U/\nu = -s*NU/\v = -s*V/\nv=s*NV/\g*NU+ng*U=B/\g*NV+ng*V=A /\
  (U<=1∨U<=B)/\(NU<=1∨NU<=B)/\(V<=1∨V<=A)/\(NV<=1∨NV<=A)
theorem J.start {A B:Int} (ha:0<=A) (hb:0<=B):J A B A 1 0 B 0 1 :=
 ⟨ha,hb,by grind,by grind,1,1,0,0,1,.inl rfl,by decide,by decide,by decide,by decide,by grind,by grind,by grind,by grind,by grind,by grind,.inl (by decide),.inl (by decide),.inl (by decide),.inl (by decide)⟩
theorem jQ {n x B:Int} (hn:0<n) (hx:0<=x) (h:n*x<=B):x<=B:=by
 have:1*x<=n*x:=Int.mul_le_mul_of_nonneg_right hn hx
 omega
theorem J.turn {A B g u v ng nu nv:Int} (j:J A B g u v ng nu nv) (hn:0<ng) :
  J A B ng nu nv (g-g/ng*ng) (u-g/ng*nu) (v-g/ng*nv)/\(g-g/ng*ng)<ng/\0<=g/ng/\g/ng<=g:=by
 have q0:0<=g/ng:=Int.ediv_nonneg j.g0 j.n0
 have r:=Int.emod_def g ng
 have r0:=Int.emod_nonneg g (show ng≠0 by omega)
 have r1:=Int.emod_lt_of_pos g hn
 have ql:g/ng<=g:=Int.ediv_le_self ng j.g0
 have e1:=j.e1
 have e2:=j.e2
 have hc:g/ng*ng=ng*(g/ng):=Int.mul_comm _ _
 generalize g/ng=q at *
 obtain⟨s,U,NU,V,NV,hs,hU,hNU,hV,hNV,eu,enu,ev,env,b1,b2,l1,l2,l3,l4⟩:=j.ex
 have hqNU:0<=q*NU:=Int.mul_nonneg q0 hNU
 have hqNV:0<=q*NV:=Int.mul_nonneg q0 hNV
 have rr:0<=g-q*ng:=by omega
 have i1:ng*(U+q*NU)+(g-q*ng)*NU=B:=by grind
 have i2:ng*(V+q*NV)+(g-q*ng)*NV=A:=by grind
 have n1:0<=(g-q*ng)*NU:=Int.mul_nonneg rr hNU
 have n2:0<=(g-q*ng)*NV:=Int.mul_nonneg rr hNV
 refine⟨⟨j.n0,rr,e2,by grind,-s,NU,U+q*NU,NV,V+q*NV,by omega,hNU,by omega,hNV,by omega,by grind,by grind,by grind,by grind,i1,i2,l2,.inr (jQ hn (by omega) (by omega)),l4,.inr (jQ hn (by omega) (by omega))⟩,by omega,q0,ql⟩
structure yI (a b g u v:Int):Prop where
 g0:0<=g
 lin:u*a+v*b=g
 da:g∣a
 db:g∣b
 bu:u.natAbs<=max 1 b.natAbs
 bv:v.natAbs<=max 1 a.natAbs
theorem J.done {a b g u v nu nv:Int} (j:J (if a<0 then -a else a) (if b<0 then -b else b) g u v 0 nu nv):yI a b g (if a<0 then -u else u) (if b<0 then -v else v):=by
 have e1:=j.e1
 obtain⟨s,U,NU,V,NV,hs,hU,hNU,hV,hNV,eu,enu,ev,env,b1,b2,l1,l2,l3,l4⟩:=j.ex
 have hu:u.natAbs=U.toNat:=by
  rcases hs with rfl | rfl
  ·omega
  ·omega
 have hv:v.natAbs=V.toNat:=by
  rcases hs with rfl | rfl
  ·omega
  ·omega
 refine⟨j.g0,?_,?_,?_,?_,?_⟩
 ·split<;>split<;>rename_i h1 h2<;>simp only [h1,h2,if_true,if_false] at e1<;>grind
 ·have:g∣(if a<0 then -a else a):=⟨NV,by omega⟩
  by_cases h:a<0
  ·rw [if_pos h] at this
   exact Int.dvd_neg.mp this
  ·rw [if_neg h] at this
   exact this
 ·have:g∣(if b<0 then -b else b):=⟨NU,by omega⟩
  by_cases h:b<0
  ·rw [if_pos h] at this
   exact Int.dvd_neg.mp this
  ·rw [if_neg h] at this
   exact this
 ·have:(if a<0 then -u else u).natAbs=u.natAbs:=by split<;>omega
  rw [this,hu]
  split at l1<;>omega
 ·have:(if b<0 then -v else v).natAbs=v.natAbs:=by split<;>omega
  rw [this,hv]
  split at l3<;>omega
theorem J.small {A B g u v ng nu nv M:Int} (j:J A B g u v ng nu nv) (hA:0<=A) (hB:0<=B) (hAM:A<=M) (hBM:B<=M) (hM:1<=M):(-M<=u/\u<=M)/\(-M<=v/\v<=M)/\(-M<=nu/\nu<=M)/\(-M<=nv/\nv<=M):=by
 obtain⟨s,U,NU,V,NV,hs,hU,hNU,hV,hNV,eu,enu,ev,env,b1,b2,l1,l2,l3,l4⟩:=j.ex
 rcases hs with rfl | rfl
 ·refine⟨⟨?_,?_⟩,⟨?_,?_⟩,⟨?_,?_⟩,⟨?_,?_⟩⟩<;>omega
 ·refine⟨⟨?_,?_⟩,⟨?_,?_⟩,⟨?_,?_⟩,⟨?_,?_⟩⟩<;>omega
end Gcd
namespace L2
open PySem PySem.Spec PyProof.Rows
theorem aB.upd {H H1:Hp} {p:Addr} {o:HO} (h:aB H H1) (hp:H p=none):aB H (upd H1 p o):=λb u q=>by rw [au (aS q hp)];exact h b u q
theorem v3 {α:Type} {xs:List α} {k:Int} (h0:0<=k) (h1:k<xs.length):∃ v,nX xs k=some v/\xs[k.toNat]?=some v:=by
 have hk:k.toNat<xs.length:=by omega
 refine⟨xs[k.toNat],?_,List.getElem?_eq_getElem hk⟩
 have:=kj (xs:=xs) (j:=k.toNat) (List.getElem?_eq_getElem hk)
 rwa [Int.toNat_of_nonneg h0] at this
theorem cD {K:PySem.W.Frag} {H:Hp} {p:Addr} {xs:List V} {k:Int} {Q:VK} (h:aT K H p xs) (h0:0<=k) (h1:k<xs.length) (q:∀ v∈xs,Q v H):wZ K (.ref p) (.int k) H Q:=by
 obtain⟨v,e,e2⟩:=v3 h0 h1
 exact⟨p,xs,k,v,rfl,rfl,h,e,q v (List.mem_of_getElem? e2)⟩
theorem tX {K:PySem.W.Frag} {H:Hp} {p:Addr} {xs:List Int} {k:Int} {Q:VK} (h:H p=some (.lst (xs.map V.int))) (h0:0<=k) (h1:k<xs.length) (q:∀ v∈xs,Q (.int v) H):wZ K (.ref p) (.int k) H Q :=
 cD (aT.of h) h0 (by rw [List.length_map];exact h1) λv hv=>by
  obtain⟨i,hi,rfl⟩:=List.mem_map.mp hv
  exact q i hi
def Loop (J:It) (g:TG) (tb:TS) (D:Ends) (σ:St) (H:Hp):Prop:=∃ W:Nat->Nat->St->Hp->Prop,(∃ m,W 0 m σ H)/\∀ i m σ H,W i m σ H ->
 (J.stop i H/\D.nx σ H)∨(J.go i H/\∃ N:St->Hp->Prop,(∀ σ' H',N σ' H'->∃ m',m'<m/\W (i+1) m' σ' H')/\∀ x H',J.yld i H x H'->g x σ H' λσ2 H2=>tb { D with nx:=N,ct:=N,bk:=D.nx } σ2 H2)
theorem uS {wi:TI} {g:TG} {tb:TS} {D:Ends} {σ:St} {H:Hp}:yx wi g tb D σ H=wi σ H λJ H1=>Loop J g tb D σ H1:=rfl
theorem ni {lo:Int} {n:Nat} {g:TG} {tb:TS} {D:Ends} {σ:St} {H:Hp} (Pv:Nat->St->Hp->Prop) (h0:Pv 0 σ H)
  (hs:∀ i σ H,i<n->Pv i σ H->g (.int (lo+i)) σ H λσ2 H2=>tb { D with nx:=Pv (i+1),ct:=Pv (i+1),bk:=D.nx } σ2 H2) (hd:∀ σ H,Pv n σ H->D.nx σ H):Loop (uY lo n) g tb D σ H:=pG Pv h0 hs hd
theorem lO {K:PySem.W.Frag} {a:Addr} {xs:List V} {g:TG} {tb:TS} {D:Ends} {σ:St} {H:Hp} (Pv:Nat->St->Hp->Prop) (h0:Pv 0 σ H) (hl:∀ i σ H,i<=xs.length->Pv i σ H->aQ K H a xs)
  (hs:∀ i x σ H,xs[i]?=some x->Pv i σ H->g x σ H λσ2 H2=>tb { D with nx:=Pv (i+1),ct:=Pv (i+1),bk:=D.nx } σ2 H2) (hd:∀ σ H,Pv xs.length σ H->D.nx σ H):Loop (vW K a) g tb D σ H:=tI Pv h0 hl hs hd
def lj (J:It) (js:List (Option Nat)) (g:TG) (tt:TT) (te:TE) (σ:St) (Q:VK) (H1:Hp):Prop:=∃ W:Nat->Nat->List V->Hp->Prop,(∃ m,W 0 m [] H1)/\∀ i m ys H,W i m ys H ->
 (J.stop i H/\ys.length<=sizeLine/\∀ p,H p=none->Q (.ref p) (upd H p (.lst ys))) ∨
 (J.go i H/\ys.length<sizeLine/\∃ N:List V->Hp->Prop,(∀ ys' H',N ys' H'->∃ m',m'<m/\W (i+1) m' ys' H') /\
  ∀ x H',J.yld i H x H'->g x (dJ js σ) H' λσ2 H2=>bO (dJ js σ) σ2/\tt σ2 H2 λb H3=>if b=true then te σ2 H3 λv H4=>N (ys++[v]) H4 else N ys H3)
theorem xu {js:List (Option Nat)} {wi:TI} {g:TG} {tt:TT} {te:TE} {σ:St} {H:Hp} {Q:VK}:zZ js wi g tt te σ H Q=wi σ H λJ H1=>lj J js g tt te σ Q H1:=rfl
theorem c7 {K:PySem.W.Frag} {a:Addr} {xs:List V} {js:List (Option Nat)} {g:TG} {tt:TT} {te:TE} {σ:St} {Q:VK} {H1:Hp} (Pv:Nat->List V->Hp->Prop) (h0:Pv 0 [] H1) (hx:xs.length<=sizeLine) (hl:∀ i ys H,i<=xs.length->Pv i ys H->aT K H a xs/\ys.length<=i)
  (hs:∀ i x ys H,xs[i]?=some x->Pv i ys H->g x (dJ js σ) H λσ2 H2=>bO (dJ js σ) σ2/\tt σ2 H2 λb H3=>if b=true then te σ2 H3 λv H4=>Pv (i+1) (ys++[v]) H4 else Pv (i+1) ys H3)
  (hd:∀ ys H p,Pv xs.length ys H->H p=none->Q (.ref p) (upd H p (.lst ys))):lj (yX K a) js g tt te σ Q H1:=by
 refine⟨λi m ys H=>m=xs.length-i/\i<=xs.length/\Pv i ys H,⟨xs.length,by simp,Nat.zero_le _,h0⟩,?_⟩
 rintro i m ys H ⟨rfl,hi,p⟩
 obtain⟨q,hy⟩:=hl i ys H hi p
 by_cases hlt:i<xs.length
 ·refine .inr ⟨⟨xs,xs[i],q,by simp [hlt]⟩,by omega,Pv (i+1),λys' H' p'=>⟨xs.length-(i+1),by omega,rfl,hlt,p'⟩,λx H' y=>?_⟩
  obtain⟨e,y⟩:=y
  subst e
  exact hs i x ys _ (y xs q) p
 ·have e:i=xs.length:=by omega
  subst e
  exact .inl ⟨⟨xs,q,Nat.le_refl _⟩,by omega,λp' hp'=>hd ys H p' p hp'⟩
theorem gJ {K:PySem.W.Frag} {a:Addr} {xs:List V} {js:List (Option Nat)} {g:TG} {tt:TT} {te:TE} {σ:St} {Q:VK} {H1:Hp} (Pv:Nat->List V->Hp->Prop) (h0:Pv 0 [] H1) (hx:xs.length<=sizeLine) (hl:∀ i ys H,i<=xs.length->Pv i ys H->aQ K H a xs/\ys.length<=i)
  (hs:∀ i x ys H,xs[i]?=some x->Pv i ys H->g x (dJ js σ) H λσ2 H2=>bO (dJ js σ) σ2/\tt σ2 H2 λb H3=>if b=true then te σ2 H3 λv H4=>Pv (i+1) (ys++[v]) H4 else Pv (i+1) ys H3)
  (hd:∀ ys H p,Pv xs.length ys H->H p=none->Q (.ref p) (upd H p (.lst ys))):lj (vW K a) js g tt te σ Q H1:=by
 refine⟨λi m ys H=>m=xs.length-i/\i<=xs.length/\Pv i ys H,⟨xs.length,by simp,Nat.zero_le _,h0⟩,?_⟩
 rintro i m ys H ⟨rfl,hi,p⟩
 obtain⟨q,hy⟩:=hl i ys H hi p
 by_cases hlt:i<xs.length
 ·refine .inr ⟨⟨xs,xs[i],q,by simp [hlt]⟩,by omega,Pv (i+1),λys' H' p'=>⟨xs.length-(i+1),by omega,rfl,hlt,p'⟩,λx H' y=>?_⟩
  obtain⟨e,y⟩:=y
  subst e
  exact hs i x ys _ (y xs q) p
 ·have e:i=xs.length:=by omega
  subst e
  exact .inl ⟨⟨xs,q,Nat.le_refl _⟩,by omega,λp' hp'=>hd ys H p' p hp'⟩
theorem Af {CX:iE} {P:Program} {w:World} {K:PySem.W.Frag} {mg:Str->Option Value} {base:Heap} {N:List Str} {qual:Str} {scope:Scope} {f:Addr} {cd:Value} {A:Around} {outer:List Env} {s:Shared} {H:Hp} {E:XK} :
  (ei CX P w K mg base N qual scope f cd A outer s H E).K=K:=rfl
theorem xQ {X:Cx} {N':List Str} {scope:Scope} {cl:List (Str × Addr)} {C:Addr} {s₂:Shared} {H₂:Hp} {fp:List Addr}:(kq X N' scope cl C s₂ H₂ fp).K=X.K:=rfl
theorem aG {K:PySem.W.Frag} {b k:Bool} {H:Hp}:sW K (.bl b) H k=(k=b):=rfl
theorem sH {K:PySem.W.Frag} {i:Int} {k:Bool} {H:Hp}:sW K (.int i) H k=(k=(i != 0)):=rfl
def uD (K:PySem.W.Frag):List V->Hp->VK->Prop:=λxs H Q=>∃ p ys,xs=[.ref p]/\(aT K H p ys∨aQ K H p ys)/\Q (.int ys.length) H
theorem bj {X:Cx}:eO X (.builtin "len") (uD X.K):=km
theorem dz {K:PySem.W.Frag} {H:Hp} {p:Addr} {xs:List V} {Q:VK} (h:aT K H p xs) (q:Q (.int xs.length) H):uD K [.ref p] H Q:=⟨p,xs,rfl,.inl h,q⟩
theorem fk {K:PySem.W.Frag} {H:Hp} {p:Addr} {xs:List V} {Q:VK} (h:aQ K H p xs) (q:Q (.int xs.length) H):uD K [.ref p] H Q:=⟨p,xs,rfl,.inr h,q⟩
theorem mS {K:PySem.W.Frag} {H:Hp} {p:Addr} {bs:List Bool} {Q:VK} (h:aT K H p (bs.map V.bl)) (q:Q (.bl (bs.all id)) H):wX K [.ref p] H Q:=⟨p,bs,rfl,h,q⟩
theorem iC {a b:Int}:jy (.int a) (.int b)=true:=rfl
theorem uH {a b:Bool}:jy (.bl a) (.bl b)=true:=rfl
theorem uJ {a:Int}:jy (.int a) .bo=true:=rfl
theorem uK {a:Int}:jy .bo (.int a)=true:=rfl
theorem uL:jy .bo .bo=true:=rfl
theorem uI {a:Bool}:jy (.bl a) .bo=true:=rfl
theorem uM {a b:Str}:jy (.str a) (.str b)=true:=rfl
def zE (t:TS):TS:=λD σ H=>∃ R:St->Hp->Prop,t { D with nx:=R } σ H/\∀ σ' H',R σ' H'->D.nx σ' H'
theorem bT {X:Cx} {st:Stmt} {t:TS} (h:PS X st t):PS X st (zE t):=by
 intro pins s σ H D I ⟨R,hw,hR⟩
 refine bH (h pins s σ H _ I hw) λf s' q=>?_
 cases f with
 | next=>obtain⟨σ',H',I',r⟩:=q;exact⟨σ',H',I',hR _ _ r⟩
 | brk=>exact q
 | cont=>exact q
 | ret u=>exact q
theorem tH {P:Program} {w:World} {K:PySem.W.Frag} {mg:Str->Option Value} {base:Heap} {k:Nat} {x:Str} {ps:List Str} {sp:Sp} {st:Stmt} {N:List Str} {f:Addr} {fd:FuncData} (F:sP K x x st f fd)
  (S:ay N ps (aj st)) (len:∀ vs H Q E,sp vs H Q E->vs.length=ps.length)
  (hbody:∀(cdv:Value) (A:Around) (outer:List Env) (s:Shared) (H:Hp) (vs:List V) (Q:VK) (E:XK),cm k (A.deeper (envOfC x (aj st) s.heap.objs.size f cdv))->sp vs H Q E ->
   ∃ t,ix (ei aM P w K mg base N x (aj st) f cdv A outer s H E).mL (aR st) t/\t { nx:=λ_ H'=>Q .bo H',rt:=Q } (start N vs) H):cS P w K mg base aM (k+1) f fd ps sp :=
 F.ok S len λcdv A outer s H vs Q E hr h=>hbody cdv A outer s H vs Q E hr h
theorem tY {P:Program} {w:World} {K:PySem.W.Frag} {mg:Str->Option Value} {k:Nat} {x y:Str} {sp:Sp} {st:Stmt} {fa:Addr} (hfa:mg x=some (.ref fa)) (D:av K mg x st)
  (hb:∀(kV doc pm:Value) (an:Option Addr) (cdv ct:Value) (u:Value),bindArgs (PySem.W.fnOf x x (bM st) (aR st) (aj st) .none kV doc pm an cdv ct) ⟨[u],[]⟩=pure [(y,u)])
  (ok:∀(base:Heap) (f:Addr) (fd:FuncData),K.In base->sP K x x st f fd->cS P w K mg base aM k f fd [y] sp) :
  ∃ fd:FuncData,(∀(s:Shared) (u:Value),BindsTo s fd ⟨[u],[]⟩ [(y,u)])/\∀ base:Heap,K.In base->base.Ns mainGlobals mg->cS P w K mg base aM k fa fd [y] sp:=by
 obtain⟨f,fd,F,hm⟩:=D
 have e:=hfa.symm.trans hm
 cases e
 refine⟨fd,λs u=>?_,λbase kb _=>ok base _ _ kb F⟩
 obtain⟨oc,od,kV,doc,pm,an,cdv,ct,osl,rfl,lk,hcd⟩:=F.ex
 exact .of_eq (hb kV doc pm an cdv ct u)
end L2
namespace L2
open PySem PySem.Spec PyProof.Rows PySem.W
def b9:List Value:=[.type "ValueError",.type "Exception",.type "BaseException",.type "object"]
def bQ:List Value->Bool
 | .ref _::r=>bQ r
 | l=>l==b9
theorem mj (self:Value):refuseLoop self "__setattr__" b9=pure ():=by kernel_rfl
theorem i4 (self:Value):∀{l:List Value},bQ l=true->refuseLoop self "__setattr__" l=pure ()
 | .ref c::r,e=>by rw [refuseLoop_ref];exact i4 self (l:=r) e
 | [],e=>by cases e
 | .type n::r,e=>by
  have:Value.type n::r=b9:=by simpa [bQ] using e
  rw [this];exact mj self
 | .none::r,e=>by simp [bQ,b9] at e
 | .bool _::r,e=>by simp [bQ,b9] at e
 | .int _ _::r,e=>by simp [bQ,b9] at e
 | .str _ _::r,e=>by simp [bQ,b9] at e
 | .bytes _ _::r,e=>by simp [bQ,b9] at e
 | .float _ _::r,e=>by simp [bQ,b9] at e
 | .builtin _::r,e=>by simp [bQ,b9] at e
theorem kx {l:List Value}:bQ l=true->l.contains (.type "object")=true/\l.contains (.type "BaseException")=true/\l.isEmpty=false:=by
 intro h
 induction l with
 | nil=>cases h
 | cons a r ih =>
  cases a with
  | ref c =>
   obtain⟨h1,h2,_⟩:=ih h
   exact⟨by rw [List.contains_cons,h1,Bool.or_true],by rw [List.contains_cons,h2,Bool.or_true],rfl⟩
  | type n =>
   have e:Value.type n::r=b9:=by simpa [bQ] using h
   rw [e]
   exact⟨by decide,by decide,rfl⟩
  | _=>simp [bQ,b9] at h
section
variable {prog:Program} {w:World} {A:Around} {E:Value->Shared->Prop} {s:Shared} {K:PySem.W.Frag} {x C:Addr} {name:Str} {v:Value} {cd:ClassData}
theorem tF {vs:Array Value} {sl:Array (Option Value)} {Q:Unit->Shared->Prop} (X:K.In s.heap) (hx:s.heap.get? x=some ⟨.ref C,none,.fields vs,sl⟩) (hc:clsIn K C=some cd) (hm:bQ cd.mro=true) (hh:cd.hasDict=true)
  (hs:findIn K (.ref C) "__setattr__"=some (some (.builtin "object.__setattr__"))) (hn:findIn K (.ref C) name=some none)
  (h:∀ h',h'.get? x=some ⟨.ref C,some s.heap.objs.size,.fields vs,sl⟩->h'.Ns1 s.heap.objs.size (λy=>if y=name then some v else none)->(∀ b ob,b≠x->s.heap.get? b=some ob->h'.get? b=some ob)->Q () { s with heap:=h',toks:=s.toks+2 }) :
  wpAny (model prog w) A (setAttr (.ref x) name v) Q E s:=by
 have I:PySem.W.InstAt s.heap x ⟨.ref C,none,.fields vs,sl⟩ C none:=⟨hx,rfl,rfl,True.intro⟩
 obtain⟨m1,m2,m3⟩:=kx hm
 refine PySem.W.set_plain X I hs ?_
 have SF:=PySem.F.store_object
 have sub:Looks (model prog w) s.heap (isInstance (.ref x) (.type "object")) true:=I.type.andThen (looks_mroIn X (by unfold mroIn;rw [hc,Option.bind_some,if_neg (by rw [m3];decide),m1]))
 refine codeAny_call_builtin SF.slot.plain SF.entry (@check_slot (model prog w) _ _ { s with toks:=s.toks+1 } "object.__setattr__" "object" "__setattr__" (.ref x) [.str name s.toks,v] [] _ SF.kind SF.split sub (SF.args (.ref x) (.str name s.toks) v) ?_)
 have L1:Looks (model prog w) s.heap (mroOf (.ref C)) cd.mro:=(looks_clsIn X hc).andThen .now
 rw [osa_eq,refuse_eq]
 refine wpAny_bind (wpAny_bind (Looks.here (s:={ s with toks:=s.toks+1 }) I.type (wpAny_bind (Looks.here (s:={ s with toks:=s.toks+1 }) L1 ?_))))
 rw [i4 _ hm]
 refine wpAny_pure (wpAny_bind (Looks.here (s:={ s with toks:=s.toks+1 }) I.type (wpAny_bind (Looks.here (s:={ s with toks:=s.toks+1 }) (looks_findIn X hn) (wpAny_bind (wpAny_pure ?_))))))
 show wpAny _ _ (Builtin.ObjectAttr.storeInOwnDict (.ref x) (.ref C) (.str name s.toks) name v false) _ _ _
 refine wpAny_bind (wpAny_pure (wpAny_bind (wpAny_bind (wpAny_loadPart hx (wpAny_bind (Looks.here (s:={ s with toks:=s.toks+1 }) (looks_clsIn X hc) ?_))))))
 rw [hh]
 refine wpAny_bind (wpAny_alloc ?_)
 have hlt:x≠s.heap.objs.size:=Nat.ne_of_lt (Heap.lt_size hx)
 have hp:(s.heap.push { cls:=.type "dict",data:=.dict #[] }).get? x=some ⟨.ref C,none,.fields vs,sl⟩:=Heap.get?_push_of_some _ hx
 refine wpAny_bind (wpAny_update (s:={ s with toks:=s.toks+1,heap:=s.heap.push { cls:=.type "dict",data:=.dict #[] } }) hp ?_)
 refine wpAny_pure ?_
 show wpAny _ _ (Builtin.ObjectAttr.storeInDict s.heap.objs.size (.str name s.toks) name v) _ _ _
 generalize hu:(s.heap.push { cls:=.type "dict",data:=.dict #[] }).update x (λo=>{ o with dict:=some s.heap.objs.size })=h1
 have g1:h1.get? x=some ⟨.ref C,some s.heap.objs.size,.fields vs,sl⟩:=by rw [<- hu];exact Heap.get?_update_self _ hp rfl
 have g2:∀ b,b≠x->h1.get? b=(s.heap.push { cls:=.type "dict",data:=.dict #[] }).get? b:=λb hb=>by rw [<- hu];exact Heap.get?_update_other _ _ (Ne.symm hb)
 have g3:h1.Ns1 s.heap.objs.size (λ_=>none):=by
  have e1:h1.get? s.heap.objs.size=some { cls:=.type "dict",data:=.dict #[] }:=by rw [g2 _ (Ne.symm hlt)];exact Heap.get?_push_size _ rfl
  have e3:h1.Ns s.heap.objs.size (λ_=>none):=⟨_,#[],_,e1,rfl,(λe he=>absurd he (by simp)),λ_=>rfl⟩
  exact Heap.Ns1.of_empty e3
 refine wpAny_bind (wpAny_pure (wpAny_bind ?_))
 refine wpAny_nsSet1 (s:={ s with toks:=s.toks+1,heap:=h1 }) g3 λh' hn2 hs2=>?_
 obtain⟨oD,esD,epD,hoD,hdD,hcD⟩:=hn2.count (ns:=[name]) (PySem.Within.cons name v (ns:=[]) (λy hy=>absurd rfl hy))
 refine wpAny_bind (wpAny_lookBehind hoD (by rw [hdD];exact pastItsLine_dict (Nat.le_trans hcD (by show 1<=sizeLine+1;decide))) ?_)
 refine wpAny_pure (h h' ((hs2.2 _ hlt).trans g1) hn2 λb ob hb e=>?_)
 have hb2:b≠s.heap.objs.size:=Nat.ne_of_lt (Heap.lt_size e)
 exact (hs2.2 b hb2).trans ((g2 b hb).trans (Heap.get?_push_of_some _ e))
structure dk (K:PySem.W.Frag) (C:Addr):Prop where
 cls:∃ cd,clsIn K C=some cd/\bQ cd.mro=true/\cd.hasDict=true
 at_:∃ od cd sl,K.lookup C=some ⟨.type "type",od,.cls cd,sl⟩
 sa:findIn K (.ref C) "__setattr__"=some (some (.builtin "object.__setattr__"))
 ga:findIn K (.ref C) "__getattribute__"=some (some (.builtin "BaseException.__getattribute__"))
 gx:findIn K (.ref C) "__getattr__"=some none
 ca:findIn K (.ref C) "__class__"=some (some (.builtin "object.__class__"))
 gs:specialIn K (.builtin "object.__class__") "__get__"=some (some (.builtin "getset_descriptor.__get__"))
 tk:takesIn K (.builtin "object.__class__")=some true
theorem dk.there (c:dk K C) {h:Heap} (X:K.In h):∃ oc od cd sl,h.get? C=some ⟨oc,od,.cls cd,sl⟩:=by
 obtain⟨cd,hc,_⟩:=c.cls
 unfold clsIn at hc
 split at hc
 ·rename_i c' d' cd' sl' ho
  exact⟨_,_,_,_,X _ _ ho⟩
 ·cases hc
end
section
variable {prog:Program} {w:World} {A:Around} {E:Value->Shared->Prop} {h:Heap} {g:Array GenState} {d:Drawn} {t:Nat} {os:OsState}
variable {nm q:Str} {C N:Addr} {bs bm:List Value} {hdct:Bool} {sn:List Str} {sub:List Value} {ab:Bool} {col:Option Bool} {dd:Option Addr} {k0 k1 k2 k3 k5:Option Value}
abbrev jA:String := "ValueError.__new__"
abbrev newExc (C a:Addr):Obj:={ cls:=.ref C,data:=.fields #[.ref a,.none,.none,.none,.bool false,.none] }
theorem tE (hB:bm.contains (.type "ValueError")=true) (hA:bm.contains (.type "AttributeError")=false) (hN:bm.contains (.type "NameError")=false) {rest:List Value} {R:Result->Shared->Prop}
  (hC:h.get? C=some (excClassObj nm q C N bs bm hdct sn sub ab col dd k0 k1 k2 k3 k5 jA)) (hrest:rest.length<=sizeLine)
  (hq:R (.ok (.ret (.ref (h.objs.size+1)))) ⟨(h.push { cls:=.type "tuple",data:=.seq rest.toArray }).push (newExc C h.objs.size),g,d,t,os⟩) :
  codeAny (model prog w) A (.builtin jA ⟨.ref C::rest,[]⟩) R ⟨h,g,d,t,os⟩:=by
 have Fn:=PySem.F.excBase_ValueError
 have hends:=Fn.ends
 have cB:(Value.ref C::bm).contains (.type "ValueError")=true:=by rw [List.contains_cons,hB,Bool.or_true]
 have cA:(Value.ref C::bm).contains (.type "AttributeError")=false:=by rw [List.contains_cons,hA];rfl
 have cN:(Value.ref C::bm).contains (.type "NameError")=false:=by rw [List.contains_cons,hN];rfl
 refine codeAny_builtinAt Fn.entry ?_
 unfold Builtin.«BaseException.__new__»
 refine PySem.wpAt_bind ?_
 show PySem.wpAt _ _ _ (stack >>= _) _ _ _
 refine PySem.wpAt_bind (PySem.wpAt_stack λp below=>PySem.wpAt_of_wpAny ?_)
 wp_walk
 refine PySem.wpAt_of_wpAny ?_
 rw [Fn.owner]
 repeat (first | with_reducible refine wpAny_madeHere_exc Fn.canon hC ?_ | with_reducible refine wpAny_loadPart_at hC ?_ | (with_reducible refine wpAny_isSubtype_exc hC ?_;first | rw [cB] | rw [cA] | rw [cN]) | wp_step)
 show R _ _
 rw [Heap.size_push]
 exact hq
theorem jt (hB:bm.contains (.type "ValueError")=true) {rest:List Value} {M:Model} {Q:Unit->Shared->Prop} (hC:h.get? C=some (excClassObj nm q C N bs bm hdct sn sub ab col dd k0 k1 k2 k3 k5 jA))
  (hq:Q () ⟨h,g,d,t,os⟩):wpAny M A (checkBuiltinCall jA ⟨.ref C::rest,[]⟩) Q E ⟨h,g,d,t,os⟩:=by
 have Fn:=PySem.F.excBase_ValueError
 have cB:(Value.ref C::bm).contains (.type "ValueError")=true:=by rw [List.contains_cons,hB,Bool.or_true]
 have hstar:=Fn.noStar
 simp only [checkBuiltinCall,Fn.newKind,Fn.newSplit,Fn.newRow]
 repeat (first | refine wpAny_loadPart_at hC ?_ | (refine wpAny_isSubtype_exc hC ?_;rw [cB]) | refine wpAny_staticBase_exc hC ?_ | refine wpAny_madeBy_exc hC ?_ | simp only [bne_self_eq_false,Bool.false_eq_true,if_false] | wp_step)
 exact hq
theorem ky {K:PySem.W.Frag} {i:Value} {rest:List Value} {Q:Fin->Shared->Prop} (X:K.In h) (hB:bm.contains (.type "ValueError")=true) (hA:bm.contains (.type "AttributeError")=false) (hN:bm.contains (.type "NameError")=false)
  (hC:h.get? C=some (excClassObj nm q C N bs bm hdct sn sub ab col dd k0 k1 k2 k3 k5 jA)) (hrest:rest.length<=sizeLine) (hi:findIn K (.ref C) "__init__"=some (some i)) {j:Value}
  (hb:Looks (model prog w) h (bindSpecial i (.ref (h.objs.size+1))) (j,[.ref (h.objs.size+1)]))
  (hq:codeAny (model prog w) A (.call j ⟨.ref (h.objs.size+1)::rest,[]⟩) (λr s'=>match r with | .ok (.ret v)=>v=.none/\Q (.done (.ret (.ref (h.objs.size+1)))) s' | .ok _=>False | .error e=>E e s')
   ⟨(h.push { cls:=.type "tuple",data:=.seq rest.toArray }).push (newExc C h.objs.size),g,d,t,os⟩) :
  wpAny (model prog w) A (Builtin.«type.__call__» ⟨.ref C::rest,[]⟩) Q E ⟨h,g,d,t,os⟩:=by
 have Fn:=PySem.F.excBase_ValueError
 repeat (first | with_reducible refine wpAny_loadPart_at hC ?_ | with_reducible refine wpAny_madeBy_exc hC ?_ | wp_step)
 refine codeAny_call_builtin_code (Code.quiet_builtin _ Fn.quiet) (jt hB hC ?_)
 refine tE hB hA hN hC hrest ?_
 show wpAny _ _ _ _ _ _
 have kp:∀ b o,h.get? b=some o->((h.push { cls:=.type "tuple",data:=.seq rest.toArray }).push (newExc C h.objs.size)).get? b=some o:=λb o e=>Heap.get?_push_of_some _ (Heap.get?_push_of_some _ e)
 have hget:((h.push { cls:=.type "tuple",data:=.seq rest.toArray }).push (newExc C h.objs.size)).get? (h.objs.size+1)=some (newExc C h.objs.size):=by
  have:=Heap.get?_push_size (h.push { cls:=.type "tuple",data:=.seq rest.toArray }) (o:=newExc C h.objs.size) rfl
  rwa [Heap.size_push] at this
 have cC:(Value.ref C::bm).contains (.ref C)=true:=by simp
 have hC₁:=kp _ _ hC
 have L1:=(looks_findIn (M:=model prog w) X hi).keeps kp
 have L2:=hb.keeps kp
 unfold isInstance
 repeat (first | with_reducible refine wpAny_loadPart_at hget ?_ | (with_reducible refine wpAny_isSubtype_exc hC₁ ?_;rw [cC]) | wp_step)
 show wpAny _ _ (typeLookup (.ref C) _) _ _ _
 refine L1.at (wpAny_holding (wpAny_bind (L2.at (wpAny_bind (wpAny_call (codeAny_mono hq λr s' z=>?_))))))
 rcases r with e | (_ | _ | _ | v)
 ·exact z
 ·exact z.elim
 ·exact z.elim
 ·exact z.elim
 ·obtain⟨rfl,z⟩:=z
  exact wpAny_pure (wpAny_pure z)
theorem lG {K:PySem.W.Frag} {i:Value} {rest:List Value} {Q:Value->Shared->Prop} (X:K.In h) (hB:bm.contains (.type "ValueError")=true) (hA:bm.contains (.type "AttributeError")=false) (hN:bm.contains (.type "NameError")=false)
  (hC:h.get? C=some (excClassObj nm q C N bs bm hdct sn sub ab col dd k0 k1 k2 k3 k5 jA)) (hrest:rest.length<=sizeLine) (hi:findIn K (.ref C) "__init__"=some (some i)) {j:Value}
  (hb:Looks (model prog w) h (bindSpecial i (.ref (h.objs.size+1))) (j,[.ref (h.objs.size+1)]))
  (hq:codeAny (model prog w) (A.under (.builtin "type.__call__" ⟨.ref C::rest,[]⟩)) (.call j ⟨.ref (h.objs.size+1)::rest,[]⟩) (λr s'=>match r with | .ok (.ret v)=>v=.none/\Q (.ref (h.objs.size+1)) s' | .ok _=>False | .error e=>E e s')
   ⟨(h.push { cls:=.type "tuple",data:=.seq rest.toArray }).push (newExc C h.objs.size),g,d,t,os⟩) :
  wpAny (model prog w) A (call (.ref C) rest) Q E ⟨h,g,d,t,os⟩:=by
 have f1:=tc_lookup
 have f2:=tc_bind (.ref C)
 have hT:(⟨h,g,d,t,os⟩:Shared).TypeIs (.ref C) "type":=⟨_,hC,rfl⟩
 refine wpAny_call (codeAny_of_tree ?_)
 show wpAny _ _ (callAny (.ref C) _) _ _ _
 repeat (any_goals (first | assumption | with_reducible refine wpAny_loadPart_at hC ?_ | wp_step))
 refine⟨rfl,?_⟩
 refine codeAny_call_builtin_at (Code.quiet_builtin _ (by decide +kernel)) entry_typeCall (wpAny_check_type_call_sub hC ?_)
 exact ky X hB hA hN hC hrest hi hb hq
end
def Tr (h:Heap) (e:Addr) (C:Value) (dd:Option Addr) (T:Addr) (fl:Value):Prop :=
 ∃ vs sl oT ts,h.get? e=some ⟨C,dd,.fields vs,sl⟩/\vs[1]?=some (.ref T)/\T≠e/\h.get? T=some oT/\oT.data=.fields ts/\ts[3]?=some fl
structure Kp (fs ch:List Addr) (h h':Heap):Prop where
 keep:∀ b o,b∉ch->b∉fs->h.get? b=some o->h'.get? b=some o
 slot:∀ b o,b∉ch->h.get? b=some o->∃ sl,h'.get? b=some { o with slots:=sl }
theorem Kp.trans {fs ch:List Addr} {h h' h'':Heap} (a:Kp fs ch h h') (b:Kp fs ch h' h''):Kp fs ch h h'' :=
 ⟨λc o hc hf e=>b.keep c o hc hf (a.keep c o hc hf e),λc o hc e=>by
  obtain⟨sl,e1⟩:=a.slot c o hc e
  obtain⟨sl',e2⟩:=b.slot c _ hc e1
  exact⟨sl',e2⟩⟩
theorem Kp.mono {fs ch ch':List Addr} {h h':Heap} (a:Kp fs ch h h') (hs:∀ b∈ch,b∈ch'):Kp fs ch' h h' :=
 ⟨λc o hc hf e=>a.keep c o (λz=>hc (hs c z)) hf e,λc o hc e=>a.slot c o (λz=>hc (hs c z)) e⟩
section
variable {M:Model} {A:Around} {E:Value->Shared->Prop} {s:Shared} {base:Heap} {env:Env} {outer:List Env} {L e T:Addr} {C:Value} {dd:Option Addr} {fl:Value}
theorem lI {vs:Array Value} {sl:Array (Option Value)} {head:Value} {hadNext:Bool} {Q:Unit->Shared->Prop} (hfr:A.frames=some (env::outer)) (hl:s.heap.FunFrames base (env::outer)) (hf:env.frame=some L)
  (he:s.heap.get? e=some ⟨C,dd,.fields vs,sl⟩) (hsz:1<vs.size)
  (h:∀ h' T,Tr h' e C dd T (rawInt L)->s.heap.objs.size<=T->Kp (fx (env::outer)) [e] s.heap h'->Q () { s with heap:=h' }) :
  wpAny M A (do let a <- frameOf env;let pl <- entryPlaceOf L hadNext;let b <- EntryCells.newEntry head a .none (rawInt L) .none pl;setField (.ref e) 1 b) Q E s:=by
 have hne:e∉fx (env::outer):=λhm=>by
  obtain⟨_,o,ho,hnf⟩:=hl.mem hm
  rw [he] at ho
  cases ho
  exact hnf vs rfl
 refine wpAny_bind (wpAny_frameOf_fun hfr hl hf λh1 so=>?_)
 refine wpAny_bind (wpAny_entryPlaceOf λpl hpl=>?_)
 unfold EntryCells.newEntry newFields
 refine wpAny_bind (wpAny_newObj_type ?_ (hpl.sizeOk5 _ _ _ _ _))
 have e1:h1.get? e=some ⟨C,dd,.fields vs,sl⟩:=(so.2.1 e hne).trans he
 generalize hO:({ cls:=.type "traceback",dict:=none,data:=.fields ([head,.ref L,.none,rawInt L,.none]++(if pl.isEmpty then List.replicate 6 Value.none else pl)).toArray }:Obj)=oT
 have hTd:oT.data=.fields ([head,.ref L,.none,rawInt L,.none]++(if pl.isEmpty then List.replicate 6 Value.none else pl)).toArray:=by rw [<- hO]
 have hTf:oT.isFreed=false:=by rw [<- hO];rfl
 have e2:(h1.push oT).get? e=some ⟨C,dd,.fields vs,sl⟩:=Heap.get?_push_of_some oT e1
 refine wpAny_setField e2 rfl hsz (h _ h1.objs.size ?_ ?_ ?_)
 ·have ne:h1.objs.size≠e:=Nat.ne_of_gt (Heap.lt_size e1)
  refine⟨vs.setIfInBounds 1 (.ref h1.objs.size),sl,oT,_,Heap.get?_update_self _ e2 rfl,by simp [hsz],ne,?_,hTd,by simp⟩
  rw [Heap.get?_update_other _ _ (Ne.symm ne)]
  exact Heap.get?_push_size h1 hTf
 ·exact Nat.le_of_eq (Eq.symm so.1)
 ·refine⟨λb o hb hf' q=>?_,λb o hb q=>?_⟩
  ·have hb':b≠e:=λz=>hb (by simp [z])
   rw [Heap.get?_update_other _ _ (Ne.symm hb')]
   exact Heap.get?_push_of_some oT ((so.2.1 b hf').trans q)
  ·have hb':b≠e:=λz=>hb (by simp [z])
   obtain⟨sl',q'⟩:=so.2.2 b o q
   refine⟨sl',?_⟩
   rw [Heap.get?_update_other _ _ (Ne.symm hb')]
   exact Heap.get?_push_of_some oT q'
theorem nr {vs:Array Value} {sl:Array (Option Value)} {Q:Unit->Shared->Prop} (hfr:A.frames=some (env::outer)) (hl:s.heap.FunFrames base (env::outer)) (hf:env.frame=some L)
  (he:s.heap.get? e=some ⟨C,dd,.fields vs,sl⟩) (h1:vs[1]?=some .none)
  (h:∀ h' T,Tr h' e C dd T (rawInt L)->s.heap.objs.size<=T->Kp (fx (env::outer)) [e] s.heap h'->Q () { s with heap:=h' }):wpAny M A (noteFrame (.ref e) env) Q E s:=by
 unfold noteFrame
 simp only [hf]
 refine wpAny_bind (wpAny_field he rfl h1 ?_)
 rw [if_neg (by decide)]
 exact lI hfr hl hf he (Array.getElem?_eq_some_iff.mp h1).1 h
theorem pR {Q:Unit->Shared->Prop} (hfr:A.frames=some (env::outer)) (hl:s.heap.FunFrames base (env::outer)) (hf:env.frame=some L) (ht:Tr s.heap e C dd T .none)
  (h:∀ h' T',Tr h' e C dd T' (rawInt L)->s.heap.objs.size<=T'->Kp (fx (env::outer)) [e,T] s.heap h'->Q () { s with heap:=h' }):wpAny M A (noteFrame (.ref e) env) Q E s:=by
 obtain⟨vs,sl,oT,ts,he,h1,hTe,hT,hdT,h3⟩:=ht
 unfold noteFrame
 simp only [hf]
 refine wpAny_bind (wpAny_field he rfl h1 ?_)
 rw [if_pos (show (Value.ref T != Value.none)=true from by simp)]
 refine wpAny_bind (wpAny_field hT hdT h3 ?_)
 rw [if_neg (show ¬((Value.none==rawInt L)=true) from by simp [rawInt])]
 refine wpAny_bind (wpAny_setField hT hdT (Array.getElem?_eq_some_iff.mp h3).1 ?_)
 generalize hu:s.heap.update T (Obj.mapFields (·.setIfInBounds 3 Value.none))=h1'
 have oth:∀ b,b≠T->h1'.get? b=s.heap.get? b:=λb hb=>by rw [<- hu];exact Heap.get?_update_other _ _ (Ne.symm hb)
 have hT1:∃ o,h1'.get? T=some o:=⟨_,by rw [<- hu];exact Heap.get?_update_self _ hT (Obj.isFreed_of_fields (Obj.data_mapFields hdT _))⟩
 have hl1:h1'.FunFrames base (env::outer):=hl.of_keeps λb o hb hnf=>⟨o,(oth b λq=>by rw [q,hT] at hb;cases hb;exact hnf ts hdT).trans hb,rfl⟩
 refine lI (s:={ s with heap:=h1' }) hfr hl1 hf ((oth e (Ne.symm hTe)).trans he) (Array.getElem?_eq_some_iff.mp h1).1 λh' T' t' n' k'=>h h' T' t' ?_ ?_
 ·have z:h1'.objs.size=s.heap.objs.size:=by rw [<- hu];exact Heap.size_update ..
  rw [<- z];exact n'
 ·refine⟨λb o hb hf' q=>k'.keep b o (λz=>hb (by simp at z;simp [z])) hf' ((oth b λz=>hb (by simp [z])).trans q),λb o hb q=>k'.slot b o (λz=>hb (by simp at z;simp [z])) ((oth b λz=>hb (by simp [z])).trans q)⟩
theorem land {Q:Unit->Shared->Prop} {fs:List Addr} (ht:Tr s.heap e C dd T fl) (h:∀ h',Tr h' e C dd T .none->Kp fs [T] s.heap h'->Q () { s with heap:=h' }):wpAny M A (setFlight (.ref e) none) Q E s:=by
 obtain⟨vs,sl,oT,ts,he,h1,hTe,hT,hdT,h3⟩:=ht
 unfold setFlight
 refine wpAny_bind (wpAny_field he rfl h1 ?_)
 rw [if_pos (show (Value.ref T != Value.none)=true from by simp)]
 have hsz:=(Array.getElem?_eq_some_iff.mp h3).1
 refine wpAny_setField hT hdT hsz (h _ ?_ ?_)
 ·refine⟨vs,sl,_,_,(Heap.get?_update_other _ _ hTe).trans he,h1,hTe,Heap.get?_update_self _ hT (Obj.isFreed_of_fields (Obj.data_mapFields hdT _)),Obj.data_mapFields hdT _,by simp [hsz]⟩
 ·refine⟨λb o hb _ q=>(Heap.get?_update_other _ _ λz=>hb (by simp [z])).trans q,λb o hb q=>⟨o.slots,(Heap.get?_update_other _ _ λz=>hb (by simp [z])).trans q⟩⟩
theorem lM {vs:Array Value} {sl:Array (Option Value)} {Q:Unit->Shared->Prop} (hfr:A.frames=some (env::outer)) (hl:s.heap.FunFrames base (env::outer)) (hf:env.frame=some L)
  (he:s.heap.get? e=some ⟨C,dd,.fields vs,sl⟩) (h1:vs[1]?=some .none)
  (h:∀ h' T,Tr h' e C dd T .none->s.heap.objs.size<=T->Kp (fx (env::outer)) [e] s.heap h'->Q () { s with heap:=h' }):wpAny M A (leaving env (.ref e)) Q E s:=by
 unfold leaving
 refine wpAny_bind (nr hfr hl hf he h1 λh1' T t1 n1 k1=>?_)
 refine land (fs:=fx (env::outer)) t1 λh2 t2 k2=>h h2 T t2 n1 ⟨λb o hb hf' q=>?_,λb o hb q=>?_⟩
 ·exact k2.keep b o (λz=>by simp at z;rw [z] at q;exact absurd (Heap.lt_size q) (Nat.not_lt.mpr n1)) hf' (k1.keep b o hb hf' q)
 ·obtain⟨s1,q1⟩:=k1.slot b o hb q
  obtain⟨s2,q2⟩:=k2.slot b _ (λz=>by simp at z;rw [z] at q;exact absurd (Heap.lt_size q) (Nat.not_lt.mpr n1)) q1
  exact⟨s2,q2⟩
theorem nh {Q:Unit->Shared->Prop} (hfr:A.frames=some (env::outer)) (hl:s.heap.FunFrames base (env::outer)) (hf:env.frame=some L) (ht:Tr s.heap e C dd T .none)
  (h:∀ h' T',Tr h' e C dd T' .none->s.heap.objs.size<=T'->Kp (fx (env::outer)) [e,T] s.heap h'->Q () { s with heap:=h' }):wpAny M A (leaving env (.ref e)) Q E s:=by
 unfold leaving
 refine wpAny_bind (pR hfr hl hf ht λh1' T' t1 n1 k1=>?_)
 refine land (fs:=fx (env::outer)) t1 λh2 t2 k2=>h h2 T' t2 n1 ⟨λb o hb hf' q=>?_,λb o hb q=>?_⟩
 ·exact k2.keep b o (λz=>by simp at z;rw [z] at q;exact absurd (Heap.lt_size q) (Nat.not_lt.mpr n1)) hf' (k1.keep b o hb hf' q)
 ·obtain⟨s1,q1⟩:=k1.slot b o hb q
  obtain⟨s2,q2⟩:=k2.slot b _ (λz=>by simp at z;rw [z] at q;exact absurd (Heap.lt_size q) (Nat.not_lt.mpr n1)) q1
  exact⟨s2,q2⟩
end
def XO (x C:Addr) (dd:Option Addr):HO:=.ext λh=>∃ vs sl,h.get? x=some ⟨.ref C,dd,.fields vs,sl⟩
def XN (x C:Addr) (dd:Option Addr):HO:=.ext λh=>∃ t sl,h.get? x=some ⟨.ref C,dd,.fields #[.ref t,.none,.none,.none,.bool false,.none],sl⟩
section
variable {P:Program} {w:World} {H H':Hp} {h h':Heap} {x C:Addr} {dd:Option Addr}
theorem XO.ok {vs:Array Value} {sl:Array (Option Value)} (e:h.get? x=some ⟨.ref C,dd,.fields vs,sl⟩):aZ P w H h x (XO x C dd) :=
 ⟨⟨vs,sl,e⟩,⟨_,e⟩,λ_ _ ⟨vs,sl,q⟩ k=>⟨vs,sl,k _ q⟩⟩
theorem XN.ok {t:Addr} {sl:Array (Option Value)} (e:h.get? x=some ⟨.ref C,dd,.fields #[.ref t,.none,.none,.none,.bool false,.none],sl⟩):aZ P w H h x (XN x C dd) :=
 ⟨⟨t,sl,e⟩,⟨_,e⟩,λ_ _ ⟨vs,sl,q⟩ k=>⟨vs,sl,k _ q⟩⟩
theorem XN.get (hok:eP P w H h) (e:H x=some (XN x C dd)):∃ t sl,h.get? x=some ⟨.ref C,dd,.fields #[.ref t,.none,.none,.none,.bool false,.none],sl⟩:=by
 obtain⟨q,_⟩:=(show aZ P w H h x (XN x C dd) from hok x _ e)
 exact q
end
def fu (P:Program) (w:World):iE:=λouter H s E e s'=>∃(x C T:Addr) (dd:Option Addr) (H':Hp),e=.ref x/\s'.os=s.os/\AllBare s'.gens/\Un (fx outer) [] H H' s.heap s'.heap/\eP P w H' s'.heap /\
 Tr s'.heap x (.ref C) dd T .none/\s.heap.get? x=none/\s.heap.get? T=none/\H' T=none/\H' x=some (XO x C dd)/\E (.ref C) (some x) H'
theorem oq {base h h':Heap} {H H':Hp} {ex:List Addr}:∀{l:List Env} {fs:List Addr},h.FunFrames base l->Un fs ex H H' h h'->(∀ b∈fx l,H b=none)->(∀ b∈fx l,b∉ex)->h'.FunFrames base l
 | [],_,_,_,_,_=>trivial
 | env::r,fs,hl,u,hn,hx=>by
  obtain⟨hk,⟨L,o,hf,hb,ho,hd⟩,hr⟩:=hl
  have hL:L∈fx (env::r):=by unfold fx;rw [List.filterMap_cons,hf];exact List.mem_cons_self
  have sub:∀ b∈fx r,b∈fx (env::r):=λb hb'=>by unfold fx;rw [List.filterMap_cons,hf];exact List.mem_cons_of_mem _ hb'
  obtain⟨sl,e⟩:=u.any ho (hn L hL) (hx L hL)
  exact⟨hk,⟨L,_,hf,hb,e,hd⟩,oq hr u (λb hb'=>hn b (sub b hb')) λb hb'=>hx b (sub b hb')⟩
theorem oo {P:Program} {w:World} {H':Hp} {h h':Heap} {x C:Addr} {dd:Option Addr} {fs ch:List Addr} (hok:eP P w H' h) (k:Kp fs ch h h') (hch:∀ b∈ch,b=x∨H' b=none) (hfs:∀ b∈fs,H' b=none)
  (hx:H' x=some (XO x C dd)) {vs:Array Value} {sl:Array (Option Value)} (e:h'.get? x=some ⟨.ref C,dd,.fields vs,sl⟩):eP P w H' h':=by
 intro b o q
 by_cases hb:b=x
 ·subst hb
  rw [hx] at q
  cases q
  exact XO.ok e
 ·refine (hok b o q).jj (λc u hc r=>k.keep c u (λz=>?_) (λz=>?_) r) (λ_ r=>r) λ_ _ r=>r
  ·rcases hch c z with q1 | q1
   ·rcases hc with q2 | q2
    ·exact hb (q2.symm.trans q1)
    ·rw [q1,hx] at q2;cases q2
   ·rcases hc with q2 | q2
    ·rw [q2,q] at q1;cases q1
    ·rw [q2] at q1;cases q1
  ·have q1:=hfs c z
   rcases hc with q2 | q2
   ·rw [q2,q] at q1;cases q1
   ·rw [q2] at q1;cases q1
theorem rF {P:Program} {w:World} {K:PySem.W.Frag} {mg:Str->Option Value} {base:Heap} {N:List Str} {qual:Str} {scope:Scope} {f:Addr} {cd:Value} {A:Around} {outer:List Env} {s:Shared} {H:Hp} {E:XK} :
  Passes (fu P w) (ei (fu P w) P w K mg base N qual scope f cd A outer s H E) E:=by
 intro pins σ H1 s1 e s' I hq
 obtain⟨x,C,T,dd,H',rfl,os,bare,un,hok,tr,nx,nT,hT,hx,hE⟩:=hq
 have hl:=oq I.stack un I.gA (λb _=>by simp)
 have frN:∀ b∈fx (envOfC qual scope s.heap.objs.size f cd::outer),H' b=none:=λb hb=>by
  obtain⟨_,o,ho,_⟩:=I.stack.mem hb
  exact un.free b o ho (I.gA b hb) (by simp)
 show wpAny (model P w) (A.deeper (envOfC qual scope s.heap.objs.size f cd)) (leaving (envOfC qual scope s.heap.objs.size f cd) (.ref x)) _ _ s'
 refine nh (L:=s.heap.objs.size) I.ok.frames hl rfl tr λh'' T' t' n' k'=>?_
 have old:∀ b o,s.heap.get? b=some o->b∉[x,T]:=λb o q hb=>by
  obtain⟨o1,q1⟩:=I.base.there b o q (by intro z;exact absurd (show b∈([]:List Addr) from z) (by simp))
  rcases List.mem_cons.mp hb with z | z
  ·rw [z,nx] at q1;cases q1
  ·rw [List.mem_singleton.mp z,nT] at q1;cases q1
 have nex:∀ b:Addr,b∉(ei (fu P w) P w K mg base N qual scope f cd A outer s H E).ex:=λb z=>absurd (show b∈([]:List Addr) from z) (by simp)
 have nfr:∀ b o,s.heap.get? b=some o->b∉fx outer->b∉fx (envOfC qual scope s.heap.objs.size f cd::outer):=λb o q hb hm=>by
  rcases List.mem_cons.mp (I.ff b hm) with z | z
  ·exact absurd (Heap.lt_size q) (by rw [z];exact Nat.lt_irrefl _)
  ·exact hb z
 obtain⟨vs,sl,oT,ts,he,r'⟩:=t'
 have tr':Tr h'' x (.ref C) dd T' .none:=⟨vs,sl,oT,ts,he,r'⟩
 refine⟨x,C,T',dd,H',rfl,os.trans I.os,bare,?_,?_,tr',?_,?_,hok.fresh n',hx,hE⟩
 ·refine⟨λb o q nn hb _=>?_,λb o q nn hb _=>?_,λb o q nn _=>?_,λb o q _=>?_,λb xs q=>un.tups b xs (I.base.tups b xs q),λb o xs q=>un.frzs b o xs (I.base.frzs b o xs q),λb ps q=>?_⟩
  ·have q1:=I.base.keep b o q nn hb (nex b)
   have q2:=un.keep b o q1 (I.base.free b o q nn (nex b)) (nfr b o q hb) (by simp)
   exact k'.keep b o (old b o q) (nfr b o q hb) q2
  ·obtain⟨s1',q1⟩:=I.base.slot b o q nn hb (nex b)
   obtain⟨s2',q2⟩:=un.any q1 (I.base.free b o q nn (nex b)) (by simp)
   obtain⟨s3',q3⟩:=k'.slot b _ (old b o q) q2
   exact⟨s3',q3⟩
  ·obtain⟨o1,q1⟩:=I.base.there b o q (nex b)
   exact un.free b o1 q1 (I.base.free b o q nn (nex b)) (by simp)
  ·obtain⟨o1,q1⟩:=I.base.there b o q (nex b)
   obtain⟨o2,q2⟩:=un.there b o1 q1 (by simp)
   obtain⟨s3',q3⟩:=k'.slot b _ (old b o q) q2
   exact⟨_,q3⟩
  ·obtain⟨m1,e1⟩:=I.base.tbls b ps q
   obtain⟨m2,e2⟩:=un.tbls b _ e1
   exact⟨m1++m2,by rw [e2,Array.append_assoc]⟩
 ·exact oo hok k' (λb hb=>by
   rcases List.mem_cons.mp hb with z | z
   ·exact .inl z
   ·exact .inr (by rw [List.mem_singleton.mp z];exact hT)) frN hx he
 ·cases q:s.heap.get? x with
  | none=>rfl
  | some o=>exact absurd (List.mem_cons_self) (old x o q)
 ·cases q:s.heap.get? T' with
  | none=>rfl
  | some o =>
   obtain⟨o1,q1⟩:=I.base.there T' o q (nex T')
   obtain⟨o2,q2⟩:=un.there T' o1 q1 (by simp)
   exact absurd (Heap.lt_size q2) (Nat.not_lt.mpr n')
section
variable {prog:Program} {w:World} {A:Around} {E:Value->Shared->Prop} {s:Shared} {K:PySem.W.Frag} {env:Env}
theorem ju {x:Sem Value} {Q:Flow->Shared->Prop} (hh:A.handled=none)
  (h:wpAny (model prog w) A x (λv s₁=>∃ e C t dd sl,v=.ref e/\K.In s₁.heap/\dk K C/\s₁.heap.get? e=some ⟨.ref C,dd,.fields #[.ref t,.none,.none,.none,.bool false,.none],sl⟩/\E (.ref e) s₁) E s) :
  wpAny (model prog w) A (raiseStmt env (some x) none) Q E s:=by
 unfold raiseStmt
 refine wpAny_bind (wpAny_mono h (λv s₁ h₁=>?_) λ_ _ z=>z)
 obtain⟨e,C,t,dd,sl,rfl,X,c,he,hE⟩:=h₁
 obtain⟨hp,g,d,tk,os⟩:=s₁
 have L1:Looks (model prog w) hp (isSubtype (.ref C) (.type "BaseException")) true:=by
  obtain⟨cd,hc,hm,_⟩:=c.cls
  obtain⟨m1,m2,m3⟩:=kx hm
  exact looks_mroIn X (by unfold mroIn;rw [hc,Option.bind_some,if_neg (by rw [m3];decide),m2])
 obtain⟨od,cd,sc,hk⟩:=c.at_
 have hC:=X _ _ hk
 repeat (first | with_reducible refine wpAny_loadPart_at he ?_ | with_reducible refine wpAny_loadPart_at hC ?_ | with_reducible refine Looks.at L1 ?_ | wp_step)
 exact wpAny_raiseNew_none hh hE
end
def sx (K:PySem.W.Frag) (H₀:Hp) (E:XK) (te:TE):TS:=λ_ σ H=>te σ H λv H1=>∃ x C dd,v=.ref x/\H1 x=some (XN x C dd)/\dk K C/\H₀ x=none/\E (.ref C) (some x) (upd H1 x (XO x C dd))
section
variable {P:Program} {w:World} {K:PySem.W.Frag} {mg:Str->Option Value} {base:Heap} {N:List Str} {qual:Str} {scope:Scope} {f:Addr} {cd:Value} {A:Around} {outer:List Env} {s:Shared} {H:Hp} {E:XK}
theorem qh {pins:List (Addr × Obj)} {σ:St} {H2:Hp} {s2:Shared} {x C:Addr} {dd:Option Addr} (I:Inv (ei (fu P w) P w K mg base N qual scope f cd A outer s H E) pins σ H2 s2) (hx:H2 x=some (XN x C dd)) (hn:H x=none)
  (hE:E (.ref C) (some x) (upd H2 x (XO x C dd))):(ei (fu P w) P w K mg base N qual scope f cd A outer s H E).xe (.ref x) s2:=by
 obtain⟨t,sl,he⟩:=XN.get I.hok hx
 have nex:∀ b:Addr,b∉(ei (fu P w) P w K mg base N qual scope f cd A outer s H E).ex:=λb z=>absurd (show b∈([]:List Addr) from z) (by simp)
 have nx:s.heap.get? x=none:=by
  cases q:s.heap.get? x with
  | none=>rfl
  | some o =>
   have:=I.base.free x o q hn (nex x)
   rw [hx] at this
   cases this
 have old:∀ b o,s.heap.get? b=some o->b≠x:=λb o q z=>by rw [z,nx] at q;cases q
 have nfr:∀ b o,s.heap.get? b=some o->b∉fx outer->b∉fx (envOfC qual scope s.heap.objs.size f cd::outer):=λb o q hb hm=>by
  rcases List.mem_cons.mp (I.ff b hm) with z | z
  ·exact absurd (Heap.lt_size q) (by rw [z];exact Nat.lt_irrefl _)
  ·exact hb z
 have hok':eP P w (upd H2 x (XO x C dd)) s2.heap:=λb o q=>by
  by_cases hb:b=x
  ·subst hb
   rw [ah] at q
   cases q
   exact XO.ok he
  ·rw [au hb] at q
   refine (I.hok b o q).jj (λ_ _ _ r=>r) (λc r=>?_) λc xs r=>?_
   ·rw [au (λz=>by rw [z,hx] at r;cases r)];exact r
   ·rw [au (λz=>by rw [z,hx] at r;cases r)];exact r
 show wpAny (model P w) (A.deeper (envOfC qual scope s.heap.objs.size f cd)) (leaving (envOfC qual scope s.heap.objs.size f cd) (.ref x)) _ _ s2
 refine lM (L:=s.heap.objs.size) I.ok.frames I.stack rfl he rfl λh'' T t' n' k'=>?_
 obtain⟨vs,sl',oT,ts,he',r'⟩:=t'
 have tr':Tr h'' x (.ref C) dd T .none:=⟨vs,sl',oT,ts,he',r'⟩
 have nT:T≠x:=r'.2.1
 refine⟨x,C,T,dd,upd H2 x (XO x C dd),rfl,I.os,I.bare,?_,?_,tr',nx,?_,?_,ah,hE⟩
 ·refine⟨λb o q nn hb _=>?_,λb o q nn hb _=>?_,λb o q nn _=>?_,λb o q _=>?_,λb xs q=>?_,λb o xs q=>?_,λb ps q=>?_⟩
  ·exact k'.keep b o (by simp [old b o q]) (nfr b o q hb) (I.base.keep b o q nn hb (nex b))
  ·obtain⟨s1',q1⟩:=I.base.slot b o q nn hb (nex b)
   obtain⟨s3',q3⟩:=k'.slot b _ (by simp [old b o q]) q1
   exact⟨s3',q3⟩
  ·rw [au (old b o q)]
   exact I.base.free b o q nn (nex b)
  ·obtain⟨o1,q1⟩:=I.base.there b o q (nex b)
   obtain⟨s3',q3⟩:=k'.slot b _ (by simp [old b o q]) q1
   exact⟨_,q3⟩
  ·have:=I.base.tups b xs q
   rw [au (λz=>by rw [z,hx] at this;cases this)];exact this
  ·have:=I.base.frzs b o xs q
   rw [au (λz=>by rw [z,hx] at this;cases this)];exact this
  ·obtain⟨m1,e1⟩:=I.base.tbls b ps q
   exact⟨m1,by rw [au (λz=>by rw [z,hx] at e1;cases e1)];exact e1⟩
 ·exact oo hok' k' (λb hb=>.inl (by simpa using hb)) (λb hb=>by
   have z:=I.gA b hb
   rw [au (λy=>by rw [y,hx] at z;cases z)];exact z) ah he'
 ·cases q:s.heap.get? T with
  | none=>rfl
  | some o =>
   obtain⟨o1,q1⟩:=I.base.there T o q (nex T)
   exact absurd (Heap.lt_size q1) (Nat.not_lt.mpr n')
 ·rw [au nT]
  exact I.hok.fresh n'
theorem dX {e:Expr} {te:TE} {pos:Pos} (he:PE (ei (fu P w) P w K mg base N qual scope f cd A outer s H E) e te):PS (ei (fu P w) P w K mg base N qual scope f cd A outer s H E) (.Raise (some e) none pos) (sx K H E te):=by
 intro pins s1 σ H1 D I h
 rw [arm_exec_Raise]
 refine wpAny_bind (wpAny_standAt (ju (K:=K) (I.ok.hd rfl) (wpAny_bind (bH (he pins s1 σ H1 _ I h) λv s2 ⟨y,H2,I2,r,x,C,dd,ey,hx,c,hn,hE⟩=>?_))))
 subst ey
 obtain rfl:v=Value.ref x:=r
 obtain⟨t,sl,hg⟩:=XN.get I2.hok hx
 exact wpAny_bind (wpAny_standAt (wpAny_pure ⟨x,C,t,dd,sl,rfl,I2.fY,c,hg,qh I2 hx hn hE⟩))
end
section
variable {prog:Program} {w:World} {A:Around} {E:Value->Shared->Prop} {h:Heap} {g:Array GenState} {d:Drawn} {t:Nat} {os:OsState}
variable {nm q:Str} {C N:Addr} {bs bm:List Value} {hdct:Bool} {sn:List Str} {sub:List Value} {ab:Bool} {col:Option Bool} {dd:Option Addr} {k0 k1 k2 k3 k5:Option Value}
theorem pF {R:Result->Shared->Prop} {e a:Addr} (hB:bm.contains (.type "ValueError")=true) (hC:h.get? C=some (excClassObj nm q C N bs bm hdct sn sub ab col dd k0 k1 k2 k3 k5 jA)) (he:h.get? e=some (newExc C a))
  (hq:∀ h',h'.get? e=some (newExc C h.objs.size)->(∀ b o,b≠e->h.get? b=some o->h'.get? b=some o)->R (.ok (.ret .none)) ⟨h',g,d,t,os⟩) :
  codeAny (model prog w) A (.call (.builtin "ValueError.__init__") ⟨[.ref e],[]⟩) R ⟨h,g,d,t,os⟩:=by
 have Fn:=PySem.F.excBase_ValueError
 have cB:(Value.ref C::bm).contains (.type "ValueError")=true:=by rw [List.contains_cons,hB,Bool.or_true]
 have hshort:=Fn.noStar
 refine codeAny_call_builtin Fn.init.plain Fn.initEntry ?_
 have chk:∀{Q:Unit->Shared->Prop} {E:Value->Shared->Prop} {A:Around},Q () ⟨h,g,d,t,os⟩->wpAny (model prog w) A (checkBuiltinCall "ValueError.__init__" ⟨[.ref e],[]⟩) Q E ⟨h,g,d,t,os⟩:=by
  intro Q E A hq
  simp only [checkBuiltinCall,Fn.initKind,Fn.initSplit,Fn.initRow]
  repeat (first | with_reducible refine wpAny_loadPart_at he ?_ | with_reducible refine wpAny_loadPart_at hC ?_ | (with_reducible refine wpAny_isSubtype_exc hC ?_;rw [cB]) | wp_step)
  exact hq
 refine chk ?_
 wp_walk
 have hp:=Heap.get?_push_of_some (h:=h) { cls:=.type "tuple",data:=.seq ([]:List Value).toArray } he
 refine hq _ ?_ λb o hb z=>?_
 ·exact Heap.get?_update_self _ hp rfl
 ·rw [Heap.get?_update_other _ _ (Ne.symm hb)]
  exact Heap.get?_push_of_some _ z
end
theorem cS.any {P:Program} {w:World} {K:PySem.W.Frag} {mg:Str->Option Value} {base:Heap} {CX:iE} {k:Nat} {f:Addr} {fd:FuncData} {ps:List Str} {sp:Sp} (F:cS P w K mg base aM k f fd ps sp):cS P w K mg base CX k f fd ps sp :=
 ⟨F.len,λA outer s H args us vs Q E hr he hb hv hs=>codeAny_mono (F.run A outer s H args us vs Q E hr he hb hv hs) λr s' q=>by
  cases r with
  | error e=>exact False.elim q
  | ok fl =>
   cases fl with
   | ret u=>exact q
   | next=>exact q
   | brk=>exact q
   | cont=>exact q⟩
def yk (K:PySem.W.Frag) (ta tv:TE) (f:Str):TS:=λD σ H=>tv σ H λy H1=>ta σ H1 λxv H2=>∃ x C,xv=.ref x/\H2 x=some (XN x C none)/\dk K C/\findIn K (.ref C) f=some none /\
 ∀ dx,H2 dx=none->dx≠x->D.nx σ (upd (upd H2 dx (.xd [(f,y)])) x (XN x C (some dx)))
section
variable {X:Cx} {o value:Expr} {f:Str} {pos pos':Pos} {ta tv:TE}
theorem uz (ha:PE X o ta) (hv:PE X value tv) (hs:swapsWith value (some (.Attribute o f pos')) pos.line X.env=pure false:=by rfl):PS X (.Assign [.Attribute o f pos'] value pos) (yk X.K ta tv f):=by
 intro pins s σ H D I h
 refine plainObj_wpAny_Assign_Attribute (bH (hv pins s σ H _ I h) λu s1 ⟨y,H1,I1,ry,q⟩=>bH (ha pins s1 σ H1 _ I1 q) λov s2 ⟨xv,H2,I2,rx,x,C,ex,hx,c,hf,q2⟩=>?_) hs
 subst ex
 obtain rfl:ov=Value.ref x:=rx
 obtain⟨t,sl,hg⟩:=XN.get I2.hok hx
 obtain⟨cd,hc,hm,hh⟩:=c.cls
 refine tF I2.fY hg hc hm hh c.sa hf λh' g1 g2 g3=>?_
 have hd0:H2 s2.heap.objs.size=none:=I2.hok.fresh (Nat.le_refl _)
 have hne:s2.heap.objs.size≠x:=λz=>by rw [z,hx] at hd0;cases hd0
 have bx:∀ b,H2 b=none->b≠x:=λb z y=>by rw [y,hx] at z;cases z
 have bd:∀ b o,s2.heap.get? b=some o->b≠s2.heap.objs.size:=λb o q=>Nat.ne_of_lt (Heap.lt_size q)
 have tb:∀ b u,H2 b=some u->b≠s2.heap.objs.size:=λb u q z=>by rw [z,hd0] at q;cases q
 refine⟨σ,upd (upd H2 s2.heap.objs.size (.xd [(f,y)])) x (XN x C (some s2.heap.objs.size)),I2.un ⟨λb o q n _ _=>g3 b o (bx b n) q,λb o q n _ _=>⟨o.slots,g3 b o (bx b n) q⟩,λb o q n _=>?_,λb o q _=>?_,λb xs q=>?_,λb o xs q=>?_,λb ps q=>?_⟩ ?_,q2 _ hd0 hne⟩
 ·rw [au (bx b n),au (bd b o q)];exact n
 ·by_cases z:b=x
  ·exact⟨_,by rw [z];exact g1⟩
  ·exact⟨o,g3 b o z q⟩
 ·rw [au (λz=>by rw [z,hx] at q;cases q),au (tb b _ q)];exact q
 ·rw [au (λz=>by rw [z,hx] at q;cases q),au (tb b _ q)];exact q
 ·exact⟨#[],by rw [au (λz=>by rw [z,hx] at q;cases q),au (tb b _ q),q];simp⟩
 ·intro b o q
  by_cases z:b=x
  ·subst z
   rw [ah] at q
   cases q
   exact XN.ok g1
  ·rw [au z] at q
   by_cases z2:b=s2.heap.objs.size
   ·subst z2
    rw [ah] at q
    cases q
    refine⟨_,g2,λk=>?_⟩
    show fO (List.lookup k [(f,y)]) (if k=f then some u else none)
    by_cases e:k=f
    ·subst e
     rw [if_pos rfl,List.lookup_cons,beq_self_eq_true]
     exact ry
    ·have e':(k==f)=false:=by simpa using e
     rw [if_neg e,List.lookup_cons,e']
     exact True.intro
   ·rw [au z2] at q
    refine (I2.hok b o q).jj (λc' u' hc' r=>g3 c' u' (λz3=>?_) r) (λc' r=>?_) λc' xs r=>?_
    ·rcases hc' with e | e
     ·exact z (e.symm.trans z3)
     ·rw [z3,hx] at e;cases e
    ·rw [au (λz3=>by rw [z3,hx] at r;cases r),au (tb c' _ r)];exact r
    ·rw [au (λz3=>by rw [z3,hx] at r;cases r),au (tb c' _ r)];exact r
end
structure u5 (K:PySem.W.Frag) (C:Addr):Prop where
 obj:∃ nm q N bs bm hdct sn sub ab col dd k0 k1 k2 k3 k5,K.lookup C=some (excClassObj nm q C N bs bm hdct sn sub ab col dd k0 k1 k2 k3 k5 jA)/\bm.contains (.type "ValueError")=true/\bm.contains (.type "AttributeError")=false/\bm.contains (.type "NameError")=false
 kp:keepIn K (.ref C)=true
def kY (K:PySem.W.Frag) (f:Str):Sp:=λvs H Q _=>∃ x C v,vs=[.ref x,v]/\H x=some (XN x C none)/\dk K C/\findIn K (.ref C) f=some none /\
 ∀ dx,H dx=none->dx≠x->Q .bo (upd (upd H dx (.xd [(f,v)])) x (XN x C (some dx)))
def xy (C:Addr) (f:Str) (t:TA):TE:=λσ H Q=>t σ H λvs H1=>∃ v,vs=[v]/\∀ x dx,H1 x=none->H1 dx=none->dx≠x->Q (.ref x) (upd (upd (upd H1 x (XN x C none)) dx (.xd [(f,v)])) x (XN x C (some dx)))
def xw (C:Addr):TE:=λ_ H Q=>∀ x,H x=none->Q (.ref x) (upd H x (XN x C none))
section
variable {X:Cx} {C fi:Addr} {fd:FuncData} {p f x:Str} {k:Nat} {pos np:Pos} {e:Expr} {t:TA}
theorem Inv.newExc {pins:List (Addr × Obj)} {σ:St} {H:Hp} {s:Shared} (I:Inv X pins σ H s) (us:List Value):Inv X pins σ (upd H (s.heap.objs.size+1) (XN (s.heap.objs.size+1) C none))
  { s with heap:=(s.heap.push { cls:=.type "tuple",data:=.seq us.toArray }).push (L2.newExc C s.heap.objs.size) }:=by
 have I1:Inv X pins σ H { s with heap:=s.heap.push { cls:=.type "tuple",data:=.seq us.toArray } }:=I.kept (t':=s.toks) λb u q=>Heap.get?_push_of_some _ q
 refine I1.laid (a:=s.heap.objs.size+1) (t':=s.toks) (λb u q=>Heap.get?_push_of_some _ q) (Nat.le_of_eq (Heap.size_push _ _)) ?_
 refine XN.ok (t:=s.heap.objs.size) (sl:=#[]) ?_
 have:=Heap.get?_push_size (s.heap.push { cls:=.type "tuple",data:=.seq us.toArray }) (o:=L2.newExc C s.heap.objs.size) rfl
 rwa [Heap.size_push] at this
theorem qc (M:u5 X.K C) (c:dk X.K C) (hi:findIn X.K (.ref C) "__init__"=some (some (.ref fi))) (fn:isFn X.K (.ref fi)=true) (hf:findIn X.K (.ref C) f=some none) (F:cS X.prog X.w X.K X.mg X.base aM k fi fd ["self",p] (kY X.K f)) (hr:cm (k+1) X.A) (hg:Gl X x)
  (hm:X.mg x=some (.ref C)) (hb:Binds X.K fd ["self",p] []) (ha:PA X [e] t) (hdb:(x==("__debug__":Str))=false:=by decide) (he:starEach [e] X.env=(false,eval e X.env)::starEach [] X.env:=by rfl) (hpl:(backTo pos (starEach [] X.env)).any (·.1)=false:=by rfl) :
  PE X (.Call (.Name x np) [e] [] pos) (xy C f t):=by
 intro pins s σ H Q I h
 refine wpAny_Call_Name_kw (iz I hg hm ?_ hdb)
 refine PySem.W.callWith_K (h₀:=X.base) I.ok.mod.kin M.kp (bH (ha pos pins s σ H _ I h) λus s1 ⟨vs,H1,I1,r,q⟩=>⟨I1.fY,?_⟩) he hpl
 obtain⟨v,rfl,q⟩:=q
 obtain⟨u,rfl,ru⟩:=vals1 r
 obtain⟨nm,qn,Nn,bs,bm,hdct,sn,sub,ab,col,dd,k0,k1,k2,k3,k5,hk,hB,hA,hN⟩:=M.obj
 have I2:=Inv.newExc (C:=C) I1 [u]
 have n1:H1 (s1.heap.objs.size+1)=none:=I1.hok.fresh (Nat.le_succ _)
 have r2:Vals [V.ref (s1.heap.objs.size+1),v] [Value.ref (s1.heap.objs.size+1),u]:=.cons rfl (.cons ru .nil)
 have hq:kY X.K f [V.ref (s1.heap.objs.size+1),v] (upd H1 (s1.heap.objs.size+1) (XN (s1.heap.objs.size+1) C none)) (λz H3=>z=.bo/\Q (.ref (s1.heap.objs.size+1)) H3) E0 :=
  ⟨_,C,v,rfl,ah,c,hf,λdx hd hne=>⟨rfl,q _ dx n1 (by rw [au hne] at hd;exact hd) hne⟩⟩
 obtain⟨hh,g,d,tk,os⟩:=s1
 refine lG (K:=X.K) I1.fY hB hA hN (I1.fY _ _ hk) (by show 1<=sizeLine;decide) hi (bind_fn I1.fY _ (beq_iff_eq.mp fn)) ?_
 refine codeAny_mono (F.run _ X.stack _ _ ⟨[Value.ref (hh.objs.size+1),u],[]⟩ [Value.ref (hh.objs.size+1),u] _ _ E0 (hr.make C [u] []) (I2.xT.make C [u] []) (by have:=hb _ [Value.ref (hh.objs.size+1),u] I2.fY rfl;rwa [List.append_nil] at this) r2 hq) λr s' hq'=>?_
 cases r with
 | error e=>exact False.elim hq'
 | ok fl =>
  cases fl with
  | ret u' =>
   obtain⟨v',H',I3,rv,ev,q3⟩:=I2.after hq'
   subst ev
   exact⟨rv,⟨V.ref (hh.objs.size+1),H',I3,rfl,q3⟩⟩
  | next=>exact False.elim hq'
  | brk=>exact False.elim hq'
  | cont=>exact False.elim hq'
theorem qb (M:u5 X.K C) (hi:findIn X.K (.ref C) "__init__"=some (some (.builtin "ValueError.__init__"))) (hg:Gl X x) (hm:X.mg x=some (.ref C)) (hdb:(x==("__debug__":Str))=false:=by decide) :
  PE X (.Call (.Name x np) [] [] pos) (xw C):=by
 intro pins s σ H Q I h
 refine wpAny_Call_Name_kw (iz I hg hm ?_ hdb)
 refine PySem.W.callWith_K0 I.fY M.kp ?_
 obtain⟨nm,qn,Nn,bs,bm,hdct,sn,sub,ab,col,dd,k0,k1,k2,k3,k5,hk,hB,hA,hN⟩:=M.obj
 have I2:=Inv.newExc (C:=C) I []
 have n1:H (s.heap.objs.size+1)=none:=I.hok.fresh (Nat.le_succ _)
 have Fn:=PySem.F.excBase_ValueError
 obtain⟨hh,g,d,tk,os⟩:=s
 have hC:=I.fY _ _ hk
 refine lG (K:=X.K) I.fY hB hA hN hC (by show 0<=sizeLine;decide) hi (j:=.builtin "ValueError.__init__") (Looks.of_pure (Fn.init.bind _)) ?_
 have hC2:((hh.push { cls:=.type "tuple",data:=.seq ([]:List Value).toArray }).push (L2.newExc C hh.objs.size)).get? C=some _:=Heap.get?_push_of_some _ (Heap.get?_push_of_some _ hC)
 have he2:((hh.push { cls:=.type "tuple",data:=.seq ([]:List Value).toArray }).push (L2.newExc C hh.objs.size)).get? (hh.objs.size+1)=some (L2.newExc C hh.objs.size):=by
  have:=Heap.get?_push_size (hh.push { cls:=.type "tuple",data:=.seq ([]:List Value).toArray }) (o:=L2.newExc C hh.objs.size) rfl
  rwa [Heap.size_push] at this
 refine pF hB hC2 he2 λh' g1 g3=>⟨rfl,.ref (hh.objs.size+1),_,?_,rfl,h _ n1⟩
 have e:upd (upd H (hh.objs.size+1) (XN (hh.objs.size+1) C none)) (hh.objs.size+1) (XN (hh.objs.size+1) C none)=upd H (hh.objs.size+1) (XN (hh.objs.size+1) C none):=by
  funext b
  by_cases z:b=hh.objs.size+1
  ·rw [z,ah,ah]
  ·rw [au z]
 have W:=I2.write (x:=hh.objs.size+1) (e:=hh.objs.size+1) (o:=XN (hh.objs.size+1) C none) (h':=h') (t':=tk) (by rw [ah];exact True.intro) (.inl rfl) (λb u hb q=>g3 b u hb q) ⟨_,g1⟩ (XN.ok g1)
 rw [e] at W
 exact W
end
def Ae (H:Hp) (x C:Addr) (dd:Option Addr):Prop:=H x=some (XO x C dd)∨H x=some (XN x C dd)
def Ak (K:PySem.W.Frag) (ta:TE) (f:Str):TE:=λσ H Q=>ta σ H λxv H1=>∃ x C dx fs v,xv=.ref x/\Ae H1 x C (some dx)/\dk K C/\findIn K (.ref C) f=some none/\H1 dx=some (.xd fs)/\fs.lookup f=some v/\Q v H1
section
variable {X:Cx} {e:Expr} {f:Str} {pos:Pos} {ta:TE}
end
section
variable {prog:Program} {w:World} {A:Around} {E:Value->Shared->Prop} {K:PySem.W.Frag} {h:Heap} {g:Array GenState} {d:Drawn} {t:Nat} {os:OsState} {x C B:Addr}
theorem dk.base (c:dk K C):mroIn K C (.type "BaseException")=some true:=by
 obtain⟨cd,hc,hm,_⟩:=c.cls
 obtain⟨m1,m2,m3⟩:=kx hm
 unfold mroIn
 rw [hc,Option.bind_some,if_neg (by rw [m3];decide),m2]
end
section
variable {M:Model} {A:Around} {E:Value->Shared->Prop} {s:Shared}
end
section
variable {X:Cx} {pins:List (Addr × Obj)} {σ:St} {H:Hp} {s:Shared} {M:Model} {A:Around} {E:Value->Shared->Prop}
end
section
variable {X:Cx} {pins:List (Addr × Obj)} {σ:St} {H:Hp} {s:Shared} {x:Addr}
def tL (n:Option Nat) (x:Addr) (σ:St):St:=match n with | some i=>σ.set i (some (.ref x)) | none=>σ
def ou (n:Option Nat) (D:Ends):Ends:=match n with
 | some i=>{ nx:=λσ H=>D.nx (σ.set i none) H,rt:=D.rt,bk:=λσ H=>D.bk (σ.set i none) H,ct:=λσ H=>D.ct (σ.set i none) H }
 | none=>D
end
def zJ (K:PySem.W.Frag) (B:Addr) (n:Option Nat) (sp:Sp) (ta:TA) (put:V->St->St) (ts:TS):TS:=λD σ H=>ta σ H λvs H1=>sp vs H1 (λv H2=>D.nx (put v σ) H2)
 (λcv xo H2=>∃ C x dd,cv=.ref C/\xo=some x/\H2 x=some (XO x C dd)/\dk K C/\mroIn K C (.ref B)=some true/\ts (ou n D) (tL n x σ) H2)
section
variable {X:Cx} {B:Addr} {n:Option Nat} {hd:ExceptHandler} {ts:TS}
variable {k:Nat} {f:Str} {ps:List Str} {sp:Sp} {e:Expr} {es:List Expr} {t:TA} {p cpos epos pos:Pos}
end
section
variable {P:Program} {w:World} {K:PySem.W.Frag} {mg:Str->Option Value} {base:Heap} {k:Nat} {x:Str} {ps:List Str} {sp:Sp}
theorem mT {st:Stmt} {N:List Str} (D:av K mg x st)
  (hb:∀(kV doc pm:Value) (an:Option Addr) (cdv ct:Value) (us:List Value),us.length=ps.length->bindArgs (PySem.W.fnOf x x (bM st) (aR st) (aj st) .none kV doc pm an cdv ct) ⟨us,[]⟩=pure (ps.zip us))
  (S:ay N ps (aj st)) (len:∀ vs H Q E,sp vs H Q E->vs.length=ps.length)
  (hbody:∀(f:Addr) (cdv:Value) (A:Around) (outer:List Env) (s:Shared) (H:Hp) (vs:List V) (Q:VK) (E:XK),cm k (A.deeper (envOfC x (aj st) s.heap.objs.size f cdv))->sp vs H Q E ->
   ∃ t,ix (ei (fu P w) P w K mg base N x (aj st) f cdv A outer s H E) (aR st) t/\t { nx:=λ_ H'=>Q .bo H',rt:=Q } (start N vs) H):Callee P w K mg base (fu P w) (k+1) x ps sp:=by
 obtain⟨f,fd,F,hm⟩:=D
 obtain⟨oc,od,kV,doc,pm,an,cdv,ct,osl,rfl,lk,hcd⟩:=F.ex
 exact⟨f,_,ve lk hcd S len λA outer s H vs Q E hr h=>hbody f cdv A outer s H vs Q E hr h,hm,F.kp,F.binds hb⟩
theorem Callee.any {CX:iE} (C:Callee P w K mg base aM k x ps sp):Callee P w K mg base CX k x ps sp:=by
 obtain⟨f,fd,F,a,b,c⟩:=C.ex
 exact⟨f,fd,F.any,a,b,c⟩
end
theorem tM {P:Program} {w:World} {K:PySem.W.Frag} {mg:Str->Option Value} {base:Heap} {qual f p:Str} {st:Stmt} {fi:Addr} {fd:FuncData} {p1 p2 p3 p4:Pos} (F:sP K "__init__" qual st fi fd) (S:ay ["self",p] ["self",p] (aj st))
  (hb:aR st=[.Assign [.Attribute (.Name "self" p1) f p2] (.Name p p3) p4]) (h1:(aj st).names.lookup ("self":Str)=some .local) (h2:(aj st).names.lookup p=some .local) (hd:(p==("__debug__":Str))=false) (hcd:(p==("__classdict__":Str))=false)
  (ab:∀ env:Env,attributeBase (.Name "self" p1) f env (eval (.Name "self" p1) env)=eval (.Name "self" p1) env) (sw:∀ env:Env,swapsWith (.Name p p3) (some (.Attribute (.Name "self" p1) f p2)) p4.line env=pure false):cS P w K mg base aM 1 fi fd ["self",p] (kY K f):=by
 refine F.ok S (λvs H Q E h=>?_) (λcdv A outer s H vs Q E hr h=>?_)
 ·obtain⟨x,C,v,rfl,_⟩:=h
  rfl
 ·obtain⟨x,C,v,rfl,hx,c,hf,q⟩:=h
  rw [hb]
  refine⟨_,ai (uz (nL (i:=0) rfl (.inl h1) (by decide) (by decide)) (nL (i:=1) rfl (.inl h2) hd hcd) (sw _)),?_⟩
  exact⟨v,rfl,.ref x,rfl,x,C,rfl,hx,c,hf,λdx n ne=>q dx n ne⟩
structure mQ (P:Program) (w:World) (K:PySem.W.Frag) (mg:Str->Option Value) (base:Heap) (x:Str) (C:Addr) (f:Str):Prop where
 mkd:u5 K C
 cls:dk K C
 at_:mg x=some (.ref C)
 nof:findIn K (.ref C) f=some none
 ex:∃ fi fd p,findIn K (.ref C) "__init__"=some (some (.ref fi))/\isFn K (.ref fi)=true/\cS P w K mg base aM 1 fi fd ["self",p] (kY K f)/\Binds K fd ["self",p] []
structure sX (K:PySem.W.Frag) (mg:Str->Option Value) (x:Str) (C:Addr):Prop where
 mkd:u5 K C
 cls:dk K C
 at_:mg x=some (.ref C)
 ini:findIn K (.ref C) "__init__"=some (some (.builtin "ValueError.__init__"))
section
variable {X:Cx} {C:Addr} {f x:Str} {pos np:Pos} {e:Expr} {t:TA}
theorem kN (c:mQ X.prog X.w X.K X.mg X.base x C f) (hr:cm 2 X.A) (hg:Gl X x) (ha:PA X [e] t) (hdb:(x==("__debug__":Str))=false:=by decide)
  (he:starEach [e] X.env=(false,eval e X.env)::starEach [] X.env:=by rfl) (hpl:(backTo pos (starEach [] X.env)).any (·.1)=false:=by rfl):PE X (.Call (.Name x np) [e] [] pos) (xy C f t):=by
 obtain⟨fi,fd,p,hi,fn,F,hb⟩:=c.ex
 exact qc c.mkd c.cls hi fn c.nof F hr hg c.at_ hb ha hdb he hpl
theorem rH (c:sX X.K X.mg x C) (hg:Gl X x) (hdb:(x==("__debug__":Str))=false:=by decide):PE X (.Call (.Name x np) [] [] pos) (xw C):=qb c.mkd c.ini hg c.at_ hdb
end
inductive vV (K:PySem.W.Frag) (H:Hp):Nat->V->V->Bool->Prop
 | flat {d:Nat} {y x:V}:vd y=true->vd x=true->vV K H d y x (Ag y x)
 | same {d:Nat} {p:Addr}:vV K H d (.ref p) (.ref p) true
 | lists {d:Nat} {p q:Addr} {xs ys:List V} {e:Nat->Bool}:p≠q->aT K H p xs->aT K H q ys->xs.length=ys.length->(∀ j y x,xs[j]?=some y->ys[j]?=some x->vV K H d y x (e j))->vV K H (d+1) (.ref p) (.ref q) ((List.range xs.length).all e)
 | unlike {d:Nat} {p q:Addr} {xs ys:List V}:p≠q->aT K H p xs->aT K H q ys->xs.length≠ys.length->vV K H (d+1) (.ref p) (.ref q) false
 | tups {d:Nat} {p q:Addr} {xs ys:List V} {e:Nat->Bool}:p≠q->aQ K H p xs->aQ K H q ys->(∀ j y x,xs[j]?=some y->ys[j]?=some x->vV K H d y x (e j))->vV K H (d+1) (.ref p) (.ref q) ((List.range (min xs.length ys.length)).all e && xs.length==ys.length)
section
variable {X:Cx} {pins:List (Addr × Obj)} {σ:St} {H:Hp} {s:Shared}
theorem Vals.at {xs:List V} {us:List Value} (r:Vals xs us):∀{j:Nat} {u:Value},us[j]?=some u->∃ x,xs[j]?=some x/\RelV x u:=by
 induction r with
 | nil=>intro j u h;simp at h
 | cons r t ih =>
  intro j u h
  cases j with
  | zero=>simp only [List.getElem?_cons_zero,Option.some.injEq] at h;subst h;exact⟨_,rfl,r⟩
  | succ j=>simp only [List.getElem?_cons_succ] at h ⊢;exact ih h
theorem Vals.len {xs:List V} {us:List Value} (r:Vals xs us):us.length=xs.length:=by
 induction r with
 | nil=>rfl
 | cons r t ih=>simp only [List.length_cons,ih]
end
theorem fw {A B:Prop} (a:A) (f:A->B):B:=f a
section
variable {K:PySem.W.Frag} {mg:Str->Option Value} {h:Heap} {x f p qual:Str} {C D fi N:Addr}
section
variable {nm q:Str} {bs bm:List Value} {hdct ab:Bool} {sn:Option Str} {od:Option Addr} {cd:ClassData} {sl:Array (Option Value)}
theorem xC {o:Obj} (l:K.lookup C=some o) (ob:∃ nm q N bs bm hdct sn sub ab col dd k0 k1 k2 k3 k5,o=excClassObj nm q C N bs bm hdct sn sub ab col dd k0 k1 k2 k3 k5 jA/\bm.contains (.type "ValueError")=true/\bm.contains (.type "AttributeError")=false/\bm.contains (.type "NameError")=false) (kp:keepIn K (.ref C)=true):u5 K C:=by
 obtain⟨nm,q,N,bs,bm,hdct,sn,sub,ab,col,dd,k0,k1,k2,k3,k5,e,r⟩:=ob
 subst e
 exact⟨⟨nm,q,N,bs,bm,hdct,sn,sub,ab,col,dd,k0,k1,k2,k3,k5,l,r⟩,kp⟩
theorem uV (l:K.lookup C=some ⟨.type "type",od,.cls cd,sl⟩) (h2:bQ cd.mro=true) (h3:cd.hasDict=true)
  (sa:findIn K (.ref C) "__setattr__"=some (some (.builtin "object.__setattr__"))) (ga:findIn K (.ref C) "__getattribute__"=some (some (.builtin "BaseException.__getattribute__"))) (gx:findIn K (.ref C) "__getattr__"=some none)
  (ca:findIn K (.ref C) "__class__"=some (some (.builtin "object.__class__"))) (gs:specialIn K (.builtin "object.__class__") "__get__"=some (some (.builtin "getset_descriptor.__get__"))) (tk:takesIn K (.builtin "object.__class__")=some true):L2.dk K C :=
 ⟨⟨cd,by unfold clsIn;rw [l],h2,h3⟩,⟨_,_,_,l⟩,sa,ga,gx,ca,gs,tk⟩
theorem oV (a:mg x=some (.ref C)) (M:u5 K C) (c:dk K C) (ini:findIn K (.ref C) "__init__"=some (some (.builtin "ValueError.__init__"))):sX K mg x C:=⟨M,c,a,ini⟩
structure ki (qual f p:Str) (st:Stmt):Prop where
 S:ay ["self",p] ["self",p] (aj st)
 hb:∃ p1 p2 p3 p4,aR st=[.Assign [.Attribute (.Name "self" p1) f p2] (.Name p p3) p4]/\(∀ env:Env,attributeBase (.Name "self" p1) f env (eval (.Name "self" p1) env)=eval (.Name "self" p1) env)/\(∀ env:Env,swapsWith (.Name p p3) (some (.Attribute (.Name "self" p1) f p2)) p4.line env=pure false)
 h1:(aj st).names.lookup ("self":Str)=some .local
 h2:(aj st).names.lookup p=some .local
 hd:(p==("__debug__":Str))=false
 hcd:(p==("__classdict__":Str))=false
 bd:∀(kV doc pm:Value) (an:Option Addr) (cdv ct:Value) (us:List Value),us.length=2->bindArgs (PySem.W.fnOf "__init__" qual (bM st) (aR st) (aj st) .none kV doc pm an cdv ct) ⟨us,[]⟩=pure ((["self",p]:List Str).zip us)
theorem lh {st:Stmt} {oc:Value} {od an:Option Addr} {osl:Array (Option Value)} {kV doc pm cdv ct:Value} (I:ki qual f p st) (a:mg x=some (.ref C)) (M:u5 K C) (c:dk K C) (nof:findIn K (.ref C) f=some none)
  (ini:findIn K (.ref C) "__init__"=some (some (.ref fi))) (fn:isFn K (.ref fi)=true) (l:K.lookup fi=some ⟨oc,od,.func (PySem.W.fnOf "__init__" qual (bM st) (aR st) (aj st) .none kV doc pm an cdv ct),osl⟩) (cc:codeIn K cdv qual=true) (kk:keepIn K (.ref fi)=true) :
  ∀(P:Program) (w:World) (base:Heap),mQ P w K mg base x C f:=λP w base=>by
 obtain⟨p1,p2,p3,p4,hb,ab,sw⟩:=I.hb
 have F:=qV l cc kk
 exact⟨M,c,a,nof,fi,_,p,ini,fn,tM F I.S hb I.h1 I.h2 I.hd I.hcd ab sw,F.binds I.bd⟩
end
theorem gF {od:Option Addr} {cd:ClassData} {sl:Array (Option Value)} (_:K.In h) (_:mg x=some (.ref C)) (l:K.lookup C=some ⟨.type "type",od,.cls cd,sl⟩) (h2:bQ cd.mro=true) (h3:cd.hasDict=true)
  (sa:findIn K (.ref C) "__setattr__"=some (some (.builtin "object.__setattr__"))) (ga:findIn K (.ref C) "__getattribute__"=some (some (.builtin "BaseException.__getattribute__"))) (gx:findIn K (.ref C) "__getattr__"=some none)
  (ca:findIn K (.ref C) "__class__"=some (some (.builtin "object.__class__"))) (gs:specialIn K (.builtin "object.__class__") "__get__"=some (some (.builtin "getset_descriptor.__get__"))) (tk:takesIn K (.builtin "object.__class__")=some true)
  (ob:∃ nm q N bs bm hdct sn sub ab col dd k0 k1 k2 k3 k5,(⟨.type "type",od,.cls cd,sl⟩:Obj)=excClassObj nm q C N bs bm hdct sn sub ab col dd k0 k1 k2 k3 k5 jA/\bm.contains (.type "ValueError")=true/\bm.contains (.type "AttributeError")=false/\bm.contains (.type "NameError")=false) (kp:keepIn K (.ref C)=true):dk K C/\u5 K C :=
 ⟨uV l h2 h3 sa ga gx ca gs tk,xC l ob kp⟩
end
end L2
namespace Pw
theorem iV (x n:Int):∀ k:Nat,(x%n)^k%n=x^k%n
 | 0=>by rw [Int.pow_zero,Int.pow_zero]
 | k+1=>by rw [Int.pow_succ,Int.pow_succ,Int.mul_emod,iV x n k,Int.emod_emod,<- Int.mul_emod]
theorem sr (b:Int):∀ k:Nat,(b*b)^k=b^(2*k)
 | 0=>by rw [Nat.mul_zero,Int.pow_zero,Int.pow_zero]
 | k+1=>by
  rw [Int.pow_succ,sr b k,Nat.mul_add,Nat.mul_one,Int.pow_succ,Int.pow_succ,Int.mul_assoc]
theorem vz (x y n:Int):x%n*y%n=x*y%n:=by rw [Int.mul_emod,Int.emod_emod,<- Int.mul_emod]
theorem vw {x x' y y' n:Int} (h:x%n=x'%n) (h':y%n=y'%n):x*y%n=x'*y'%n:=by rw [Int.mul_emod,h,h',<- Int.mul_emod]
theorem step (r b n:Int) (l:Nat):(if l%2=1 then r*b%n else r)*(b*b%n)^(l/2)%n=r*b^l%n:=by
 have e:(b*b%n)^(l/2)%n=b^(2*(l/2))%n:=by rw [iV,sr]
 by_cases c:l%2=1
 ·rw [if_pos c]
  have h:l=2*(l/2)+1:=by omega
  have e2:b^l=b^(2*(l/2))*b:=by rw [<- Int.pow_succ];exact congrArg _ h
  rw [vw (Int.emod_emod_of_dvd (r*b) (Int.dvd_refl n)) e,e2]
  congr 1
  rw [Int.mul_assoc,Int.mul_comm b]
 ·rw [if_neg c]
  have h:l=2*(l/2):=by omega
  rw [vw (rfl:r%n=r%n) e,<- h]
theorem pow_add (a:Int) (m:Nat):∀ k:Nat,a^(m+k)=a^m*a^k
 | 0=>by rw [Nat.add_zero,Int.pow_zero,Int.mul_one]
 | k+1=>by rw [<- Nat.add_assoc,Int.pow_succ,pow_add a m k,Int.pow_succ,Int.mul_assoc]
theorem mul_pow (a b:Int):∀ k:Nat,(a*b)^k=a^k*b^k
 | 0=>by rw [Int.pow_zero,Int.pow_zero,Int.pow_zero,Int.mul_one]
 | k+1=>by
  rw [Int.pow_succ,Int.pow_succ,Int.pow_succ,mul_pow a b k]
  grind
theorem pow_mul (a:Int) (m:Nat):∀ k:Nat,a^(m*k)=(a^m)^k
 | 0=>by rw [Nat.mul_zero,Int.pow_zero,Int.pow_zero]
 | k+1=>by rw [Nat.mul_add,Nat.mul_one,pow_add,pow_mul a m k,Int.pow_succ]
theorem one_pow:∀ k:Nat,(1:Int)^k=1
 | 0=>Int.pow_zero 1
 | k+1=>by rw [Int.pow_succ,one_pow k,Int.mul_one]
theorem vZ {n x y:Int}:x%n=y%n↔n∣x-y:=by
 rw [Int.emod_eq_emod_iff_emod_sub_eq_zero,Int.dvd_iff_emod_eq_zero]
end Pw
namespace L2
open PySem PySem.Spec PyProof.Rows
end L2
namespace L2
open PySem PySem.Spec PyProof.Rows PySem.W
theorem Vals.rev:∀{xs:List V} {us:List Value},Vals xs us->Vals xs.reverse us.reverse
 | [],[],_=>.nil
 | x::xs,u::us,.cons r t=>by
  rw [List.reverse_cons,List.reverse_cons]
  exact (Vals.rev t).append (.cons r .nil)
def zI (K:PySem.W.Frag) (te:TE) (tk:TO):TE:=λσ H Q=>te σ H λx H1=>tk σ H1 λo H2=>o=some (-1)/\∃ a xs,x=.ref a/\aT K H2 a xs/\∀ p,H2 p=none->Q (.ref p) (upd H2 p (.lst xs.reverse))
section
variable {X:Cx} {e k:Expr} {te:TE} {tk:TO} {p2 pos:Pos}
end
mutual
def dv (K:PySem.W.Frag) (H:Hp):PyData->V->Prop
 | .none,v=>v=.bo
 | .bool b,v=>v=.bl b
 | .int i,v=>v=.int i
 | .str x,v=>v=.str x
 | .list ds,v=>∃ p xs,v=.ref p/\aT K H p xs/\aY K H ds xs
 | .tuple ds,v=>∃ p xs,v=.ref p/\aQ K H p xs/\aY K H ds xs
 | .dict _,_=>False
def aY (K:PySem.W.Frag) (H:Hp):List PyData->List V->Prop
 | [],xs=>xs=[]
 | d::ds,xs=>∃ x r,xs=x::r/\dv K H d x/\aY K H ds r
end
section
variable {K:PySem.W.Frag} {H H':Hp}
theorem Rd.same {a:Addr} {o:HO} (h:Rd H a o) (s:aB H H'):Rd H' a o:=by
 rcases h with h | ⟨b,h⟩
 ·exact .inl (s _ _ h)
 ·exact .inr ⟨b,s _ _ h⟩
theorem aT.same {a:Addr} {xs:List V} (h:aT K H a xs) (s:aB H H'):aT K H' a xs:=h.imp (λz=>z.same s) id
theorem aQ.same {a:Addr} {xs:List V} (h:aQ K H a xs) (s:aB H H'):aQ K H' a xs:=h.imp (λz=>z.same s) id
mutual
theorem dv.same (s:aB H H'):∀(d:PyData) {v:V},dv K H d v->dv K H' d v
 | .none,_,h=>h
 | .bool _,_,h=>h
 | .int _,_,h=>h
 | .str _,_,h=>h
 | .list ds,_,⟨p,xs,e,h,t⟩=>⟨p,xs,e,h.same s,aY.same s ds t⟩
 | .tuple ds,_,⟨p,xs,e,h,t⟩=>⟨p,xs,e,h.same s,aY.same s ds t⟩
 | .dict _,_,h=>h.elim
theorem aY.same (s:aB H H'):∀(ds:List PyData) {xs:List V},aY K H ds xs->aY K H' ds xs
 | [],_,h=>h
 | d::ds,_,⟨x,r,e,h,t⟩=>⟨x,r,e,dv.same s d h,aY.same s ds t⟩
end
theorem aY.length:∀{ds:List PyData} {xs:List V},aY K H ds xs->xs.length=ds.length
 | [],_,h=>by cases h;rfl
 | d::ds,_,⟨x,r,e,h,t⟩=>by subst e;rw [List.length_cons,List.length_cons,aY.length t]
theorem aY.get:∀{ds:List PyData} {xs:List V},aY K H ds xs->∀{i:Nat} {x:V},xs[i]?=some x->∃ d,ds[i]?=some d/\dv K H d x
 | [],_,h,i,x,e=>by cases h;simp at e
 | d::ds,_,⟨y,r,ey,h,t⟩,0,x,e=>by subst ey;simp at e;subst e;exact⟨d,rfl,h⟩
 | d::ds,_,⟨y,r,ey,h,t⟩,i+1,x,e=>by subst ey;simp at e;simpa using aY.get t e
theorem aY.append:∀{ds es:List PyData} {xs ys:List V},aY K H ds xs->aY K H es ys->aY K H (ds++es) (xs++ys)
 | [],_,_,_,h,h'=>by cases h;exact h'
 | d::ds,_,_,_,⟨x,r,e,h,t⟩,h'=>by subst e;exact⟨x,_,rfl,h,t.append h'⟩
theorem aY.one {d:PyData} {x:V} (h:dv K H d x):aY K H [d] [x]:=⟨x,[],rfl,h,rfl⟩
theorem aY.ints:∀ ns:List Int,aY K H (ns.map PyData.int) (ns.map V.int)
 | []=>rfl
 | n::ns=>⟨_,_,rfl,rfl,aY.ints ns⟩
theorem dv.lst {p:Addr} {xs:List V} {ds:List PyData} (h:H p=some (.lst xs)) (t:aY K H ds xs):dv K H (.list ds) (.ref p):=⟨p,xs,rfl,aT.of h,t⟩
theorem dv.tup {p:Addr} {xs:List V} {ds:List PyData} (h:H p=some (.tup xs)) (t:aY K H ds xs):dv K H (.tuple ds) (.ref p):=⟨p,xs,rfl,aQ.of h,t⟩
theorem tw {α:Type} {xs:List α} {v:α} (h:xs.getLast?=some v):nX xs (-1)=some v:=by
 have l:0<xs.length:=by
  cases xs with
  | nil=>simp at h
  | cons=>simp
 unfold nX tT
 rw [if_neg (by decide),if_pos (by omega),Option.bind_some,show (-1+(xs.length:Int)).toNat=xs.length-1 by omega,<- List.getLast?_eq_getElem?,h]
mutual
def wA:PyData->Bool
 | .list _=>false
 | .tuple ds=>jx ds
 | _=>true
def jx:List PyData->Bool
 | []=>true
 | d::ds=>wA d && jx ds
end
def SameBut (p:Addr) (H H':Hp):Prop:=∀ b o,b≠p->H b=some o->H' b=some o
theorem aQ.but {p a:Addr} {us xs:List V} (hp:H p=some (.lst us)) (s:SameBut p H H') (h:aQ K H a xs):aQ K H' a xs:=by
 rcases h with (h | ⟨o,h⟩) | h
 ·exact .inl (.inl (s _ _ (λe=>by rw [e,hp] at h;cases h) h))
 ·exact .inl (.inr ⟨o,s _ _ (λe=>by rw [e,hp] at h;cases h) h⟩)
 ·exact .inr h
mutual
theorem dv.but {p:Addr} {us:List V} (hp:H p=some (.lst us)) (s:SameBut p H H'):∀(d:PyData) {v:V},wA d=true->dv K H d v->dv K H' d v
 | .none,_,_,h=>h
 | .bool _,_,_,h=>h
 | .int _,_,_,h=>h
 | .str _,_,_,h=>h
 | .list ds,_,z,_=>by cases z
 | .tuple ds,_,z,⟨q,xs,e,h,t⟩=>⟨q,xs,e,h.but hp s,aY.but hp s ds z t⟩
 | .dict _,_,_,h=>h.elim
theorem aY.but {p:Addr} {us:List V} (hp:H p=some (.lst us)) (s:SameBut p H H'):∀(ds:List PyData) {xs:List V},jx ds=true->aY K H ds xs->aY K H' ds xs
 | [],_,_,h=>h
 | d::ds,_,z,⟨x,r,e,h,t⟩=>by
  have z':wA d=true/\jx ds=true:=by simpa [jx] using z
  exact⟨x,r,e,dv.but hp s d z'.1 h,aY.but hp s ds z'.2 t⟩
end
theorem lS {α:Type} {f:α->PyData} (h:∀ x,wA (f x)=true):∀ xs:List α,jx (xs.map f)=true
 | []=>rfl
 | x::xs=>by rw [List.map_cons,jx,h,lS h xs];rfl
end
section
variable {X:Cx} {pins:List (Addr × Obj)} {σ:St} {H:Hp} {s:Shared}
mutual
theorem eV (I:Inv X pins σ H s):∀(d:PyData) {v:V} {u:Value},dv X.K H d v->RelV v u->∃ as,Reads s.heap u d as
 | .none,_,u,h,r=>by cases h;cases r;exact⟨_,.none⟩
 | .bool _,_,u,h,r=>by cases h;cases r;exact⟨_,.bool _⟩
 | .int _,_,u,h,r=>by cases h;obtain⟨t,rfl⟩:=r;exact⟨_,.int _ _⟩
 | .str _,_,u,h,r=>by cases h;obtain⟨t,rfl⟩:=r;exact⟨_,.str _ _⟩
 | .list ds,_,u,⟨p,xs,e,h,t⟩,r=>by
  subst e
  cases r
  obtain⟨its,rr,pl,_⟩:=I.list h
  obtain⟨o,h1,h2,n,h3⟩:=pl.isList
  obtain⟨as,ra⟩:=eU I ds t rr
  exact⟨_,.list h1 h2 h3 (by simpa using ra)⟩
 | .tuple ds,_,u,⟨p,xs,e,h,t⟩,r=>by
  subst e
  cases r
  obtain⟨its,rr,pl,_⟩:=I.tuple h
  obtain⟨o,h1,h2,n,h3⟩:=pl
  obtain⟨as,ra⟩:=eU I ds t rr
  exact⟨_,.tuple h1 h2 h3 (by simpa using ra)⟩
 | .dict _,_,_,h,_=>h.elim
theorem eU (I:Inv X pins σ H s):∀(ds:List PyData) {xs:List V} {us:List Value},aY X.K H ds xs->Vals xs us->∃ as,ReadsAll s.heap us ds as
 | [],_,us,h,r=>by cases h;cases r;exact⟨_,.nil⟩
 | d::ds,_,us,⟨x,r,e,h,t⟩,rr=>by
  subst e
  cases rr with
  | cons r1 r2 =>
   obtain⟨a1,q1⟩:=eV I d h r1
   obtain⟨a2,q2⟩:=eU I ds t r2
   exact⟨_,.cons q1 q2⟩
end
def wY (K:PySem.W.Frag) (neg:Bool):R2:=λy x H Q=>∃ d e,dv K H d y/\dv K H e x/\d.canLay0=true/\e.canLay0=true/\min d.depth e.depth<=60/\Q (.bl (if neg then !PyData.eqv d e else PyData.eqv d e)) H
theorem nI (hu:X.A.units+64<cLine):fz X (compareOp .Eq) (wY X.K false):=by
 intro pins s σ H y x u v Q I ry rx h
 obtain⟨d,e,hd,he,c1,c2,c3,q⟩:=h
 obtain⟨as,ra⟩:=eV I d hd ry
 obtain⟨bs,rb⟩:=eV I e he rx
 exact SeqAt.compareEq_reads ra rb c1 c2 (by omega) ⟨.bl _,H,I,rfl,q⟩
theorem rB (hu:X.A.units+64<cLine):fz X (compareOp .NotEq) (wY X.K true):=by
 intro pins s σ H y x u v Q I ry rx h
 obtain⟨d,e,hd,he,c1,c2,c3,q⟩:=h
 obtain⟨as,ra⟩:=eV I d hd ry
 obtain⟨bs,rb⟩:=eV I e he rx
 exact SeqAt.compareNe_reads ra rb c1 c2 (by omega) ⟨.bl _,H,I,rfl,q⟩
end
end L2
namespace Pw
def lst (xs:List Nat):Nat:=xs.getLast?.getD 0
end Pw
namespace L2
open PySem PySem.Spec PyProof.Rows PySem.W
def yT (C:Addr) (H:Hp) (E:XK):Prop:=∀ x H',aB H H'->H x=none->H' x=some (XO x C none)->E (.ref C) (some x) H'
def yU (C:Addr) (f:Str) (v:V) (H:Hp) (E:XK):Prop:=∀ x dx H',aB H H'->H x=none->H' x=some (XO x C (some dx))->H' dx=some (.xd [(f,v)])->E (.ref C) (some x) H'
theorem jM {K:PySem.W.Frag} {C x:Addr} {H H1:Hp} {E:XK} (c:dk K C) (hs:aB H H1) (hx:H1 x=none) (e:yT C H E) :
  ∃(C':Addr) (dd:Option Addr),upd H1 x (XN x C none) x=some (XN x C' dd)/\dk K C'/\H x=none/\E (.ref C') (some x) (upd (upd H1 x (XN x C none)) x (XO x C' dd)):=by
 refine⟨C,none,ah,c,hs.free hx,e x _ ?_ (hs.free hx) ah⟩
 intro b o q
 have q1:=hs _ _ q
 have bx:b≠x:=λy=>by rw [y,hx] at q1;cases q1
 rw [au bx,au bx]
 exact q1
theorem jN {K:PySem.W.Frag} {C x dx:Addr} {f:Str} {v:V} {H H1:Hp} {E:XK} (c:dk K C) (hs:aB H H1) (hx:H1 x=none) (hdx:H1 dx=none) (ne:dx≠x) (e:yU C f v H E) :
  ∃(C':Addr) (dd:Option Addr),upd (upd (upd H1 x (XN x C none)) dx (.xd [(f,v)])) x (XN x C (some dx)) x=some (XN x C' dd)/\dk K C'/\H x=none/\E (.ref C') (some x) (upd (upd (upd (upd H1 x (XN x C none)) dx (.xd [(f,v)])) x (XN x C (some dx))) x (XO x C' dd)):=by
 refine⟨C,some dx,ah,c,hs.free hx,e x dx _ ?_ (hs.free hx) ah ?_⟩
 ·intro b o q
  have q1:=hs _ _ q
  have bx:b≠x:=λy=>by rw [y,hx] at q1;cases q1
  have bd:b≠dx:=λy=>by rw [y,hdx] at q1;cases q1
  rw [au bx,au bx,au bd,au bx]
  exact q1
 ·rw [au ne,au ne,ah]
end L2
namespace Ld
structure eK (n r:Int):Prop where
 two:2<=r
 dv:r∣n
 no:∀ d:Int,2<=d->d<r->¬d∣n
theorem eK.one {n r r':Int} (h:eK n r) (h':eK n r'):r=r':=by
 rcases Int.lt_trichotomy r r' with c | c | c
 ·exact absurd h.dv (h'.no r h.two c)
 ·exact c
 ·exact absurd h'.dv (h.no r' h'.two c)
theorem eK.le {n r:Int} (h:eK n r) (hn:0<n):r<=n:=Int.le_of_dvd hn h.dv
structure Inv (n k:Int):Prop where
 two:2<=k
 odd:k=2∨k%2=1
 no:∀ d:Int,2<=d->d<k->¬d∣n
theorem Inv.step {n k:Int} (h:Inv n k) (hk:¬k∣n):Inv n (k+if k=2 then 1 else 2):=by
 have h2:=h.two
 by_cases c:k=2
 ·rw [if_pos c]
  refine⟨by omega,.inr (by omega),λd d0 d1=>?_⟩
  have:d=k:=by omega
  rw [this];exact hk
 ·rw [if_neg c]
  have ho:k%2=1:=by rcases h.odd with z | z;exact absurd z c;exact z
  refine⟨by omega,.inr (by omega),λd d0 d1 hd=>?_⟩
  rcases (by omega:d<k∨d=k∨d=k+1) with z | z | z
  ·exact h.no d d0 z hd
  ·subst z;exact hk hd
  ·have e2:(2:Int)∣d:=Int.dvd_of_emod_eq_zero (by omega)
   exact h.no 2 (by omega) (by omega) (Int.dvd_trans e2 hd)
theorem Inv.found {n k:Int} (h:Inv n k) (hk:k∣n):eK n k:=⟨h.two,hk,h.no⟩
theorem Inv.done {n k:Int} (h:Inv n k) (hn:2<=n) (hk:n<k*k):eK n n:=by
 refine⟨hn,Int.dvd_refl n,λd d0 d1 hd=>?_⟩
 obtain⟨c,hc⟩:=hd
 have h2:=h.two
 by_cases z:d<k
 ·exact h.no d d0 z ⟨c,hc⟩
 ·have c0:0<c:=by
   rcases (by omega:c<=0∨0<c) with y | y
   ·have:=Int.mul_nonpos_of_nonneg_of_nonpos (show 0<=d by omega) y
    omega
   ·exact y
  have c2:2<=c:=by
   rcases (by omega:c=1∨2<=c) with y | y
   ·subst y;omega
   ·exact y
  have ck:c<k:=by
   rcases (by omega:c<k∨k<=c) with y | y
   ·exact y
   ·have:=Int.mul_le_mul (show k<=d by omega) y (by omega) (by omega)
    omega
  exact h.no c c2 ck ⟨d,by rw [Int.mul_comm];exact hc⟩
end Ld
namespace L2
open PySem PySem.Spec PyProof.Rows PySem.W
section
variable {K:PySem.W.Frag} {H:Hp}
mutual
theorem eqv_refl:∀ d:PyData,d.canLay0=true->PyData.eqv d d=true
 | .none,_=>by simp [PyData.eqv]
 | .bool _,_=>by simp [PyData.eqv]
 | .int _,_=>by simp [PyData.eqv]
 | .str _,_=>by simp [PyData.eqv]
 | .list ds,h=>by simpa [PyData.eqv] using gL ds h
 | .tuple ds,h=>by simpa [PyData.eqv] using gL ds h
 | .dict _,h=>by simp [PyData.canLay0] at h
theorem gL:∀ ds:List PyData,PyData.canLayAll0 ds=true->PyData.eqvAll ds ds=true
 | [],_=>by simp [PyData.eqvAll]
 | d::ds,h=>by
  have h':d.canLay0=true/\PyData.canLayAll0 ds=true:=by simpa [PyData.canLayAll0] using h
  simp [PyData.eqvAll,eqv_refl d h'.1,gL ds h'.2]
end
end
end L2
namespace L2
open PySem PySem.Spec PyProof.Rows
def yY (lo k:Int) (n:Nat):It:=⟨λi _=>i<n,λi H x H'=>H'=H/\x=.int (lo+i*k),λi _=>n<=i⟩
def x6 (lo hi k:Int):Nat:=if lo<hi then ((hi-lo-1)/k+1).toNat else 0
def xX (ta:TA):TI:=λσ H R=>ta σ H λvs H1=>∃ i j k:Int,vs=[.int i,.int j,.int k]/\(-(2^60)<=i/\i<2^60 /\ -(2^60)<=j/\j<2^60/\0<k/\k<2^29)/\R (yY i k (x6 i j k)) H1
section
variable {X:Cx} {tg:Expr}
end
end L2
namespace Sv
def xp (d:Nat) (arr:Nat->Bool):Nat->Bool:=λj=>arr j || (decide (d*d<=j) && decide (j%d=0))
def sv:Nat->(Nat->Bool) × List Nat
 | 0=>(λ_=>false,[])
 | i+1=>if (sv i).1 (i+2) then sv i else (xp (i+2) (sv i).1,(sv i).2++[i+2])
theorem len:∀ i,(sv i).2.length<=i
 | 0=>Nat.le_refl _
 | i+1=>by
  have:=len i
  rw [sv]
  split
  ·omega
  ·rw [List.length_append,List.length_singleton];omega
end Sv
namespace L2
open PySem PySem.Spec PyProof.Rows
theorem pA {X:Cx}:eO X (.type "int") (λxs H Q=>∃ k,xs=[.bl k]/\Q (.int (if k=true then 1 else 0)) H):=λpins s σ H xs us Q I r h=>oZ pins s σ H xs us Q I r (.inr h)
section
variable {X:Cx} {pins:List (Addr × Obj)} {σ:St} {H:Hp} {s:Shared} {h':Heap}
theorem Inv.oS {t':Nat} {ch:List Addr} (I:Inv X pins σ H s) (k:∀ b o,b∉ch->s.heap.get? b=some o->h'.get? b=some o) (hf:∀ b∈ch,kh X pins H b):Inv X pins σ H { s with heap:=h',toks:=t' }:=by
 have nit:∀ b u,H b=some u->b∉ch:=λb u e z=>by rw [(hf b z).1] at e;cases e
 refine I.step (g':=s.gens) (d':=s.drawn) (ch:=ch) (λb hb=>?_) (λb o _ _ hc e _=>k b o hc e) (λb o _ _ hc e _=>⟨o.slots,k b o hc e⟩) (λ_ _ _ _ n=>n)
  (λb o hc e=>⟨o,k b o hc e⟩) (λ_ _ e=>e) (λ_ _ _ e=>e) (λb ps e=>⟨#[],by rw [e];simp⟩) (λm hm=>?_) (λb u e=>?_) I.bare
 ·obtain⟨_,f1,_,f3,f4,f5⟩:=hf b hb
  exact⟨f3,f1,f4,f5⟩
 ·obtain⟨o,es,ep,ho,r⟩:=hm
  exact⟨o,es,ep,k _ o (λz=>(hf _ z).2.1 rfl) ho,r⟩
 ·refine (I.hok b u e).jj (λc v hc q=>k c v ?_ q) (λ_ q=>q) λ_ _ q=>q
  rcases hc with z | z
  ·rw [z];exact nit b u e
  ·exact nit c _ z
theorem Inv.adopt {T:Addr} {o:HO} (I:Inv X pins σ H s) (hf:kh X pins H T) (new:aZ X.prog X.w (upd H T o) s.heap T o):Inv X pins σ (upd H T o) s:=by
 have nT:∀ b u,H b=some u->b≠T:=λb u e z=>by rw [z,hf.1] at e;cases e
 refine I.step (h':=s.heap) (g':=s.gens) (d':=s.drawn) (t':=s.toks) (ch:=[T]) (λb hb=>?_) (λb o _ _ hc e _=>e) (λb o _ _ hc e _=>⟨o.slots,e⟩) (λb o hc e n=>by rw [au (λz=>hc (by simp [z]))];exact n)
  (λb o hc e=>⟨o,e⟩) (λb xs e=>by rw [au (nT _ _ e)];exact e) (λb o u e=>by rw [au (nT _ _ e)];exact e) (λb ps e=>⟨#[],by rw [au (nT _ _ e),e];simp⟩) (λm hm=>hm) (λb u e=>?_) I.bare
 ·have e:b=T:=by simpa using hb
  subst e
  obtain⟨_,f1,_,f3,f4,f5⟩:=hf
  exact⟨f3,f1,f4,f5⟩
 ·by_cases z:b=T
  ·subst z
   rw [ah] at e
   cases e
   exact new
  ·rw [au z] at e
   exact (I.hok b u e).jj (λc v _ q=>q) (λc q=>by rw [au (nT _ _ q)];exact q) λc xs q=>by rw [au (nT _ _ q)];exact q
end
def Aa (K:PySem.W.Frag) (a:Addr):It :=
 ⟨λi H=>∃ xs x,aT K H a xs/\xs[i]?=some x,λi H x H'=>∃ p v,H p=none/\x=.ref p/\(∀ xs,aT K H a xs->xs[i]?=some v)/\H'=upd H p (.tup [.int i,v]),λi H=>∃ xs,aT K H a xs/\xs.length<=i⟩
def xV (K:PySem.W.Frag) (ta:TA):TI:=λσ H R=>ta σ H λvs H1=>∃ a,vs=[.ref a]/\(∃ xs,aT K H1 a xs)/\R (Aa K a) H1
end L2
namespace Crt
structure G (a b g:Int):Prop where
 pos:0<g
 da:g∣a
 db:g∣b
 lin:∃ u v:Int,u*a+v*b=g
theorem G.gr {a b g d:Int} (h:G a b g) (h1:d∣a) (h2:d∣b):d∣g:=by
 obtain⟨u,v,e⟩:=h.lin
 rw [<- e]
 exact Int.dvd_add (Int.dvd_mul_of_dvd_right h1) (Int.dvd_mul_of_dvd_right h2)
theorem G.one {a b g g':Int} (h:G a b g) (h':G a b g'):g=g':=Int.le_antisymm (Int.le_of_dvd h'.pos (h'.gr h.da h.db)) (Int.le_of_dvd h.pos (h.gr h'.da h'.db))
theorem a1 {g u A v L:Int} (e:u*(g*A)+v*(g*L)=g):g*(u*A+v*L)=g*1:=by grind
theorem a2 {g A k L l y:Int} (h1:y=g*A*k) (h2:y=g*L*l):g*(A*k)=g*(L*l):=by grind
theorem a3 {u A v L k l:Int} (e4:u*A+v*L=1) (e5:A*k=L*l):k=L*(u*l+v*k):=by
 have z:k*(u*A+v*L)=k:=by rw [e4,Int.mul_one]
 grind
theorem a4 {A D r L q1 t:Int} (et:L*q1+t=D*r):A*t=A*(D*r)-A*(L*q1):=by grind
theorem a5 {D r A L c:Int} (hc:r*A-1=L*c):D*(r*A)-D=D*(L*c):=by rw [<- hc];grind
theorem a6 {M L t q2 N x:Int} (ex:M*L*q2+x=N+M*t):x-N=M*(t-L*q2):=by grind
theorem a7 {g A L t q1 q2 c D r N x:Int} (z3:x=N+g*A*t-g*A*L*q2) (z1:A*t=A*(D*r)-A*(L*q1)) (z2:D*(r*A)-D=D*(L*c)):x-(N+g*D)=g*L*(c*D-q1*A-A*q2):=by grind
theorem a8 {M L k w:Int} (h:k=L*w):M*k=M*L*w:=by rw [h,Int.mul_assoc]
structure z7 (M N m n W x:Int):Prop where
 pos:0<W
 dM:M∣W
 dm:m∣W
 le:∀ y:Int,M∣y->m∣y->W∣y
 x0:0<=x
 x1:x<W
 eM:M∣x-N
 em:m∣x-n
theorem yV:∀(b a:Nat),0<a->∃ g,G (a:Int) (b:Int) g:=by
 intro b
 induction b using Nat.strongRecOn with
 | ind b ih =>
  intro a ha
  rcases Nat.eq_zero_or_pos b with z | z
  ·subst z
   exact⟨a,by omega,Int.dvd_refl _,Int.dvd_zero _,1,0,by simp⟩
  ·obtain⟨g,h⟩:=ih (a%b) (Nat.mod_lt a z) b z
   obtain⟨u,v,e⟩:=h.lin
   have ed:(a:Int)=(b:Int)*((a/b:Nat):Int)+((a%b:Nat):Int):=by
    have:=Nat.div_add_mod a b
    rw [<- Int.natCast_mul,<- Int.natCast_add,this]
   refine⟨g,h.pos,?_,h.da,v,u-v*((a/b:Nat):Int),?_⟩
   ·rw [ed]
    exact Int.dvd_add (Int.dvd_mul_of_dvd_left h.da) h.db
   ·rw [ed,<- e]
    generalize ((a/b:Nat):Int)=q
    generalize ((a%b:Nat):Int)=r
    generalize (b:Int)=b'
    grind
theorem xI {a b:Int} (ha:0<a) (hb:0<b):∃ g,G a b g:=by
 obtain⟨g,h⟩:=yV b.toNat a.toNat (by omega)
 rw [Int.toNat_of_nonneg (by omega),Int.toNat_of_nonneg (by omega)] at h
 exact⟨g,h⟩
structure Told (ps:List (Int × Int)) (M N:Int):Prop where
 pos:0<M
 x0:0<=N
 x1:N<M
 dv:∀ p∈ps,p.1∣M
 le:∀ y:Int,(∀ p∈ps,p.1∣y)->M∣y
 al:∀ p∈ps,p.1∣N-p.2
theorem Told.nil:Told [] 1 0:=⟨by decide,by decide,by decide,λ_ h=>by simp at h,λy _=>⟨y,by omega⟩,λ_ h=>by simp at h⟩
theorem Told.one {ps:List (Int × Int)} {M N M' N':Int} (h:Told ps M N) (h':Told ps M' N'):M=M'/\N=N':=by
 have e:M=M':=Int.le_antisymm (Int.le_of_dvd h'.pos (h.le _ h'.dv)) (Int.le_of_dvd h.pos (h'.le _ h.dv))
 subst e
 refine⟨rfl,?_⟩
 have z:M∣N-N':=h.le _ λp hp=>by
  have:=Int.dvd_sub (h.al p hp) (h'.al p hp)
  rwa [show N-p.2-(N' - p.2)=N-N' by omega] at this
 have w:=Int.emod_emod_of_dvd
 have:=(Int.emod_eq_emod_iff_emod_sub_eq_zero (m:=N) (n:=M) (k:=N')).mpr (Int.emod_eq_zero_of_dvd z)
 rwa [Int.emod_eq_of_lt h.x0 h.x1,Int.emod_eq_of_lt h'.x0 h'.x1] at this
end Crt
namespace Num
def Al (n x y:Int):Prop:=n∣x-y
theorem Al.refl (n x:Int):Al n x x:=⟨0,by omega⟩
theorem Al.symm {n x y:Int} (h:Al n x y):Al n y x:=by
 have:=(Int.dvd_neg).mpr h
 rwa [show -(x-y)=y-x by omega] at this
theorem Al.trans {n x y z:Int} (h:Al n x y) (h':Al n y z):Al n x z:=by
 have:=Int.dvd_add h h'
 rwa [show x-y+(y-z)=x-z by omega] at this
theorem Al.mul {n x y u v:Int} (h:Al n x y) (h':Al n u v):Al n (x*u) (y*v):=by
 have h1:n∣(x-y)*u:=Int.dvd_mul_of_dvd_left h
 have h2:n∣y*(u-v):=Int.dvd_mul_of_dvd_right h'
 have:=Int.dvd_add h1 h2
 rwa [show (x-y)*u+y*(u-v)=x*u-y*v by rw [Int.sub_mul,Int.mul_sub];omega] at this
theorem Al.pow {n x y:Int} (h:Al n x y):∀ k:Nat,Al n (x^k) (y^k)
 | 0=>by rw [Int.pow_zero,Int.pow_zero];exact Al.refl _ _
 | k+1=>by rw [Int.pow_succ,Int.pow_succ];exact (Al.pow h k).mul h
theorem Al.iff {n x y:Int}:Al n x y↔x%n=y%n:=Pw.vZ.symm
theorem Al.rest (n x:Int):Al n (x%n) x:=Al.iff.mpr (Int.emod_emod_of_dvd x (Int.dvd_refl n))
def Co (a n:Int):Prop:=∃ u v:Int,u*a+v*n=1
theorem Co.dvd {a n b:Int} (h:Co a n) (hd:n∣a*b):n∣b:=by
 obtain⟨u,v,e⟩:=h
 have h1:n∣u*(a*b):=Int.dvd_mul_of_dvd_right hd
 have h2:n∣(v*b)*n:=⟨v*b,Int.mul_comm _ _⟩
 have:=Int.dvd_add h1 h2
 have e2:u*(a*b)+v*b*n=(u*a+v*n)*b:=by
  rw [Int.add_mul,Int.mul_assoc u a b,Int.mul_assoc v n b,Int.mul_comm n b,Int.mul_assoc v b n]
 rw [e2,e,Int.one_mul] at this
 exact this
theorem Co.cancel {a n x y:Int} (h:Co a n) (e:Al n (a*x) (a*y)):Al n x y:=by
 refine h.dvd ?_
 rw [Int.mul_sub]
 exact e
theorem Co.mul {a b n:Int} (h:Co a n) (h':Co b n):Co (a*b) n:=by
 obtain⟨u,v,e⟩:=h
 obtain⟨u',v',e'⟩:=h'
 refine⟨u*u',u*a*v'+v*(u'*b+v'*n),?_⟩
 have:(u*a+v*n)*(u'*b+v'*n)=1:=by rw [e,e'];rfl
 grind
theorem Co.pow {a n:Int} (h:Co a n):∀ k:Nat,Co (a^k) n
 | 0=>⟨1,0,by rw [Int.pow_zero];simp⟩
 | k+1=>by rw [Int.pow_succ];exact (Co.pow h k).mul h
theorem Co.x8 {a b n:Int} (h:Co a n) (e:Al n a b):Co b n:=by
 obtain⟨u,v,e1⟩:=h
 obtain⟨c,hc⟩:=e
 refine⟨u,v+u*c,?_⟩
 have:b=a-n*c:=by omega
 rw [this]
 grind
theorem aV {n a:Int} {d k:Nat} (h:Al n (a^d) 1):Al n (a^(d*k)) 1:=by
 rw [Pw.pow_mul]
 have:=h.pow k
 rwa [Pw.one_pow] at this
structure Ord (n a:Int) (m:Nat):Prop where
 pos:0<m
 one:Al n (a^m) 1
 dv:∀ j:Nat,Al n (a^j) 1->m∣j
theorem pow_mod {n a:Int} {m j:Nat} (h:Al n (a^m) 1) (hj:Al n (a^j) 1):Al n (a^(j%m)) 1:=by
 have e:a^j=a^(m*(j/m))*a^(j%m):=by rw [<- Pw.pow_add,Nat.div_add_mod]
 rw [e] at hj
 have h1:=(aV (k:=j/m) h).mul (Al.refl n (a^(j%m)))
 rw [Int.one_mul] at h1
 exact h1.symm.trans hj
theorem kK {n a:Int} {m:Nat} (pos:0<m) (one:Al n (a^m) 1) (no:∀ j,0<j->j<m->¬Al n (a^j) 1):Ord n a m:=by
 refine⟨pos,one,λj hj=>?_⟩
 have h:=pow_mod one hj
 rcases Nat.eq_zero_or_pos (j%m) with z | z
 ·exact Nat.dvd_of_mod_eq_zero z
 ·exact absurd h (no _ z (Nat.mod_lt _ pos))
theorem dW {P:Nat->Prop}:∀ N:Nat,P N->∃ m,P m/\∀ j,j<m->¬P j:=by
 intro N
 induction N using Nat.strongRecOn with
 | ind N ih =>
  intro h
  by_cases z:∃ j,j<N/\P j
  ·obtain⟨j,hj,pj⟩:=z
   exact ih j hj pj
  ·exact⟨N,h,λj hj pj=>z ⟨j,hj,pj⟩⟩
theorem kJ {n a:Int} {N:Nat} (pos:0<N) (h:Al n (a^N) 1):∃ m,Ord n a m/\m<=N:=by
 obtain⟨m,⟨m0,m1⟩,no⟩:=dW (P:=λj=>0<j/\Al n (a^j) 1) N ⟨pos,h⟩
 refine⟨m,kK m0 m1 λj j0 jm z=>no j jm ⟨j0,z⟩,?_⟩
 by_cases z:m<=N
 ·exact z
 ·exact absurd ⟨pos,h⟩ (no N (by omega))
theorem Ord.gM {n a:Int} {m m':Nat} (h:Ord n a m) (h':Ord n a m'):m=m':=Nat.dvd_antisymm (h.dv _ h'.one) (h'.dv _ h.one)
theorem Ord.inj {n a:Int} {m i j:Nat} (h:Ord n a m) (c:Co a n) (hi:i<m) (hj:j<m) (e:Al n (a^i) (a^j)):i=j:=by
 have aux:∀ i j:Nat,i<m->j<m->i<=j->Al n (a^i) (a^j)->i=j:=by
  intro i j hi hj hij e
  have e1:a^j=a^i*a^(j-i):=by rw [<- Pw.pow_add];congr 1;omega
  rw [e1] at e
  have e2:Al n (a^i*1) (a^i*a^(j-i)):=by rw [Int.mul_one];exact e
  have e3:=(c.pow i).cancel e2
  have:=h.dv _ e3.symm
  rcases Nat.eq_zero_or_pos (j-i) with z | z
  ·omega
  ·have:=Nat.le_of_dvd z this
   omega
 rcases Nat.le_total i j with z | z
 ·exact aux i j hi hj z e
 ·exact (aux j i hj hi z e.symm).symm
theorem rK:∀(n:Nat) (l:List Nat),l.Nodup->(∀ x∈l,x<n)->l.length<=n:=by
 intro n
 induction n with
 | zero =>
  intro l _ h
  cases l with
  | nil=>exact Nat.le_refl _
  | cons x r=>exact absurd (h x (by simp)) (by omega)
 | succ n ih =>
  intro l nd h
  by_cases c:n∈l
  ·have h1:=ih (l.erase n) (nd.erase n) λx hx=>by
    have hx':=List.mem_of_mem_erase hx
    have ne:x≠n:=λz=>by
     subst z
     exact absurd hx (List.Nodup.not_mem_erase nd)
    have:=h x hx'
    omega
   rw [List.length_erase_of_mem c] at h1
   omega
  ·have h1:=ih l nd λx hx=>by
    have:=h x hx
    have ne:x≠n:=λz=>c (z▸hx)
    omega
   omega
end Num
namespace Num
structure Pm (p:Int):Prop where
 two:2<=p
 no:∀ d:Int,2<=d->d<p->¬d∣p
theorem Pm.co {p a:Int} (h:Pm p) (ha:¬p∣a):Co a p:=by
 have h2:=h.two
 have r0:=Int.emod_nonneg a (show p≠0 by omega)
 have r1:=Int.emod_lt_of_pos a (show 0<p by omega)
 have rn:a%p≠0:=λz=>ha (Int.dvd_of_emod_eq_zero z)
 obtain⟨g,G⟩:=Crt.xI (a:=a%p) (b:=p) (by omega) (by omega)
 have gl:=Int.le_of_dvd (show 0<a%p by omega) G.da
 have g1:g=1:=by
  have g0:=G.pos
  rcases (by omega:g=1∨2<=g) with z | z
  ·exact z
  ·exact absurd G.db (h.no g z (by omega))
 obtain⟨u,v,e⟩:=G.lin
 rw [g1] at e
 exact Co.x8 ⟨u,v,e⟩ (Al.rest p a)
theorem Pm.or {p a b:Int} (h:Pm p) (hd:p∣a*b) (ha:¬p∣a):p∣b:=(h.co ha).dvd hd
theorem Pm.ua {p:Int} (h:Pm p):¬Al p 0 1:=λz=>by
 have h2:=h.two
 have z':p∣0-1:=z
 have z2:=(Int.dvd_neg).mpr z'
 rw [show -((0:Int)-1)=1 by decide] at z2
 have:=Int.le_of_dvd (show (0:Int)<1 by decide) z2
 omega
def H:Int->List Int->Int->Int
 | acc,[],_=>acc
 | acc,c::cs,x=>H (acc*x+c) cs x
theorem qC (x:Int):∀(cs:List Int) (a b:Int),H (a+b) cs x=H a cs x+b*x^cs.length
 | [],a,b=>by rw [List.length_nil,Int.pow_zero,Int.mul_one];rfl
 | c::cs,a,b=>by
  show H ((a+b)*x+c) cs x=H (a*x+c) cs x+b*x^(cs.length+1)
  rw [show (a+b)*x+c=(a*x+c)+b*x by rw [Int.add_mul];omega,qC x cs,Int.pow_succ,Int.mul_assoc,Int.mul_comm x]
def uA (r:Int):Int->List Int->List Int
 | _,[]=>[]
 | _,[_]=>[]
 | c0,c::c'::cs=>(c0*r+c)::uA r (c0*r+c) (c'::cs)
theorem kR (r:Int):∀(cs:List Int) (c0:Int),(uA r c0 cs).length=cs.length-1
 | [],_=>rfl
 | [_],_=>rfl
 | c::c'::cs,c0=>by
  show (uA r (c0*r+c) (c'::cs)).length+1=_
  rw [kR r (c'::cs)]
  simp
theorem factor (x r:Int):∀(cs:List Int) (c0:Int),cs≠[]->H c0 cs x-H c0 cs r=(x-r)*H c0 (uA r c0 cs) x
 | [],_,h=>absurd rfl h
 | [c],c0,_=>by
  show c0*x+c-(c0*r+c)=(x-r)*c0
  rw [Int.sub_mul,Int.mul_comm c0 x,Int.mul_comm c0 r]
  omega
 | c::c'::cs,c0,_=>by
  have ih:=factor x r (c'::cs) (c0*r+c) (by simp)
  show H (c0*x+c) (c'::cs) x-H (c0*r+c) (c'::cs) r=(x-r)*H (c0*x+(c0*r+c)) (uA r (c0*r+c) (c'::cs)) x
  have e1:c0*x+c=(c0*r+c)+c0*(x-r):=by rw [Int.mul_sub];omega
  have e2:H (c0*x+(c0*r+c)) (uA r (c0*r+c) (c'::cs)) x=H (c0*r+c) (uA r (c0*r+c) (c'::cs)) x+c0*x*x^cs.length:=by
   rw [Int.add_comm (c0*x),qC,kR]
   simp
  rw [e1,qC,e2,List.length_cons,Int.pow_succ,Int.mul_add,<- ih]
  generalize H (c0*r+c) (c'::cs) x=A
  generalize H (c0*r+c) (c'::cs) r=B
  generalize x^cs.length=Y
  grind
theorem roots {p:Int} (hp:Pm p):∀(n:Nat) (cs:List Int) (c0:Int),cs.length=n->¬p∣c0->∀ rs:List Int,rs.Pairwise (λa b=>¬Al p a b)->(∀ r∈rs,p∣H c0 cs r)->rs.length<=n:=by
 intro n
 induction n with
 | zero =>
  intro cs c0 hl h0 rs hr hz
  have:cs=[]:=List.eq_nil_of_length_eq_zero hl
  subst this
  cases rs with
  | nil=>exact Nat.le_refl _
  | cons r rs=>exact absurd (hz r (by simp)) h0
 | succ n ih =>
  intro cs c0 hl h0 rs hr hz
  cases rs with
  | nil=>exact Nat.zero_le _
  | cons r rs =>
   have hne:cs≠[]:=λz=>by rw [z] at hl;simp at hl
   obtain⟨h1,h2⟩:=List.pairwise_cons.mp hr
   have:=ih (uA r c0 cs) c0 (by rw [kR,hl];rfl) h0 rs h2 λs hs=>by
    have e:=factor s r cs c0 hne
    have d1:=hz s (List.mem_cons_of_mem _ hs)
    have d2:=hz r (by simp)
    have d3:=Int.dvd_sub d1 d2
    rw [e] at d3
    exact hp.or d3 λz=>h1 s hs (Al.symm z)
   simpa using this
theorem uX (x:Int):∀(n:Nat) (a:Int),H a (List.replicate n 0++[-1]) x=a*x^(n+1)-1
 | 0,a=>by
  show a*x + -1=_
  rw [Int.pow_succ,Int.pow_zero,Int.one_mul];omega
 | n+1,a=>by
  show H (a*x+0) (List.replicate n 0++[-1]) x=_
  rw [uX x n,Int.add_zero,Int.pow_succ x (n+1),Int.mul_comm (x^(n+1)) x,Int.mul_assoc]
theorem sZ {p:Int} (hp:Pm p) {n:Nat} (hn:0<n) (h:∀ a:Int,¬p∣a->Al p (a^n) 1):p-1<=n:=by
 have h2:=hp.two
 obtain⟨m,rfl⟩:∃ m,n=m+1:=⟨n-1,by omega⟩
 have key:=roots hp (m+1) (List.replicate m 0++[-1]) 1 (by simp) (λz=>by have:=Int.le_of_dvd (by decide) z;omega) ((List.range (p-1).toNat).map λi:Nat=>(i:Int)+1) ?_ ?_
 ·rw [List.length_map,List.length_range] at key
  omega
 ·rw [List.pairwise_map]
  refine List.Pairwise.imp_of_mem (R:=(·<·)) (λ{a b} ha hb hab z=>?_) List.pairwise_lt_range
  have hb':=List.mem_range.mp hb
  have:=Int.le_of_dvd (by omega) (Al.symm z)
  omega
 ·intro r hr
  obtain⟨i,hi,rfl⟩:=List.mem_map.mp hr
  have hi':=List.mem_range.mp hi
  rw [uX,Int.one_mul]
  exact h _ λz=>by have:=Int.le_of_dvd (by omega) z;omega
theorem jT {f:Nat->Nat} {n:Nat} (h:∀ i j,i<j->j<n->f i≠f j):((List.range n).map f).Nodup:=by
 show List.Pairwise _ _
 rw [List.pairwise_map]
 exact List.Pairwise.imp_of_mem (R:=(·<·)) (λ{a b} ha hb hab=>h a b hab (List.mem_range.mp hb)) List.pairwise_lt_range
theorem rest_eq {p x y:Int} (hp:0<p) (e:(x%p).toNat=(y%p).toNat):Al p x y:=by
 have h1:=Int.emod_nonneg x (show p≠0 by omega)
 have h2:=Int.emod_nonneg y (show p≠0 by omega)
 exact Al.iff.mpr (by omega)
theorem back {n a:Int} (hn:2<=n) (c:Co a n):∃ d:Nat,0<d/\(d:Int)<=n/\Al n (a^d) 1:=by
 by_cases z:∃ i j:Nat,i<j/\j<n.toNat+1/\Al n (a^i) (a^j)
 ·obtain⟨i,j,ij,jn,e⟩:=z
  refine⟨j-i,by omega,by omega,?_⟩
  have e1:a^j=a^i*a^(j-i):=by rw [<- Pw.pow_add];congr 1;omega
  rw [e1] at e
  have e2:Al n (a^i*1) (a^i*a^(j-i)):=by rw [Int.mul_one];exact e
  exact ((c.pow i).cancel e2).symm
 ·exfalso
  have nd:=jT (f:=λi=>(a^i%n).toNat) (n:=n.toNat+1) λi j ij jn e=>z ⟨i,j,ij,jn,rest_eq (by omega) e⟩
  have:=rK n.toNat _ nd λx hx=>by
   obtain⟨i,_,rfl⟩:=List.mem_map.mp hx
   have h1:=Int.emod_nonneg (a^i) (show n≠0 by omega)
   have h2:=Int.emod_lt_of_pos (a^i) (show 0<n by omega)
   show (a^i%n).toNat<n.toNat
   omega
  rw [List.length_map,List.length_range] at this
  omega
def fact:Nat->Nat
 | 0=>1
 | n+1=>(n+1)*fact n
theorem lH:∀ n,0<fact n
 | 0=>by decide
 | n+1=>Nat.mul_pos (Nat.succ_pos n) (lH n)
theorem lD {d:Nat}:∀ n,0<d->d<=n->d∣fact n
 | 0,h,h'=>by omega
 | n+1,h,h'=>by
  by_cases c:d=n+1
  ·subst c;exact⟨fact n,rfl⟩
  ·exact Nat.dvd_trans (lD n h (by omega)) ⟨n+1,Nat.mul_comm _ _⟩
theorem Ord.mul {n a b:Int} {k m:Nat} (ha:Ord n a k) (hb:Ord n b m) (ca:Co a n) (cb:Co b n) (co:Nat.Coprime k m):Ord n (a*b) (k*m):=by
 refine⟨Nat.mul_pos ha.pos hb.pos,?_,λj hj=>?_⟩
 ·rw [Pw.mul_pow]
  have h1:=aV (k:=m) ha.one
  have h2:=aV (k:=k) hb.one
  rw [Nat.mul_comm m k] at h2
  exact h1.mul h2
 ·rw [Pw.mul_pow] at hj
  have d1:k∣j:=by
   have e:=hj.pow m
   rw [Pw.one_pow,Pw.mul_pow,<- Pw.pow_mul,<- Pw.pow_mul] at e
   have h2:=aV (k:=j) hb.one
   rw [Nat.mul_comm m j] at h2
   have e2:Al n (a^(j*m)) 1:=by
    have:=(Al.refl n (a^(j*m))).mul h2.symm
    rw [Int.mul_one] at this
    exact this.trans e
   exact Nat.Coprime.dvd_of_dvd_mul_right co (ha.dv _ e2)
  have d2:m∣j:=by
   have e:=hj.pow k
   rw [Pw.one_pow,Pw.mul_pow,<- Pw.pow_mul,<- Pw.pow_mul] at e
   have h2:=aV (k:=j) ha.one
   rw [Nat.mul_comm k j] at h2
   have e2:Al n (b^(j*k)) 1:=by
    have:=h2.symm.mul (Al.refl n (b^(j*k)))
    rw [Int.one_mul] at this
    exact this.trans e
   exact Nat.Coprime.dvd_of_dvd_mul_right co.symm (hb.dv _ e2)
  exact Nat.Coprime.mul_dvd_of_dvd_of_dvd co d1 d2
end Num
namespace Num
def Nm (q:Nat):Prop:=2<=q/\∀ d,2<=d->d<q->¬d∣q
theorem vA {m:Nat} (h:2<=m):∃ q,Nm q/\q∣m:=by
 obtain⟨q,⟨q2,qm⟩,no⟩:=dW (P:=λd=>2<=d/\d∣m) m ⟨h,Nat.dvd_refl m⟩
 exact⟨q,⟨q2,λd d2 dq hd=>no d dq ⟨d2,Nat.dvd_trans hd qm⟩⟩,qm⟩
theorem Nm.co {q m:Nat} (h:Nm q) (hm:¬q∣m):Nat.Coprime q m:=by
 have hg:=Nat.gcd_dvd_left q m
 have g0:0<Nat.gcd q m:=Nat.gcd_pos_of_pos_left m (by have:=h.1;omega)
 have gl:=Nat.le_of_dvd (by have:=h.1;omega) hg
 rcases (by omega:Nat.gcd q m=1∨(2<=Nat.gcd q m/\Nat.gcd q m<q)∨Nat.gcd q m=q) with z | ⟨z1,z2⟩ | z
 ·exact z
 ·exact absurd hg (h.2 _ z1 z2)
 ·exact absurd (z▸Nat.gcd_dvd_right q m) hm
theorem sk {q:Nat} (hq:2<=q):∀ m:Nat,0<m->∃ k m',m=q^k*m'/\¬q∣m':=by
 intro m
 induction m using Nat.strongRecOn with
 | ind m ih =>
  intro hm
  by_cases c:q∣m
  ·obtain⟨t,ht⟩:=c
   have t0:0<t:=by
    rcases Nat.eq_zero_or_pos t with z | z
    ·subst z;omega
    ·exact z
   have tm:t<m:=by
    rw [ht]
    have:=Nat.mul_le_mul_right t hq
    omega
   obtain⟨k,m',e,hn⟩:=ih t tm t0
   exact⟨k+1,m',by rw [ht,e,Nat.pow_succ,Nat.mul_comm (q^k) q,Nat.mul_assoc],hn⟩
  ·exact⟨0,m,by simp,c⟩
theorem oI {q:Nat} (h:Nm q):∀(k d:Nat),d∣q^(k+1)->¬d∣q^k->d=q^(k+1):=by
 intro k
 induction k with
 | zero =>
  intro d h1 h2
  rw [Nat.zero_add,Nat.pow_one] at h1 ⊢
  rw [Nat.pow_zero] at h2
  have q2:=h.1
  have d0:0<d:=Nat.pos_of_dvd_of_pos h1 (by omega)
  have dl:=Nat.le_of_dvd (by omega) h1
  rcases (by omega:d=1∨(2<=d/\d<q)∨d=q) with z | ⟨z1,z2⟩ | z
  ·exact absurd (z▸Nat.dvd_refl 1) h2
  ·exact absurd h1 (h.2 d z1 z2)
  ·exact z
 | succ k ih =>
  intro d h1 h2
  by_cases c:q∣d
  ·obtain⟨t,ht⟩:=c
   have q0:0<q:=by have:=h.1;omega
   rw [ht,Nat.pow_succ,Nat.mul_comm (q^(k+1)) q] at h1
   rw [ht,Nat.pow_succ,Nat.mul_comm (q^k) q] at h2
   have e1:=Nat.dvd_of_mul_dvd_mul_left q0 h1
   have e2:¬t∣q^k:=λz=>h2 (Nat.mul_dvd_mul_left q z)
   rw [ht,ih t e1 e2,Nat.pow_succ q (k+1),Nat.mul_comm]
  ·have co:Nat.Coprime (q^(k+1+1)) d:=Nat.Coprime.pow_left _ (h.co c)
   have:d∣1:=by
    have:=Nat.dvd_gcd h1 (Nat.dvd_refl d)
    rwa [co] at this
   exact absurd (Nat.dvd_trans this (Nat.one_dvd _)) h2
section
variable {p:Int} {L:Nat}
structure Ex (p:Int) (L:Nat):Prop where
 pos:0<L
 all:∀ a:Int,¬p∣a->Al p (a^L) 1
 no:∀ j,0<j->j<L->∃ a:Int,¬p∣a/\¬Al p (a^j) 1
theorem Pm.unit {p a:Int} (hp:Pm p) (c:Co a p):¬p∣a:=λh=>by
 obtain⟨u,v,e⟩:=c
 have h1:p∣u*a:=Int.dvd_mul_of_dvd_right h
 have h2:p∣v*p:=⟨v,Int.mul_comm _ _⟩
 have:=Int.dvd_add h1 h2
 rw [e] at this
 have:=Int.le_of_dvd (by decide) this
 have:=hp.two
 omega
theorem vb (hp:Pm p):∃ L,Ex p L:=by
 have h2:=hp.two
 have uni:∀ a:Int,¬p∣a->Al p (a^fact p.toNat) 1:=λa ha=>by
  obtain⟨d,d0,d1,e⟩:=back h2 (hp.co ha)
  obtain⟨t,ht⟩:=lD p.toNat d0 (by omega)
  rw [ht]
  exact aV e
 obtain⟨L,⟨l0,l1⟩,no⟩:=dW (P:=λj=>0<j/\∀ a:Int,¬p∣a->Al p (a^j) 1) (fact p.toNat) ⟨lH _,uni⟩
 refine⟨L,l0,l1,λj j0 jl=>?_⟩
 have:=no j jl
 by_cases z:∃ a:Int,¬p∣a/\¬Al p (a^j) 1
 ·exact z
 ·exact absurd ⟨j0,λa ha=>Classical.byContradiction λw=>z ⟨a,ha,w⟩⟩ this
theorem me (hp:Pm p) (h:Ex p L):∀ m:Nat,0<m->m∣L->∃ x:Int,Co x p/\Ord p x m:=by
 intro m
 induction m using Nat.strongRecOn with
 | ind m ih =>
  intro hm hd
  by_cases c:m=1
  ·subst c
   exact⟨1,⟨1,0,by omega⟩,by decide,by rw [Int.pow_succ,Int.pow_zero];exact Al.refl _ _,λj _=>Nat.one_dvd j⟩
  ·obtain⟨q,hq,qm⟩:=vA (show 2<=m by omega)
   obtain⟨k,m',e,hn⟩:=sk hq.1 m hm
   have q0:0<q:=by have:=hq.1;omega
   obtain⟨k',rfl⟩:∃ k',k=k'+1:=by
    cases k with
    | zero=>rw [Nat.pow_zero,Nat.one_mul] at e;exact absurd (e▸qm) hn
    | succ k'=>exact⟨k',rfl⟩
   have m0:0<m':=by
    rcases Nat.eq_zero_or_pos m' with z | z
    ·rw [z,Nat.mul_zero] at e;omega
    ·exact z
   have qk:2<=q^(k'+1):=by
    rw [Nat.pow_succ]
    have:=Nat.mul_le_mul (Nat.pow_pos (n:=k') q0) hq.1
    omega
   have mm:m'<m:=by
    rw [e]
    have:=Nat.mul_le_mul_right m' qk
    omega
   obtain⟨y,cy,oy⟩:=ih m' mm m0 (Nat.dvd_trans ⟨q^(k'+1),by rw [e,Nat.mul_comm]⟩ hd)
   have dq:q^(k'+1)∣L:=Nat.dvd_trans ⟨m',e⟩ hd
   obtain⟨T,hT⟩:=dq
   have T0:0<T:=by
    rcases Nat.eq_zero_or_pos T with z | z
    ·rw [z,Nat.mul_zero] at hT;have:=h.pos;omega
    ·exact z
   have eL:L=q*(q^k'*T):=by rw [hT,Nat.pow_succ,Nat.mul_comm (q^k') q,Nat.mul_assoc]
   have jp:0<q^k'*T:=Nat.mul_pos (Nat.pow_pos q0) T0
   have jl:q^k'*T<L:=by
    rw [eL]
    have:=Nat.mul_le_mul_right (q^k'*T) hq.1
    omega
   obtain⟨a,ha,hna⟩:=h.no _ jp jl
   have ca:=hp.co ha
   have z1:Al p ((a^T)^(q^(k'+1))) 1:=by
    rw [<- Pw.pow_mul,Nat.mul_comm,<- hT]
    exact h.all a ha
   have z2:¬Al p ((a^T)^(q^k')) 1:=by
    rw [<- Pw.pow_mul,Nat.mul_comm]
    exact hna
   obtain⟨d,od,_⟩:=kJ (Nat.pow_pos q0) z1
   have d1:=od.dv _ z1
   have d2:¬d∣q^k':=λw=>z2 (by obtain⟨t,ht⟩:=w;rw [ht];exact aV od.one)
   have ed:=oI hq k' d d1 d2
   subst ed
   refine⟨a^T*y,(ca.pow T).mul cy,?_⟩
   rw [e]
   exact od.mul oy (ca.pow T) cy (Nat.Coprime.pow_left _ (hq.co hn))
theorem vc (hp:Pm p) (h:Ex p L):(L:Int)=p-1:=by
 have h2:=hp.two
 have h1:=sZ hp h.pos h.all
 obtain⟨g,cg,og⟩:=me hp h L h.pos (Nat.dvd_refl L)
 have nd:=jT (f:=λi=>(g^i%p).toNat-1) (n:=L) λi j ij jn e=>by
  have r1:∀ k:Nat,1<=(g^k%p).toNat:=λk=>by
   have a1:=Int.emod_nonneg (g^k) (show p≠0 by omega)
   have:g^k%p≠0:=λz=>hp.unit (cg.pow k) (Int.dvd_of_emod_eq_zero z)
   omega
  have e':(g^i%p).toNat=(g^j%p).toNat:=by
   have:=r1 i
   have:=r1 j
   have e:(g^i%p).toNat-1=(g^j%p).toNat-1:=e
   omega
  have:=og.inj cg (by omega) jn (rest_eq (by omega) e')
  omega
 have:=rK (p-1).toNat _ nd λx hx=>by
  obtain⟨i,_,rfl⟩:=List.mem_map.mp hx
  have a1:=Int.emod_nonneg (g^i) (show p≠0 by omega)
  have a2:=Int.emod_lt_of_pos (g^i) (show 0<p by omega)
  have:g^i%p≠0:=λz=>hp.unit (cg.pow i) (Int.dvd_of_emod_eq_zero z)
  show (g^i%p).toNat-1<(p-1).toNat
  omega
 rw [List.length_map,List.length_range] at this
 omega
theorem m7 (hp:Pm p) {a:Int} (ha:¬p∣a):Al p (a^(p-1).toNat) 1:=by
 obtain⟨L,h⟩:=vb hp
 have:=vc hp h
 rw [show (p-1).toNat=L by omega]
 exact h.all a ha
theorem mZ (hp:Pm p) {m:Nat} (h0:0<m) (hd:m∣(p-1).toNat):∃ x:Int,1<=x/\x<p/\Ord p x m:=by
 obtain⟨L,h⟩:=vb hp
 have:=vc hp h
 have h2:=hp.two
 obtain⟨x,cx,ox⟩:=me hp h m h0 (by rwa [show (p-1).toNat=L by omega] at hd)
 have a1:=Int.emod_nonneg x (show p≠0 by omega)
 have a2:=Int.emod_lt_of_pos x (show 0<p by omega)
 have a3:x%p≠0:=λz=>hp.unit cx (Int.dvd_of_emod_eq_zero z)
 refine⟨x%p,by omega,a2,ox.pos,((Al.rest p x).pow m).trans ox.one,λj hj=>ox.dv j (((Al.rest p x).pow j).symm.trans hj)⟩
theorem tJ (hp:Pm p):∃ g:Int,1<=g/\g<p/\Ord p g (p-1).toNat:=mZ hp (by have:=hp.two;omega) (Nat.dvd_refl _)
end
end Num
namespace Num
theorem Co.wC {n a:Int} {m:Nat} (h:Al n (a^(m+1)) 1):Co a n:=by
 obtain⟨c,hc⟩:=h
 refine⟨a^m,-c,?_⟩
 rw [Int.pow_succ] at hc
 rw [Int.neg_mul,Int.mul_comm c n]
 omega
theorem nJ {n a:Int} {e:Nat} (h0:0<e) (h1:Al n (a^e) 1) (no:∀ q,Nm q->q∣e->¬Al n (a^(e/q)) 1):Ord n a e:=by
 obtain⟨m,om,_⟩:=kJ h0 h1
 have d:=om.dv _ h1
 by_cases z:m=e
 ·subst z;exact om
 ·exfalso
  obtain⟨t,ht⟩:=d
  have t2:2<=t:=by
   rcases (by omega:t=0∨t=1∨2<=t) with w | w | w
   ·rw [w] at ht;omega
   ·rw [w,Nat.mul_one] at ht;exact absurd ht.symm z
   ·exact w
  obtain⟨q,hq,r,hr⟩:=vA t2
  have q0:0<q:=by have:=hq.1;omega
  have e1:e=q*(m*r):=by rw [ht,hr,<- Nat.mul_assoc,Nat.mul_comm m q,Nat.mul_assoc]
  refine no q hq ⟨m*r,e1⟩ ?_
  rw [e1,Nat.mul_div_cancel_left _ q0]
  exact aV om.one
theorem Ord.zR {n a:Int} {e:Nat} (h:Ord n a e) {q:Nat} (hq:Nm q) (hd:q∣e):¬Al n (a^(e/q)) 1:=λz=>by
 have q0:0<q:=by have:=hq.1;omega
 obtain⟨r,hr⟩:=hd
 rw [hr,Nat.mul_div_cancel_left _ q0] at z
 have d:=h.dv _ z
 have r0:0<r:=by
  rcases Nat.eq_zero_or_pos r with w | w
  ·rw [w,Nat.mul_zero] at hr;have:=h.pos;omega
  ·exact w
 have:=Nat.le_of_dvd r0 d
 have:=Nat.mul_le_mul_right r hq.1
 omega
end Num
namespace Num
theorem rM {n r:Int} (h:Ld.eK n r):Pm r:=⟨h.two,λd d2 dr hd=>h.no d d2 dr (Int.dvd_trans hd h.dv)⟩
def bf:List (Int × Int)->Int
 | []=>1
 | p::r=>p.1^p.2.toNat*bf r
theorem iX:∀(ps:List (Int × Int)) (p:Int × Int),bf (ps++[p])=bf ps*p.1^p.2.toNat
 | [],p=>by show p.1^_*1=1*_;omega
 | q::r,p=>by
  show q.1^q.2.toNat*bf (r++[p])=q.1^q.2.toNat*bf r*_
  rw [iX r p,Int.mul_assoc]
structure Part (n:Int) (ps:List (Int × Int)):Prop where
 ok:∀ p∈ps,Pm p.1/\1<=p.2/\p.2<=30
 rise:ps.Pairwise λa b=>a.1<b.1
 prod:bf ps=n
theorem bB {q:Int} (h:0<q):∀ k:Nat,0<q^k
 | 0=>by rw [Int.pow_zero];decide
 | k+1=>by rw [Int.pow_succ];exact Int.mul_pos (bB h k) h
theorem two_pow_le {q:Int} (h:2<=q):∀ k:Nat,(2:Int)^k<=q^k
 | 0=>by rw [Int.pow_zero,Int.pow_zero];exact Int.le_refl _
 | k+1=>by
  rw [Int.pow_succ,Int.pow_succ]
  exact Int.mul_le_mul (two_pow_le h k) h (by decide) (Int.le_of_lt (bB (by omega) k))
theorem two_le:∀{k:Nat},(2:Int)^k<=10^9->k<=29:=by
 intro k h
 by_cases c:k<=29
 ·exact c
 ·exfalso
  have e:k=30+(k-30):=by omega
  rw [e,Pw.pow_add] at h
  have:=bB (show (0:Int)<2 by decide) (k-30)
  have h2:=Int.mul_le_mul_of_nonneg_left (show (1:Int)<=2^(k-30) by omega) (show (0:Int)<=2^30 by decide)
  have:(2:Int)^30=1073741824:=by decide
  omega
structure Way (n:Int) (ps:List (Int × Int)) (left prime:Int):Prop where
 ok:∀ p∈ps,Pm p.1/\1<=p.2/\p.2<=30
 rise:ps.Pairwise λa b=>a.1<b.1
 prod:bf ps*left=n
 pos:1<=left
 inv:Ld.Inv left prime
 le:∀ p∈ps,p.1<=prime
 gone:ps=[]∨¬prime∣left
 two:(2:Int)^ps.length*left<=n
theorem Way.start {n:Int} (h:1<=n):Way n [] n 2:=⟨λ_ z=>by simp at z,List.Pairwise.nil,by show 1*n=n;omega,h,⟨by decide,.inl rfl,λd d0 d1=>by omega⟩,λ_ z=>by simp at z,.inl rfl,by rw [List.length_nil,Int.pow_zero];omega⟩
theorem Way.step {n left prime r left':Int} {ps:List (Int × Int)} {k:Nat} (w:Way n ps left prime) (hn:n<=10^9) (hl:1<left) (h:Ld.eK left r) (e:left=r^k*left') (l0:1<=left') (hk:1<=k) (hg:¬r∣left'):Way n (ps++[(r,(k:Int))]) left' r:=by
 have r2:=h.two
 have pm:=rM h
 have rp:prime<=r:=by
  rcases (by omega:prime<=r∨r<prime) with z | z
  ·exact z
  ·exact absurd h.dv (w.inv.no r r2 z)
 have rk:=bB (show 0<r by omega) k
 have k2:=two_pow_le r2 k
 have kl:(2:Int)^k<=left:=by
  have:=Int.mul_le_mul k2 l0 (by decide) (Int.le_of_lt rk)
  rw [Int.mul_one] at this
  omega
 have ln:left<=n:=by
  have z:=w.two
  have p0:=bB (show (0:Int)<2 by decide) ps.length
  have:=Int.mul_le_mul_of_nonneg_right (show (1:Int)<=2^ps.length by omega) (show 0<=left by omega)
  omega
 have k29:=two_le (k:=k) (by omega)
 refine⟨λp hp=>?_,?_,?_,l0,?_,λp hp=>?_,.inr hg,?_⟩
 ·rcases List.mem_append.mp hp with z | z
  ·exact w.ok p z
  ·rw [List.mem_singleton.mp z]
   exact⟨pm,by show (1:Int)<=k;omega,by show (k:Int)<=30;omega⟩
 ·refine List.pairwise_append.mpr ⟨w.rise,List.pairwise_singleton _ _,λa ha b hb=>?_⟩
  rw [List.mem_singleton.mp hb]
  show a.1<r
  have:=w.le a ha
  rcases w.gone with z | z
  ·rw [z] at ha;simp at ha
  ·have:prime≠r:=λy=>z (y▸h.dv)
   omega
 ·rw [iX,<- w.prod,e]
  show bf ps*r^((k:Int).toNat)*left'=_
  rw [Int.toNat_natCast,Int.mul_assoc]
 ·refine⟨r2,?_,λd d0 d1 hd=>h.no d d0 d1 (by rw [e];exact Int.dvd_mul_of_dvd_right hd)⟩
  rcases (by omega:r=2∨2<r) with z | z
  ·exact .inl z
  ·refine .inr ?_
   rcases (by omega:r%2=1∨r%2=0) with y | y
   ·exact y
   ·exact absurd (Int.dvd_of_emod_eq_zero y) (pm.no 2 (by decide) z)
 ·rcases List.mem_append.mp hp with z | z
  ·have:=w.le p z;omega
  ·rw [List.mem_singleton.mp z];exact Int.le_refl _
 ·rw [List.length_append,List.length_singleton,Pw.pow_add,Int.pow_succ,Int.pow_zero,Int.one_mul,Int.mul_assoc]
  refine Int.le_trans (Int.mul_le_mul_of_nonneg_left ?_ (Int.le_of_lt (bB (by decide) _))) w.two
  rw [e]
  obtain⟨k',rfl⟩:∃ k',k=k'+1:=⟨k-1,by omega⟩
  have p0:=bB (show 0<r by omega) k'
  have h1:r<=r^(k'+1):=by
   rw [Int.pow_succ]
   have:=Int.mul_le_mul_of_nonneg_right (show 1<=r^k' by omega) (show 0<=r by omega)
   omega
  exact Int.mul_le_mul_of_nonneg_right (show 2<=r^(k'+1) by omega) (show 0<=left' by omega)
theorem Way.done {n prime:Int} {ps:List (Int × Int)} (w:Way n ps 1 prime):Part n ps:=⟨w.ok,w.rise,by have:=w.prod;omega⟩
theorem Way.len {n left prime:Int} {ps:List (Int × Int)} (w:Way n ps left prime) (hn:n<=10^9):ps.length<=29:=by
 refine two_le ?_
 have z:=w.two
 have p0:=bB (show (0:Int)<2 by decide) ps.length
 have:=Int.mul_le_mul_of_nonneg_left w.pos (Int.le_of_lt p0)
 omega
end Num
namespace Num
open PySem
theorem bP:∀{ps:List (Int × Int)} {p:Int × Int},p∈ps->1<=p.2->p.1∣bf ps
 | a::r,p,h,hk=>by
  rcases List.mem_cons.mp h with z | z
  ·subst z
   obtain⟨k,hk'⟩:∃ k,p.2.toNat=k+1:=⟨p.2.toNat-1,by omega⟩
   show p.1∣p.1^p.2.toNat*bf r
   rw [hk',Int.pow_succ]
   exact Int.dvd_mul_of_dvd_left ⟨p.1^k,Int.mul_comm _ _⟩
  ·exact Int.dvd_mul_of_dvd_right (bP z hk)
theorem rN {q:Nat} (h:Nm q):Pm (q:Int):=⟨by have:=h.1;omega,λd d2 dq hd=>h.2 d.toNat (by omega) (by omega) (by
 obtain⟨c,hc⟩:=hd
 have:(d.toNat:Int)=d:=by omega
 exact Int.natCast_dvd_natCast.mp (by rw [this];exact⟨c,hc⟩))⟩
theorem lR {p:Int} (h:Pm p):Nm p.toNat:=⟨by have:=h.two;omega,λd d2 dp hd=>h.no d (by omega) (by omega) (by
 have:=Int.natCast_dvd_natCast.mpr hd
 rwa [show (p.toNat:Int)=p by have:=h.two;omega] at this)⟩
theorem nN {p q:Int} (hp:Pm p) (hq:Pm q):∀ k:Nat,q∣p^k->q=p
 | 0,h=>by
  rw [Int.pow_zero] at h
  have:=Int.le_of_dvd (by decide) h
  have:=hq.two
  omega
 | k+1,h=>by
  rw [Int.pow_succ] at h
  by_cases c:q∣p^k
  ·exact nN hp hq k c
  ·have d:=hq.or h c
   have l:=Int.le_of_dvd (by have:=hp.two;omega) d
   rcases (by omega:q<p∨q=p) with z | z
   ·exact absurd d (hp.no q hq.two z)
   ·exact z
theorem bR {q:Int} (hq:Pm q):∀{ps:List (Int × Int)},(∀ p∈ps,Pm p.1)->q∣bf ps->∃ p∈ps,p.1=q
 | [],_,h=>by
  have:=Int.le_of_dvd (by decide) (show q∣1 from h)
  have:=hq.two
  omega
 | a::r,hp,h=>by
  by_cases c:q∣a.1^a.2.toNat
  ·exact⟨a,by simp,(nN (hp a (by simp)) hq _ c).symm⟩
  ·obtain⟨p,h1,h2⟩:=bR hq (λp z=>hp p (List.mem_cons_of_mem _ z)) (hq.or h c)
   exact⟨p,List.mem_cons_of_mem _ h1,h2⟩
theorem rE {n a e:Int} {ps:List (Int × Int)} (h:Part e ps) (he:1<=e):(Al n (a^e.toNat) 1/\∀ q∈ps.map (·.1),¬Al n (a^(e/q).toNat) 1)↔Ord n a e.toNat:=by
 constructor
 ·rintro⟨h1,h2⟩
  refine nJ (by omega) h1 λq hq hd=>?_
  have hd':(q:Int)∣e:=by
   have:=Int.natCast_dvd_natCast.mpr hd
   rwa [show (e.toNat:Int)=e by omega] at this
  obtain⟨p,hp,ep⟩:=bR (rN hq) (λp z=>(h.ok p z).1) (by rw [h.prod];exact hd')
  have:=h2 q (List.mem_map.mpr ⟨p,hp,ep⟩)
  rwa [show (e/(q:Int)).toNat=e.toNat/q by
   have:e/(q:Int)=((e.toNat/q:Nat):Int):=by rw [Int.natCast_ediv];congr 1;omega
   rw [this,Int.toNat_natCast]] at this
 ·intro h1
  refine⟨h1.one,λq hq=>?_⟩
  obtain⟨p,hp,rfl⟩:=List.mem_map.mp hq
  obtain⟨o1,o2,_⟩:=h.ok p hp
  have d:p.1∣e:=by rw [<- h.prod];exact bP hp o2
  have t:=o1.two
  have:=h1.zR (lR o1) (by
   have:(p.1.toNat:Int)∣(e.toNat:Int):=by rw [show (p.1.toNat:Int)=p.1 by omega,show (e.toNat:Int)=e by omega];exact d
   exact Int.natCast_dvd_natCast.mp this)
  rwa [show e.toNat/p.1.toNat=(e/p.1).toNat by
   have:e/p.1=((e.toNat/p.1.toNat:Nat):Int):=by rw [Int.natCast_ediv];congr 1<;>omega
   rw [this,Int.toNat_natCast]] at this
structure LF (p g:Int):Prop where
 one:1<=g
 lt:g<p
 ord:Ord p g (p-1).toNat
 no:∀ a:Int,1<=a->a<g->¬Ord p a (p-1).toNat
def rowsOf (ps:List (Int × Int)) (ds:Nat->PyData):List PyData:=(List.range ps.length).map λi=>.tuple [ds i,.int (ps.getD i (0,0)).2]
theorem bU {ps:List (Int × Int)} {ds:Nat->PyData}:(rowsOf ps ds).length=ps.length:=by unfold rowsOf;rw [List.length_map,List.length_range]
theorem i5 {ps:List (Int × Int)} {ds:Nat->PyData} {i:Nat} {p:Int × Int} (h:ps[i]?=some p):(rowsOf ps ds)[i]?=some (.tuple [ds i,.int p.2]):=by
 have hi:=(List.getElem?_eq_some_iff.mp h).1
 unfold rowsOf
 rw [List.getElem?_map,List.getElem?_range hi]
 show some (PyData.tuple [ds i,.int (ps.getD i (0,0)).2])=_
 rw [List.getD_eq_getElem?_getD,h]
 rfl
inductive fN:Int->PyData->Prop
 | mk (p g:Int) (ps:List (Int × Int)) (ds:Nat->PyData):Pm p->p<=10^9->LF p g->Part (p-1) ps->ps.length<=29->(∀ i q k,ps[i]?=some (q,k)->fN q (ds i))->fN p (.tuple [.int p,.int g,.tuple (rowsOf ps ds)])
theorem fN.head {p:Int} {d:PyData} (h:fN p d):∃ g rows,d=.tuple [.int p,.int g,.tuple rows]:=by
 cases h
 exact⟨_,_,rfl⟩
def Ht:Nat->Int->Prop
 | 0,_=>False
 | L+1,n=>∀ q:Int,Pm q->q∣n-1->Ht L q
theorem vf:∀(L:Nat) (n:Int),Pm n->n<2^(L+2)->Ht (L+2) n
 | 0,n,h,hn=>by
  have h2:=h.two
  have hn':n<4:=hn
  intro q hq hd
  intro q' hq' hd'
  have q2:=hq.two
  have l:=Int.le_of_dvd (by rcases (by omega:n=2∨n=3) with z | z;exfalso;rw [z] at hd;have:=Int.le_of_dvd (by decide) hd;omega;omega) hd
  have qq:q=2:=by omega
  rw [qq] at hd'
  have:=Int.le_of_dvd (by decide) hd'
  have:=hq'.two
  omega
 | L+1,n,h,hn=>by
  intro q hq hd
  have q2:=hq.two
  have h2:=h.two
  refine vf L q hq ?_
  have e:(2:Int)^(L+1+2)=2^(L+2)*2:=by rw [<- Int.pow_succ]
  rw [e] at hn
  have four:(4:Int)<=2^(L+2):=by
   have:=bB (show (0:Int)<2 by decide) L
   have e4:(2:Int)^(L+2)=2^L*4:=by rw [Pw.pow_add];rfl
   omega
  obtain⟨c,hc⟩:=hd
  rcases (by omega:n<=3∨3<n) with z | z
  ·have:q<=n-1:=Int.le_of_dvd (by
    rcases (by omega:n=2∨n=3) with y | y
    ·exfalso
     rw [y] at hc
     have:=Int.le_of_dvd (by decide) (show q∣1 from ⟨c,hc⟩)
     omega
    ·omega) ⟨c,hc⟩
   omega
  ·rcases (by omega:n%2=0∨n%2=1) with y | y
   ·exact absurd (Int.dvd_of_emod_eq_zero y) (h.no 2 (by decide) (by omega))
   ·rcases (by omega:q=2∨2<q) with x | x
    ·omega
    ·have qo:q%2=1:=by
      rcases (by omega:q%2=1∨q%2=0) with w | w
      ·exact w
      ·exact absurd (Int.dvd_of_emod_eq_zero w) (hq.no 2 (by decide) x)
     have ce:c%2=0:=by
      rcases (by omega:c%2=0∨c%2=1) with w | w
      ·exact w
      ·exfalso
       have:(q*c)%2=1:=by rw [Int.mul_emod,qo,w];rfl
       omega
     have c2:2<=c:=by
      rcases (by omega:c<=0∨2<=c) with w | w
      ·have:=Int.mul_nonpos_of_nonneg_of_nonpos (show 0<=q by omega) w
       omega
      ·exact w
     have:=Int.mul_le_mul_of_nonneg_left c2 (show 0<=q by omega)
     omega
theorem wg {n:Int} (h:Pm n) (hn:n<=10^9):Ht 30 n:=vf 28 n h (by
 have:(2:Int)^(28+2)=1073741824:=by decide
 omega)
end Num
namespace L2
open PySem PySem.Spec PyProof.Rows
def Am:PyData->String
 | .none => "NoneType"
 | .bool _ => "bool"
 | .int _ => "int"
 | .str _ => "str"
 | .list _ => "list"
 | .tuple _ => "tuple"
 | .dict _ => "dict"
def lL:PyData->Bool
 | .int _=>true
 | _=>false
def tP:PyData->Bool
 | .bool _=>true
 | _=>false
def xZ:PyData->Bool
 | .tuple _=>true
 | _=>false
def yQ:PyData->Bool
 | .list _=>true
 | _=>false
section
variable {X:Cx} {K:PySem.W.Frag}
def i3 (K:PySem.W.Frag):List V->Hp->VK->Prop:=λxs H Q=>∃ d x n b,xs=[x,.ty n]/\dv K H d x/\PySem.W.kitOne K (.type (Am d)) (.type n)=some b/\Q (.bl b) H
theorem aO:eO X (.builtin "isinstance") (i3 X.K):=by
 intro pins s σ H xs us Q I r h
 obtain⟨d,x,n,b,rfl,hd,ek,q⟩:=h
 obtain⟨u,w',rfl,rx,rc⟩:=vals2 r
 have e:w'=.type n:=rc
 subst e
 have fin:∀ tk,∃ v' H',Inv X pins σ H' { s with toks:=tk }/\RelV v' (.bool b)/\Q v' H':=λtk=>⟨.bl b,H,I.tok _,rfl,q⟩
 cases d with
 | none=>cases hd;exact fj I rx fv.bo ek fin
 | bool y=>cases hd;exact fj I rx (fv.bl _) ek fin
 | int y=>cases hd;exact fj I rx (fv.int _) ek fin
 | str y=>cases hd;exact fj I rx (fv.str _) ek fin
 | list ds =>
  obtain⟨p,ys,rfl,h,t⟩:=hd
  cases rx
  obtain⟨its,rr,pl,_⟩:=I.list h
  obtain⟨o,h1,h2,_⟩:=pl.isList
  exact PySem.W.kia_one PySem.W.kitx_list I.fY ⟨o,h1,h2⟩ ek (λz=>nomatch z) fin
 | tuple ds =>
  obtain⟨p,ys,rfl,h,t⟩:=hd
  cases rx
  obtain⟨its,rr,pl,_⟩:=I.tuple h
  obtain⟨o,h1,h2,_⟩:=pl
  exact PySem.W.kia_one PySem.W.kitx_tuple I.fY ⟨o,h1,h2⟩ ek (λz=>nomatch z) fin
 | dict _=>exact hd.elim
theorem tR {H:Hp} {d:PyData} {x:V} {Q:VK} (h:dv K H d x) (q:Q (.bl (lL d || tP d)) H):i3 K [x,.ty "int"] H Q:=by
 refine⟨d,x,"int",_,rfl,h,?_,q⟩
 cases d<;>first | exact h.elim | with_unfolding_all rfl
theorem iM {H:Hp} {d:PyData} {x:V} {Q:VK} (h:dv K H d x) (q:Q (.bl (tP d)) H):i3 K [x,.ty "bool"] H Q:=by
 refine⟨d,x,"bool",_,rfl,h,?_,q⟩
 cases d<;>first | exact h.elim | with_unfolding_all rfl
theorem bp {H:Hp} {d:PyData} {x:V} {Q:VK} (h:dv K H d x) (q:Q (.bl (xZ d)) H):i3 K [x,.ty "tuple"] H Q:=by
 refine⟨d,x,"tuple",_,rfl,h,?_,q⟩
 cases d<;>first | exact h.elim | with_unfolding_all rfl
theorem bN {H:Hp} {d:PyData} {x:V} {Q:VK} (h:dv K H d x) (q:Q (.bl (yQ d)) H):i3 K [x,.ty "list"] H Q:=by
 refine⟨d,x,"list",_,rfl,h,?_,q⟩
 cases d<;>first | exact h.elim | with_unfolding_all rfl
end
def xU (i:Int) (n:Nat):List V:=(List.range n).map fun(k:Nat)=>V.int (i+(k:Int))
def Aj (ta:TA):TE:=λσ H Q=>ta σ H λvs H1=>∃ i j:Int,vs=[.int i,.int j]/\(-(2^62)<=i/\i<2^62 /\ -(2^62)<=j/\j<2^62)/\j-i<=10^6/\∀ l,H1 l=none->Q (.ref l) (upd H1 l (.lst (xU i (j-i).toNat)))
variable {X:Cx}
section
variable {X:Cx} {K:PySem.W.Frag}
end
section
variable {κ:Type} [DecidableEq κ]
def gE (kvs:List (κ × V)) (k:κ):Option V:=(kvs.find? λkv=>decide (kv.1=k)).map (·.2)
def putK (kvs:List (κ × V)) (k:κ) (v:V):List (κ × V) :=
 if (kvs.any λkv=>decide (kv.1=k))=true then kvs.map (λkv=>if kv.1=k then (kv.1,v) else kv) else kvs++[(k,v)]
def xR (kvs:List (κ × V)) (k:κ):List (κ × V):=kvs.filter λkv=>decide (kv.1≠k)
theorem jq {p:κ × V} {r:List (κ × V)} {k:κ} (e:p.1=k):gE (p::r) k=some p.2:=by simp [gE,List.find?_cons,e]
theorem jo {p:κ × V} {r:List (κ × V)} {k:κ} (e:¬p.1=k):gE (p::r) k=gE r k:=by simp [gE,List.find?_cons,e]
theorem mJ (k:κ):∀ kvs:List (κ × V),(kvs.any λkv=>decide (kv.1=k))=(gE kvs k).isSome
 | []=>rfl
 | p::r=>by
  rw [List.any_cons]
  by_cases e:p.1=k
  ·simp only [jq e,decide_eq_true e,Bool.true_or,Option.isSome_some]
  ·rw [jo e,decide_eq_false e,Bool.false_or];exact mJ k r
theorem eS (kvs:List (κ × V)) (k:κ) (v:V):(putK kvs k v).length<=kvs.length+1:=by
 unfold putK
 split
 ·rw [List.length_map];omega
 ·rw [List.length_append,List.length_cons,List.length_nil];omega
theorem fO.pL {o:Option V} {u:Option Value} (r:fO o u):o.isSome=u.isSome:=by
 cases o with
 | none=>cases u with
  | none=>rfl
  | some _=>exact (show False from r).elim
 | some _=>cases u with
  | none=>exact (show False from r).elim
  | some _=>rfl
theorem fO.getD {o:Option V} {u:Option Value} {d:V} {d':Value} (r:fO o u) (rd:RelV d d'):RelV (o.getD d) (u.getD d'):=by
 cases o with
 | none=>cases u with
  | none=>exact rd
  | some _=>exact (show False from r).elim
 | some _=>cases u with
  | none=>exact (show False from r).elim
  | some _=>exact r
theorem KV.val {kvs:List (κ × V)} {vs:List (κ × Value)} (r:KV kvs vs) (k:κ):fO (gE kvs k) (valueAt vs k):=by
 unfold KV at r
 induction r with
 | nil=>exact True.intro
 | @cons p q ps qs h t ih =>
  obtain⟨h1,h2⟩:=h
  by_cases e:p.1=k
  ·have e':q.1=k:=h1.symm.trans e
   have b:valueAt (q::qs) k=some q.2:=by simp [valueAt,List.find?_cons,e']
   rw [jq e,b];exact h2
  ·have e':¬q.1=k:=λz=>e (h1.trans z)
   have b:valueAt (q::qs) k=valueAt qs k:=by simp [valueAt,List.find?_cons,e']
   rw [jo e,b];exact ih
theorem KV.any {kvs:List (κ × V)} {vs:List (κ × Value)} (r:KV kvs vs) (k:κ):(kvs.any λkv=>decide (kv.1=k))=vs.any λkv=>decide (kv.1=k):=by
 unfold KV at r
 induction r with
 | nil=>rfl
 | cons h t ih=>rw [List.any_cons,List.any_cons,ih,h.1]
theorem KV.xb {kvs:List (κ × V)} {vs:List (κ × Value)} (r:KV kvs vs) (k:κ) {y:V} {u:Value} (ry:RelV y u) :
  KV (kvs.map λkv=>if kv.1=k then (kv.1,y) else kv) (vs.map λkv=>if kv.1=k then (kv.1,u) else kv):=by
 unfold KV at r ⊢
 induction r with
 | nil=>exact .nil
 | @cons p q ps qs h t ih =>
  rw [List.map_cons,List.map_cons]
  refine .cons ?_ ih
  obtain⟨h1,h2⟩:=h
  by_cases e:p.1=k
  ·rw [if_pos e,if_pos (h1.symm.trans e)];exact⟨h1,ry⟩
  ·rw [if_neg e,if_neg (λz=>e (h1.trans z))];exact⟨h1,h2⟩
theorem KV.put {kvs:List (κ × V)} {vs:List (κ × Value)} (r:KV kvs vs) (k:κ) {y:V} {u:Value} (ry:RelV y u):KV (putK kvs k y) (stored vs k u):=by
 unfold putK stored
 rw [r.any k]
 by_cases e:(vs.any λkv=>decide (kv.1=k))=true
 ·rw [if_pos e,if_pos e];exact r.xb k ry
 ·rw [if_neg e,if_neg e];exact Paired.snoc r ⟨rfl,ry⟩
theorem KV.keys {kvs:List (κ × V)} {vs:List (κ × Value)} (r:KV kvs vs):kvs.map (·.1)=vs.map (·.1):=by
 unfold KV at r
 induction r with
 | nil=>rfl
 | cons h t ih=>rw [List.map_cons,List.map_cons,ih,h.1]
theorem KV.length {kvs:List (κ × V)} {vs:List (κ × Value)} (r:KV kvs vs):kvs.length=vs.length:=Paired.length r
end
theorem oz {P:Program} {w:World} {k:Key} {u:Value} (r:RelV (kV k) u):(bE P w).is k u=true:=by
 cases k with
 | inl i=>obtain⟨t,e⟩:=(show ∃ t,u=Value.int i t from r);subst e;exact lP P w i t
 | inr x=>obtain⟨t,e⟩:=(show ∃ t,u=Value.str x t from r);subst e;exact lQ P w x t
theorem jO {P:Program} {w:World}:∀{ks:List Key} {us:List Value},Vals (ks.map kV) us->ItemsAre (bE P w) ks us
 | [],_,r=>by rw [List.map_nil] at r;cases r;exact .nil
 | k::ks,_,r=>by
  rw [List.map_cons] at r
  cases r with
  | cons h t=>exact .cons (oz h) (jO t)
abbrev KT (H:Hp):List (List Key × V)->List (List Key × Addr × Value)->Prop:=Paired λp q=>p.1=q.1/\H q.2.1=some (.tup (p.1.map kV))/\RelV p.2 q.2.2
theorem KT.val {H:Hp} {kvs:List (List Key × V)} {xs:List (List Key × Addr × Value)} (r:KT H kvs xs) (k:List Key):fO (gE kvs k) ((atKey xs k).map (·.2)):=by
 induction r with
 | nil=>exact True.intro
 | @cons p q ps qs h t ih =>
  obtain⟨h1,_,h2⟩:=h
  by_cases e:p.1=k
  ·have e':q.1=k:=h1.symm.trans e
   have b:atKey (q::qs) k=some q.2:=by simp [atKey,List.find?_cons,e']
   rw [jq e,b];exact h2
  ·have e':¬q.1=k:=λz=>e (h1.trans z)
   have b:atKey (q::qs) k=atKey qs k:=by simp [atKey,List.find?_cons,e']
   rw [jo e,b];exact ih
theorem KT.xb {H:Hp} {kvs:List (List Key × V)} {xs:List (List Key × Addr × Value)} (r:KT H kvs xs) (k:List Key) {y:V} {u:Value} (ry:RelV y u) :
  KT H (kvs.map λkv=>if kv.1=k then (kv.1,y) else kv) (xs.map (putAt k u)):=by
 induction r with
 | nil=>exact .nil
 | @cons p q ps qs h t ih =>
  rw [List.map_cons,List.map_cons]
  refine .cons ?_ ih
  obtain⟨h1,h2,h3⟩:=h
  unfold putAt
  by_cases e:p.1=k
  ·rw [if_pos e,if_pos (h1.symm.trans e)];exact⟨h1,h2,ry⟩
  ·rw [if_neg e,if_neg (λz=>e (h1.trans z))];exact⟨h1,h2,h3⟩
theorem KT.put {H:Hp} {kvs:List (List Key × V)} {xs:List (List Key × Addr × Value)} (r:KT H kvs xs) (k:List Key) {b:Addr} {y:V} {u:Value} (hb:H b=some (.tup (k.map kV))) (ry:RelV y u) :
  KT H (putK kvs k y) (storedH xs k b u):=by
 have e:(kvs.any λkv=>decide (kv.1=k))=(atKey xs k).isSome:=by
  rw [mJ,(r.val k).pL,Option.isSome_map]
 unfold putK storedH
 rw [e]
 by_cases q:(atKey xs k).isSome=true
 ·rw [if_pos q,if_pos q];exact r.xb k ry
 ·rw [if_neg q,if_neg q];exact Paired.snoc r ⟨rfl,hb,ry⟩
theorem KT.keeps {H H':Hp} {kvs:List (List Key × V)} {xs:List (List Key × Addr × Value)} (r:KT H kvs xs) (ht:∀ b ys,H b=some (.tup ys)->H' b=some (.tup ys)):KT H' kvs xs :=
 Paired.wy r λ_ _ z=>⟨z.1,ht _ _ z.2.1,z.2.2⟩
section
variable {P:Program} {w:World} {H:Hp} {h:Heap} {a:Addr}
theorem vE {u:HO} (ok:eP P w H h) (e:Rd H a u):aZ P w H h a u:=e.ok ok
theorem qQ {kvs:List (Key × V)} (ok:eP P w H h) (e:Rd H a (.dK kvs)):kvs.length<=sizeLine/\(a==sysModules)=false/\∃ vs,KV kvs vs/\h.DictOf (bE P w) a vs :=
 show aZ P w H h a (.dK kvs) from vE ok e
theorem u9 {kvs:List (Key × V)} (ok:eP P w H h) (e:H a=some (.dK kvs)):kvs.length<=sizeLine/\(a==sysModules)=false/\∃ vs,KV kvs vs/\h.DictOf (bE P w) a vs:=qQ ok (.inl e)
theorem nc {ks:List Key} (ok:eP P w H h) (e:H a=some (.tup (ks.map kV))):(tupleKind (bE P w)).is h ks a:=by
 obtain⟨_,its,r,o,h1,h2,n,h3⟩:=(show aZ P w H h a (.tup (ks.map kV)) from ok a _ e)
 exact⟨o,its.toArray,n,h1,h2,h3,by simpa using jO r⟩
theorem qR {kvs:List (List Key × V)} (ok:eP P w H h) (e:Rd H a (.dT kvs)):kvs.length<=sizeLine/\(a==sysModules)=false /\
  ∃ xs,KT H kvs xs/\h.DictOfH (tupleKind (bE P w)) a xs:=by
 obtain⟨z,y,xs,r,o,es,ep,h1,h2,h3,h4,h5⟩:=(show aZ P w H h a (.dT kvs) from vE ok e)
 refine⟨z,y,xs,r,o,es,ep,h1,h2,h3,h4,λx hx=>?_,h5⟩
 have all:∀{l:List (List Key × V)} {m:List (List Key × Addr × Value)},KT H l m->∀ x∈m,(tupleKind (bE P w)).is h x.1 x.2.1:=by
  intro l m q
  induction q with
  | nil=>intro x hx;exact nomatch hx
  | @cons p q ps qs hq t ih =>
   intro x hx
   rcases List.mem_cons.mp hx with e | hx
   ·subst e
    exact nc ok (by rw [<- hq.1];exact hq.2.1)
   ·exact ih x hx
 exact all r x hx
theorem xS {kvs:List (List Key × V)} (ok:eP P w H h) (e:H a=some (.dT kvs)):kvs.length<=sizeLine/\(a==sysModules)=false /\
  ∃ xs,KT H kvs xs/\h.DictOfH (tupleKind (bE P w)) a xs:=qR ok (.inl e)
end
def fI (H:Hp) (a:Addr) (y:V) (r:Option V):Prop :=
 (∃ kvs k,Rd H a (.dK kvs)/\y=kV k/\r=gE kvs k)∨∃ kvs k b,Rd H a (.dT kvs)/\y=.ref b/\H b=some (.tup (k.map kV))/\r=gE kvs k
def ll (H:Hp) (a:Addr) (y v:V) (H':Hp):Prop :=
 (∃ kvs k,H a=some (.dK kvs)/\y=kV k/\kvs.length<sizeLine/\H'=upd H a (.dK (putK kvs k v))) ∨
 ∃ kvs k b,H a=some (.dT kvs)/\y=.ref b/\H b=some (.tup (k.map kV))/\kvs.length<sizeLine/\H'=upd H a (.dT (putK kvs k v))
theorem fI.k {H:Hp} {a:Addr} {kvs:List (Key × V)} {k:Key} (e:H a=some (.dK kvs)):fI H a (kV k) (gE kvs k):=.inl ⟨kvs,k,.inl e,rfl,rfl⟩
theorem fI.t {H:Hp} {a b:Addr} {kvs:List (List Key × V)} {k:List Key} (e:H a=some (.dT kvs)) (eb:H b=some (.tup (k.map kV))):fI H a (.ref b) (gE kvs k):=.inr ⟨kvs,k,b,.inl e,rfl,eb,rfl⟩
theorem ll.k {H:Hp} {a:Addr} {kvs:List (Key × V)} {k:Key} {v:V} (e:H a=some (.dK kvs)) (hl:kvs.length<sizeLine):ll H a (kV k) v (upd H a (.dK (putK kvs k v))):=.inl ⟨kvs,k,e,rfl,hl,rfl⟩
theorem ll.t {H:Hp} {a b:Addr} {kvs:List (List Key × V)} {k:List Key} {v:V} (e:H a=some (.dT kvs)) (eb:H b=some (.tup (k.map kV))) (hl:kvs.length<sizeLine) :
  ll H a (.ref b) v (upd H a (.dT (putK kvs k v))):=.inr ⟨kvs,k,b,e,rfl,eb,hl,rfl⟩
section
variable {X:Cx} {pins:List (Addr × Obj)} {σ:St} {H:Hp} {s:Shared} {a:Addr} {y v:V} {u r:Value} {o:Option V} {A:Around} {E:Value->Shared->Prop}
theorem Inv.big (I:Inv X pins σ H s):sysModules<s.heap.objs.size:=by
 have h:mainGlobals<s.heap.objs.size:=(I.mod.glob.keeps I.bk).lt
 exact Nat.lt_trans (by decide) h
theorem pC {Q:Value->Shared->Prop} (hu:A.units+1<cLine) (I:Inv X pins σ H s) (g:fI H a y (some v)) (ry:RelV y u) (h:∀ w' s',Inv X pins σ H s'->RelV v w'->Q w' s') :
  wpAny (model X.prog X.w) A (getItem (.ref a) u) Q E s:=by
 rcases g with⟨kvs,k,e,ey,l⟩|⟨kvs,k,b,e,ey,eb,l⟩
 ·subst ey
  obtain⟨z,hd,vs,rel,dd⟩:=qQ I.hok e
  obtain⟨w',hw,rw'⟩:=fO.some_of (v:=v) (o:=valueAt vs k) (by rw [l];exact rel.val k)
  exact wpAny_getItem_of (oz ry) dd.mapOf hw (h w' _ (I.tok _) rw')
 ·subst ey
  cases (show u=Value.ref b from ry)
  obtain⟨z,hd,xs,rel,dd⟩:=qR I.hok e
  obtain⟨w',hw,rw'⟩:=fO.some_of (v:=v) (o:=(atKey xs k).map (·.2)) (by rw [l];exact rel.val k)
  obtain⟨p,hp,hp2⟩:=Option.map_eq_some_iff.mp hw
  refine wpAny_getItem_heap (tupleKind_room_in1 hu) (nc I.hok eb) dd hp ?_
  rw [hp2]
  exact h w' _ (I.tok _) rw'
theorem ku {h':Heap} {t':Nat} {ob:HO} (I:Inv X pins σ H s) (mu:xM (H a)) (hs:Heap.SameBut a s.heap h') (he:∃ q,h'.get? a=some q) (new:aZ X.prog X.w (upd H a ob) h' a ob) :
  Inv X pins σ (upd H a ob) { s with heap:=h',toks:=t' } :=
 I.write (x:=a) (e:=a) mu (.inl rfl) (λb q hb z=>(hs.2 b hb).trans z) he new
theorem qP {P:Program} {w:World} {H':Hp} {h':Heap} {kvs:List (Key × V)} {vs:List (Key × Value)} (z:kvs.length<=sizeLine) (hd:(a==sysModules)=false) (rel:KV kvs vs) (dd:h'.DictOf (bE P w) a vs) :
  aZ P w H' h' a (.dK kvs):=⟨z,hd,vs,rel,dd⟩
theorem pE {H':Hp} {Q:Unit->Shared->Prop} (hu:A.units+1<cLine) (I:Inv X pins σ H s) (g:ll H a y v H') (ry:RelV y u) (rv:RelV v r) (h:∀ s',Inv X pins σ H' s'->Q () s') :
  wpAny (model X.prog X.w) A (setItem (.ref a) u r) Q E s:=by
 rcases g with⟨kvs,k,e,ey,l,eH⟩|⟨kvs,k,b,e,ey,eb,l,eH⟩
 ·subst ey eH
  obtain⟨z,hd,vs,rel,dd⟩:=u9 I.hok e
  have hz:vs.length<=sizeLine:=by rw [<- rel.length];exact z
  have hl:(putK kvs k v).length<=sizeLine:=by have:=eS kvs k v;omega
  refine wpAny_setItem_pairs (hsz:=hz) (oz ry) dd λh' dd' hs=>h _ ?_
  have he:∃ q,h'.get? a=some q:=let ⟨q,_,_,hq,_⟩:=dd';⟨q,hq⟩
  exact ku I (by rw [e];exact True.intro) hs he (qP hl hd (rel.put k rv) dd')
 ·subst ey eH
  cases (show u=Value.ref b from ry)
  obtain⟨z,hd,xs,rel,dd⟩:=xS I.hok e
  have hz:xs.length<=sizeLine:=by rw [<- Paired.length rel];exact z
  have hl:(putK kvs k v).length<=sizeLine:=by have:=eS kvs k v;omega
  refine wpAny_setItem_heap (hsz:=hz) (tupleKind_room_in1 hu) (nc I.hok eb) dd λh' dd' hs=>h _ ?_
  obtain⟨q,es,ep,hq,h2,h3,h4,_,h5⟩:=dd'
  refine ku I (by rw [e];exact True.intro) hs ⟨q,hq⟩ ⟨hl,hd,_,(rel.put k eb rv).keeps λc ys ec=>?_,q,es,ep,hq,h2,h3,h4,h5⟩
  rw [au (jS ec e (λz=>nomatch z))]
  exact ec
end
section
variable {X:Cx} {pins:List (Addr × Obj)} {σ:St} {H:Hp} {s:Shared} {a:Addr} {kvs:List (Key × V)} {k:Key} {u:Value} {A:Around} {E:Value->Shared->Prop}
end
def xN (i:Expr):Prop:=∀ ov iv,subscripted i false ov iv=operate [ov,iv] (getItem ov iv)
theorem uP {prog:Program} {w:World} {A:Around} {E:Value->Shared->Prop} {s:Shared} {env:Env} {value slice:Expr} {pos:Pos} {T id:String} {Q:Value->Shared->Prop}
  (hl:typeLookup (.type T) "__getitem__"=pure (some (.builtin id))) (hs:xN slice)
  (h:wpAny (model prog w) A (eval value env) (λo s₁=>wpAny (model prog w) A (eval slice env) (λi s₂=>s₂.TypeIs o T/\wpAny (model prog w) A (getItem o i) Q E s₂) E s₁) E s) :
  wpAny (model prog w) A (eval (.Subscript value slice pos) env) Q E s:=by
 refine Subscript_ (wpAny_mono h (λo s₁ h₁=>wpAny_mono h₁ (λi s₂ h₂=>?_) λ_ _ x=>x) λ_ _ x=>x)
 obtain⟨hT,h₂⟩:=h₂
 unfold subscriptTail
 refine wpAny_bind ?_
 rw [getitemInPython_of_ne hT.not_modules]
 refine wpAny_bind (wpAny_specialOf hT hl ?_)
 have fin:wpAny (model prog w) A (subscripted slice false o i) (λr s₃=>wpAny (model prog w) A (letTemporaryGo value o r >>= λ_=>pure r) Q E s₃) E s₂:=by
  rw [hs o i]
  exact wpAny_operating (wpAny_mono h₂ (λr s₃ h₃=>wpAny_bind (wpAny_letTemporaryGo (wpAny_pure h₃))) λ_ _ x=>x)
 first
  | exact wpAny_pure (wpAny_bind fin)
  | exact wpAny_bind (wpAny_pure (wpAny_bind fin))
  | exact wpAny_bind fin
theorem lC {X:Cx} {pins:List (Addr × Obj)} {σ:St} {H:Hp} {s:Shared} {a:Addr} {y:V} {o:Option V} (I:Inv X pins σ H s) (g:fI H a y o):s.TypeIs (.ref a) "dict":=by
 rcases g with⟨kvs,k,e,_,_⟩|⟨kvs,k,b,e,_,_,_⟩
 ·obtain⟨_,_,vs,_,dd⟩:=qQ I.hok e
  exact dd.typeIs
 ·obtain⟨_,_,xs,_,dd⟩:=qR I.hok e
  exact dd.typeIs
def vL (td ty:TE):TE:=λσ H Q=>td σ H λx H1=>ty σ H1 λy H2=>∃ a v,x=.ref a/\fI H2 a y (some v)/\Q v H2
def zF (ty td:TE):TE:=λσ H Q=>ty σ H λy H1=>td σ H1 λx H2=>∃ a o,x=.ref a/\fI H2 a y o/\Q (.bl o.isSome) H2
def uR (ty td:TE):TE:=λσ H Q=>ty σ H λy H1=>td σ H1 λx H2=>∃ a o,x=.ref a/\fI H2 a y o/\Q (.bl (!o.isSome)) H2
def vF (td ty tv:TE):TS:=λD σ H=>tv σ H λv H1=>td σ H1 λx H2=>ty σ H2 λy H3=>∃ a H4,x=.ref a/\ll H3 a y v H4/\D.nx σ H4
section
variable {X:Cx} {o i e value:Expr} {pos pos' tpos:Pos} {td ty tv:TE}
theorem gf (hu:X.A.units+1<cLine) (ho:PE X o td) (hi:PE X i ty) (hs:xN i):PE X (.Subscript o i pos) (vL td ty):=by
 intro pins s σ H Q I h
 refine uP PySem.F.slot_dict_getitem.lookup hs (bH (ho pins s σ H _ I h) λu s1 ⟨x,H1,I1,rx,q1⟩=>bH (hi pins s1 σ H1 _ I1 q1) λiv s2 ⟨y,H2,I2,ry,a,v,ex,g,q2⟩=>?_)
 subst ex
 obtain rfl:u=Value.ref a:=rx
 exact⟨lC I2 g,pC hu I2 g ry λw' s3 I3 rw'=>⟨v,H2,I3,rw',q2⟩⟩
theorem kP (hu:X.A.units+1<cLine) (ho:PE X o td) (hi:PE X i ty) (hv:PE X value tv) (hs:swapsWith value (some (.Subscript o i pos')) pos.line X.env=pure false) :
  PS X (.Assign [.Subscript o i pos'] value pos) (vF td ty tv):=by
 intro pins s σ H D I h
 refine wpAny_Assign_Subscript (bH (hv pins s σ H _ I h) λr s1 ⟨v,H1,I1,rv,q1⟩=>bH (ho pins s1 σ H1 _ I1 q1) λu s2 ⟨x,H2,I2,rx,q2⟩=>bH (hi pins s2 σ H2 _ I2 q2) λiv s3 ⟨y,H3,I3,ry,a,H4,ex,g,q3⟩=>?_) hs
 subst ex
 obtain rfl:u=Value.ref a:=rx
 exact pE hu I3 g ry rv λs4 I4=>⟨σ,H4,I4,q3⟩
end
theorem qO {P:Program} {w:World} {H:Hp} (h:Heap) (hb:sysModules<h.objs.size):aZ P w H (h.push { cls:=.type "dict",data:=.dict #[] }) h.objs.size (.dK []) :=
 ⟨Nat.zero_le _,beq_eq_false_iff_ne.mpr (Ne.symm (Nat.ne_of_lt hb)),[],.nil,Heap.DictOf.new h⟩
def xq:TE:=λ_ H Q=>∀ p,H p=none->Q (.ref p) (upd H p (.dK []))
def xr:TE:=λ_ H Q=>∀ p,H p=none->Q (.ref p) (upd H p (.dT []))
section
variable {X:Cx} {pos:Pos}
end
def la:List (TE × TE)->St->Hp->(List (V × V)->Hp->Prop)->Prop
 | [],_,H,Q=>Q [] H
 | (tk,tv)::r,σ,H,Q=>tk σ H λx H1=>tv σ H1 λy H2=>la r σ H2 λps H3=>Q ((x,y)::ps) H3
abbrev VV:List (V × V)->List (Value × Value)->Prop:=Paired λp q=>RelV p.1 q.1/\RelV p.2 q.2
def yN (X:Cx) (pos:Pos) (keys:List (Option Expr)) (values:List Expr) (trs:List (TE × TE)):Prop :=
 ∀(pins:List (Addr × Obj)) (s:Shared) (σ:St) (H:Hp) (Q:List (V × V)->Hp->Prop),Inv X pins σ H s->la trs σ H Q ->
  wpAny (model X.prog X.w) X.A (evalPairs (pairTrees keys values X.env pos)) (λvs s'=>∃ ps H',Inv X pins σ H' s'/\VV ps vs/\Q ps H') X.xe s
theorem uy {X:Cx} {pos:Pos}:yN X pos [] [] []:=λpins s σ H Q I h=>pairTrees_nil_walk ⟨[],H,I,.nil,h⟩
theorem iW {X:Cx} {pos:Pos} {k v:Expr} {ks:List (Option Expr)} {vs:List Expr} {tk tv:TE} {trs:List (TE × TE)} (hk:PE X k tk) (hv:PE X v tv) (hr:yN X pos ks vs trs) :
  yN X pos (some k::ks) (v::vs) ((tk,tv)::trs):=λpins s σ H Q I h =>
 pairTrees_cons_walk (bH (hk pins s σ H _ I h) λu s1 ⟨x,H1,I1,rx,q1⟩=>bH (hv pins s1 σ H1 _ I1 q1) λw2 s2 ⟨y,H2,I2,ry,q2⟩ =>
  bH (hr pins s2 σ H2 _ I2 q2) λws s3 ⟨ps,H3,I3,rel,q3⟩=>⟨(x,y)::ps,H3,I3,.cons ⟨rx,ry⟩ rel,q3⟩)
def iO (kvs more:List (Key × V)):List (Key × V):=more.foldl (λacc kv=>putK acc kv.1 kv.2) kvs
theorem KV.merge:∀{more:List (Key × V)} {rs:List (Key × Value)} {kvs:List (Key × V)} {vs:List (Key × Value)},KV more rs->KV kvs vs->KV (iO kvs more) (merged vs rs):=by
 intro more rs kvs vs r
 unfold KV at r
 induction r generalizing kvs vs with
 | nil=>intro q;exact q
 | @cons p q ps qs h t ih =>
  intro r0
  have e:KV (putK kvs p.1 p.2) (stored vs q.1 q.2):=by
   have:=r0.put p.1 h.2
   rw [<- h.1];exact this
  exact ih e
theorem fB:∀(more kvs:List (Key × V)),(iO kvs more).length<=kvs.length+more.length
 | [],kvs=>by show kvs.length<=kvs.length+0;omega
 | p::r,kvs=>by
  have h1:=fB r (putK kvs p.1 p.2)
  have h2:=eS kvs p.1 p.2
  show (iO (putK kvs p.1 p.2) r).length<=_
  rw [List.length_cons];omega
theorem iJ {P:Program} {w:World}:∀{kvs:List (Key × V)} {ws:List (Value × Value)},VV (kvs.map λkv=>(kV kv.1,kv.2)) ws->∃ rs,Carries (bE P w) ws rs/\KV kvs rs
 | [],_,r=>by rw [List.map_nil] at r;cases r;exact⟨[],True.intro,.nil⟩
 | p::kvs,_,r=>by
  rw [List.map_cons] at r
  cases r with
  | @cons a b as bs h t =>
   obtain⟨rs,c,q⟩:=iJ (P:=P) (w:=w) t
   obtain⟨b1,b2⟩:=b
   exact⟨(p.1,b2)::rs,⟨oz h.1,rfl,c⟩,.cons ⟨rfl,h.2⟩ q⟩
def vM (trs:List (TE × TE)):TE:=λσ H Q=>∀ p,H p=none->la trs σ (upd H p (.dK [])) λps H2=>H2 p=some (.dK [])/\∃ kvs:List (Key × V),ps=kvs.map (λkv=>(kV kv.1,kv.2))/\kvs.length<=15/\Q (.ref p) (upd H2 p (.dK (iO [] kvs)))
theorem uw {X:Cx} {pos:Pos} {keys:List (Option Expr)} {values:List Expr} {trs:List (TE × TE)} (h:yN X pos keys values trs) (hall:keys.all (·.isSome)=true) (hl:keys.length=values.length) (h0:keys≠[])
  (h15:keys.length<=15):PE X (.Dict keys values pos) (vM trs):=by
 intro pins s σ H Q I q
 have hn:=I.hok.fresh (Nat.le_refl s.heap.objs.size)
 have I1:=I.laid (a:=s.heap.objs.size) (o:=.dK []) (h':=s.heap.push { cls:=.type "dict",data:=.dict #[] }) (t':=s.toks) (λ_ _ q=>Heap.get?_push_of_some _ q) (Nat.le_refl _) (qO s.heap I.big)
 refine wpAny_Dict_walk (knd:=bE X.prog X.w) hall hl h0 h15 (bH (h pins _ σ _ _ I1 (q _ hn)) λws s2 ⟨ps,H2,I2,rel,e,kvs,ep,lk,q2⟩=>?_)
 subst ep
 obtain⟨rs,c,rk⟩:=iJ (P:=X.prog) (w:=X.w) rel
 obtain⟨z,hd,vs0,r0,dd⟩:=u9 I2.hok e
 cases r0
 refine⟨rs,c,dd,λh' dd' hs=>⟨.ref s.heap.objs.size,_,?_,rfl,q2⟩⟩
 have hz:(iO [] kvs).length<=sizeLine:=by
  have h1:=fB kvs []
  rw [List.length_nil] at h1
  rw [sizeLine_eq];omega
 have he:∃ q,h'.get? s.heap.objs.size=some q:=let ⟨q,_,_,hq,_⟩:=dd';⟨q,hq⟩
 exact ku I2 (by rw [e];exact True.intro) hs he (qP hz hd (rk.merge .nil) dd')
structure M1 (X:Cx) (o:Expr) (m:Str) (apos:Pos) (e:Expr) (cpos:Pos):Prop where
 base:attributeBase o m X.env (eval o X.env)=eval o X.env
 few:((backTo cpos (starEach [e] X.env)).all (λx=>!x.1) && (backToKw cpos (keywordEach [] X.env)).all (λx=>x.1.isSome)
  && decide (([e]:List Expr).length+([]:List Keyword).length+(if ([]:List Keyword).isEmpty then 0 else 1)<30))=true
 line:(apos.endLine==cpos.line)=true
 trees:backTo cpos (starEach [e] X.env)=[(false,eval e X.env)]
structure M2 (X:Cx) (o:Expr) (m:Str) (apos:Pos) (e f:Expr) (cpos:Pos):Prop where
 base:attributeBase o m X.env (eval o X.env)=eval o X.env
 few:((backTo cpos (starEach [e,f] X.env)).all (λx=>!x.1) && (backToKw cpos (keywordEach [] X.env)).all (λx=>x.1.isSome)
  && decide (([e,f]:List Expr).length+([]:List Keyword).length+(if ([]:List Keyword).isEmpty then 0 else 1)<30))=true
 line:(apos.endLine==cpos.line)=true
 trees:backTo cpos (starEach [e,f] X.env)=[(false,eval e X.env),(false,eval f X.env)]
def z9 (H:Hp) (a:Addr):Prop:=(∃ kvs,Rd H a (.dK kvs))∨∃ kvs,Rd H a (.dT kvs)
section
variable {X:Cx} {pins:List (Addr × Obj)} {σ:St} {H:Hp} {s:Shared} {a:Addr} {y d:V} {u r:Value} {o:Option V} {A:Around} {E:Value->Shared->Prop}
end
section
variable {X:Cx} {o e f:Expr} {apos cpos:Pos} {td ty tx:TE}
end
section
variable {X:Cx} {pins:List (Addr × Obj)} {σ:St} {H:Hp} {s:Shared} {a:Addr} {kvs:List (Key × V)} {A:Around} {E:Value->Shared->Prop}
end
section
variable {X:Cx} {pins:List (Addr × Obj)} {σ:St} {H:Hp} {s:Shared} {a:Addr} {y:V} {u:Value} {A:Around} {E:Value->Shared->Prop}
end
def yt (l:Int) (b:Bool):HO:=.dK [(Sum.inr "left",.int l),(Sum.inr "free",.bl b)]
def yR (l:Int) (b:Bool):Prop:=b=true∨(0<=l/\l<2147483647)
def Up (p:Addr) (b:Bool) (H H':Hp):Prop:=∃ l,yR l b/\H'=upd H p (yt l b)
theorem qz {H:Hp} {p:Addr} {o o':HO}:upd (upd H p o) p o'=upd H p o':=by
 funext c
 by_cases e:c=p
 ·subst e;rw [ah,ah]
 ·rw [au e,au e,au e]
theorem Up.trans {p:Addr} {b:Bool} {H H1 H2:Hp} (h:Up p b H H1) (h':Up p b H1 H2):Up p b H H2:=by
 obtain⟨l,_,rfl⟩:=h
 obtain⟨l',k',rfl⟩:=h'
 exact⟨l',k',qz⟩
theorem Up.at {p:Addr} {b:Bool} {H H1:Hp} (h:Up p b H H1):∃ l,yR l b/\H1 p=some (yt l b):=by
 obtain⟨l,k,rfl⟩:=h
 exact⟨l,k,ah⟩
theorem Up.ne {p q:Addr} {b:Bool} {H H1:Hp} (h:Up p b H H1) (n:q≠p):H1 q=H q:=by
 obtain⟨l,k,rfl⟩:=h
 exact au n
def Us (p:Addr) (b:Bool) (H H':Hp):Prop:=(∃ l,yR l b/\H' p=some (yt l b))/\∀ q o,q≠p->H q=some o->H' q=some o
theorem Up.us {p:Addr} {b:Bool} {H H':Hp} (h:Up p b H H'):Us p b H H':=⟨h.at,λq o n e=>by rw [h.ne n];exact e⟩
theorem Us.trans {p:Addr} {b:Bool} {H H1 H2:Hp} (h:Us p b H H1) (h':Us p b H1 H2):Us p b H H2:=⟨h'.1,λq o n e=>h'.2 q o n (h.2 q o n e)⟩
theorem Us.free {p q:Addr} {b:Bool} {H H1:Hp} (h:Us p b H H1) (f:H1 q=none):H q=none:=by
 cases e:H q with
 | none=>rfl
 | some o =>
  by_cases n:q=p
  ·subst n
   obtain⟨l,_,z⟩:=h.1
   rw [z] at f;cases f
  ·rw [h.2 q o n e] at f;cases f
theorem Us.set {p q:Addr} {b:Bool} {H H1:Hp} {o:HO} (h:Us p b H H1) (f:H q=none) (n:q≠p):Us p b H (upd H1 q o):=by
 obtain⟨⟨l,k,e⟩,s⟩:=h
 exact⟨⟨l,k,by rw [au (Ne.symm n)];exact e⟩,λr u n er=>by rw [au (λz=>by rw [z,f] at er;cases er)];exact s r u n er⟩
section
variable {K:PySem.W.Frag} {H H':Hp}
theorem aQ.fA {a:Addr} {xs:List V} (k:∀ a xs,Rd H a (.tup xs)->Rd H' a (.tup xs)) (h:aQ K H a xs):aQ K H' a xs:=h.imp (λz=>k _ _ z) id
mutual
theorem dv.fA (k:∀ a xs,Rd H a (.tup xs)->Rd H' a (.tup xs)):∀(d:PyData) {v:V},wA d=true->dv K H d v->dv K H' d v
 | .none,_,_,h=>h
 | .bool _,_,_,h=>h
 | .int _,_,_,h=>h
 | .str _,_,_,h=>h
 | .list ds,_,z,_=>by cases z
 | .tuple ds,_,z,⟨q,xs,e,h,t⟩=>⟨q,xs,e,h.fA k,aY.fA k ds z t⟩
 | .dict _,_,_,h=>h.elim
theorem aY.fA (k:∀ a xs,Rd H a (.tup xs)->Rd H' a (.tup xs)):∀(ds:List PyData) {xs:List V},jx ds=true->aY K H ds xs->aY K H' ds xs
 | [],_,_,h=>h
 | d::ds,_,z,⟨x,r,e,h,t⟩=>by
  have z':wA d=true/\jx ds=true:=by simpa [jx] using z
  exact⟨x,r,e,dv.fA k d z'.1 h,aY.fA k ds z'.2 t⟩
end
theorem aY.set:∀{ds:List PyData} {us:List V} (i:Nat) {d:PyData} {v:V},aY K H ds us->dv K H d v->aY K H (ds.set i d) (us.set i v)
 | [],_,_,_,_,h,_=>by cases h;exact rfl
 | e::ds,_,0,_,_,⟨x,r,ex,h,t⟩,hv=>by subst ex;exact⟨_,_,rfl,hv,t⟩
 | e::ds,_,i+1,_,_,⟨x,r,ex,h,t⟩,hv=>by subst ex;exact⟨_,_,rfl,h,aY.set i t hv⟩
theorem Us.fA {p:Addr} {b:Bool} {l:Int} (h:Us p b H H') (hp:H p=some (yt l b)):∀ a xs,Rd H a (.tup xs)->Rd H' a (.tup xs):=by
 intro a xs z
 rcases z with z | ⟨o,z⟩
 ·exact .inl (h.2 _ _ (λe=>by rw [e,hp] at z;cases z) z)
 ·exact .inr ⟨o,h.2 _ _ (λe=>by rw [e,hp] at z;cases z) z⟩
end
theorem Us.ref {p:Addr} {b:Bool} {H H1:Hp} (h:Us p b H H1):∃ l,yR l b/\H1 p=some (yt l b):=h.1
theorem rP {X:Cx} {ss:List Stmt}:ix X ss (λ_ _ _=>False):=by
 intro _ _ _ _ _ _ h
 exact False.elim h
theorem lg (it t:Addr) (i:Nat) (items:Array Value) (x:Value) (hx:items[i]?=some x):Meets (Builtin.«tuple_iterator.__next__» ⟨[.ref it],[]⟩)
  (λ_ R s=>s.heap.IsTupleIter it t i/\s.heap.IsTuple t items/\∀ h',h'.IsTupleIter it t (i+1)->Heap.SameBut it s.heap h'->R (.ok (.ret x)) { s with heap:=h' }) :=
 .of_wp λprog w A R s h=>by
  obtain⟨⟨o,e,c,d⟩,⟨o2,e2,c2,n2,d2⟩,q⟩:=h
  have hx':items[(i:Int).toNat]?=some x:=by simpa using hx
  wp_walk using wpAny_field (i:=0) (x:=Value.ref t) e d rfl,wpAny_field (i:=1) (x:=Value.int i 0) e d rfl,wpAny_seqItems e2 d2
  rw [hx']
  refine wpAny_bind (wpAny_setField e d (show 1<2 by decide) ?_)
  obtain⟨oc,od,odt,os⟩:=o
  cases c
  cases d
  wp_walk
  refine⟨x,rfl,q _ ⟨_,Heap.get?_update_self _ e rfl,rfl,?_⟩ (Heap.SameBut.update ..)⟩
  show Data.fields _=_
  simp [rawInt]
theorem mH (it t:Addr) (i:Nat) (items:Array Value) (hx:items[i]?=none):Meets (Builtin.«tuple_iterator.__next__» ⟨[.ref it],[]⟩)
  (λA R s=>A.handled=none/\s.heap.IsTupleIter it t i/\s.heap.IsTuple t items/\∀ h' e,Heap.ExtBut it s.heap h'->(∃ o,h'.get? e=some o/\o.cls=.type "StopIteration")->R (.error (.ref e)) { s with heap:=h' }) :=
 .of_wp λprog w A R s h=>by
  obtain⟨hn,⟨o,e,c,d⟩,⟨o2,e2,c2,n2,d2⟩,q⟩:=h
  have hx':items[(i:Int).toNat]?=none:=by simpa using hx
  wp_walk using wpAny_field (i:=0) (x:=Value.ref t) e d rfl,wpAny_field (i:=1) (x:=Value.int i 0) e d rfl,wpAny_seqItems e2 d2
  rw [hx']
  wp_walk using wpAny_setField e d (show 0<2 by decide)
  refine wpAny_raiseNew_none hn (q _ _ (λb o hb e=>Heap.get?_push_of_some _ (Heap.get?_push_of_some _ ((Heap.get?_update_other _ _ (Ne.symm hb)).trans e))) ⟨_,Heap.get?_push_size _ rfl,rfl⟩)
section
variable {prog:Program} {w:World} {A:Around} {E:Value->Shared->Prop} {s:Shared} {it t:Addr} {i:Nat} {items:Array Value} {Q:Value->Shared->Prop}
theorem iu {x:Value} (h1:s.heap.IsTupleIter it t i) (h2:s.heap.IsTuple t items) (hx:items[i]?=some x) (q:∀ h',h'.IsTupleIter it t (i+1)->Heap.SameBut it s.heap h'->Q x { s with heap:=h' }) :
  wpAny (model prog w) A (Builtin.SmallTypes.nextOf (.ref it)) Q E s:=by
 have ty:s.TypeIs (.ref it) "tuple_iterator":=by obtain⟨o,e,c,_⟩:=h1;exact⟨o,e,c⟩
 unfold Builtin.SmallTypes.nextOf
 refine wpAny_bind (wpAny_callSpecial?_slot ty slot_tupleiter_next (call_meets slot_tupleiter_next ty entry_tupleiter_next (args_tupleiter_next _) (lg it t i items x hx) ⟨h1,h2,λh' a b=>?_⟩))
 exact wpAny_pure (q h' a b)
theorem iP (hn:A.handled=none) (h1:s.heap.IsTupleIter it t i) (h2:s.heap.IsTuple t items) (hx:items[i]?=none) (q:∀ h' e,Heap.ExtBut it s.heap h'->(∃ o,h'.get? e=some o/\o.cls=.type "StopIteration")->E (.ref e) { s with heap:=h' }) :
  wpAny (model prog w) A (Builtin.SmallTypes.nextOf (.ref it)) Q E s:=by
 have ty:s.TypeIs (.ref it) "tuple_iterator":=by obtain⟨o,e,c,_⟩:=h1;exact⟨o,e,c⟩
 unfold Builtin.SmallTypes.nextOf
 exact wpAny_bind (wpAny_callSpecial?_slot ty slot_tupleiter_next (call_meets slot_tupleiter_next ty entry_tupleiter_next (args_tupleiter_next _) (mH it t i items hx) ⟨hn,h1,h2,λh' e a b=>q h' e a b⟩))
end
inductive Sd
 | l
 | t
def Sd.It:Sd->Heap->Addr->Addr->Nat->Prop
 | .l=>Heap.IsListIter
 | .t=>Heap.IsTupleIter
def Sd.Sq:Sd->Heap->Addr->Array Value->Prop
 | .l=>Heap.IsList
 | .t=>Heap.IsTuple
def Sd.io (k:Sd) (a:Addr):Obj:=match k with
 | .l=>{ cls:=.type "list_iterator",data:=.fields #[.ref a,.int 0 0] }
 | .t=>{ cls:=.type "tuple_iterator",data:=.fields #[.ref a,.int 0 0] }
theorem Sd.It.at {k:Sd} {h h':Heap} {it a:Addr} {i:Nat} (x:k.It h it a i) (e:∀ o,h.get? it=some o->h'.get? it=some o):k.It h' it a i:=by
 cases k<;>(obtain⟨o,e1,r⟩:=x;exact⟨o,e o e1,r⟩)
theorem Sd.It.there {k:Sd} {h:Heap} {it a:Addr} {i:Nat} (x:k.It h it a i):∃ o,h.get? it=some o/\∀ v,o.data≠.cell v:=by
 cases k<;>(obtain⟨o,e1,_,d⟩:=x;exact⟨o,e1,λv z=>by rw [d] at z;cases z⟩)
theorem Sd.Sq.at {k:Sd} {h h':Heap} {a:Addr} {xs:Array Value} (x:k.Sq h a xs) (e:∀ o,h.get? a=some o->h'.get? a=some o):k.Sq h' a xs:=by
 cases k<;>(obtain⟨o,e1,r⟩:=x;exact⟨o,e o e1,r⟩)
theorem Sd.Sq.lt {k:Sd} {h:Heap} {a:Addr} {xs:Array Value} (x:k.Sq h a xs):a<h.objs.size:=by
 cases k<;>(obtain⟨o,e1,r⟩:=x;exact Heap.lt_size e1)
theorem Sd.start (k:Sd) {h:Heap} {it a:Addr} (e:h.get? it=some (k.io a)):k.It h it a 0:=by
 cases k<;>exact⟨_,e,rfl,rfl⟩
section
variable {prog:Program} {w:World} {A:Around} {E:Value->Shared->Prop} {s:Shared} {it a:Addr} {i:Nat} {xs:Array Value} {Q:Value->Shared->Prop} {k:Sd}
theorem Sd.item {x:Value} (h1:k.It s.heap it a i) (h2:k.Sq s.heap a xs) (hx:xs[i]?=some x) (q:∀ h',k.It h' it a (i+1)->Heap.SameBut it s.heap h'->Q x { s with heap:=h' }) :
  wpAny (model prog w) A (Builtin.SmallTypes.nextOf (.ref it)) Q E s:=by
 cases k
 ·exact wpAny_nextOf_list_item h1 h2 hx q
 ·exact iu h1 h2 hx q
theorem Sd.fin (hn:A.handled=none) (h1:k.It s.heap it a i) (h2:k.Sq s.heap a xs) (hx:xs[i]?=none) (q:∀ h' e,Heap.ExtBut it s.heap h'->(∃ o,h'.get? e=some o/\o.cls=.type "StopIteration")->E (.ref e) { s with heap:=h' }) :
  wpAny (model prog w) A (Builtin.SmallTypes.nextOf (.ref it)) Q E s:=by
 cases k
 ·exact wpAny_nextOf_list_end hn h1 h2 hx q
 ·exact iP hn h1 h2 hx q
theorem Sd.iter (h2:k.Sq s.heap a xs) (q:Q (.ref s.heap.objs.size) { s with heap:=s.heap.push (k.io a) }):wpAny (model prog w) A (pyIter (.ref a)) Q E s:=by
 cases k
 ·exact wpAny_pyIter_list h2 q
 ·exact wpAny_pyIter_tuple h2 q
end
theorem uW (k1 k2:Sd) (l1 l2:Addr) (xs ys:Array Value):Meets (Builtin.«zip.__new__» ⟨[.type "zip",.ref l1,.ref l2],[]⟩)
  (λ_ R s=>k1.Sq s.heap l1 xs/\k2.Sq s.heap l2 ys/\∀ h',IsZip h' (s.heap.objs.size+4) (s.heap.objs.size+2) (s.heap.objs.size+3) .none->IsPair h' (s.heap.objs.size+2) (.ref s.heap.objs.size) (.ref (s.heap.objs.size+1)) ->
   IsPair h' (s.heap.objs.size+3) .none .none->k1.It h' s.heap.objs.size l1 0->k2.It h' (s.heap.objs.size+1) l2 0->(∀ c o,s.heap.get? c=some o->h'.get? c=some o)->R (.ok (.ret (.ref (s.heap.objs.size+4)))) { s with heap:=h' }) :=
 .of_wp λprog w A R s h=>by
  obtain⟨h1,h2,q⟩:=h
  have f1:=sub_zip
  have h2':k2.Sq (s.heap.push (k1.io l1)) l2 ys:=h2.at λo e=>Heap.get?_push_of_some _ e
  wp_walk using Sd.iter h1,Sd.iter (s:={ s with heap:=s.heap.push (k1.io l1) }) h2'
  refine⟨_,rfl,?_⟩
  have e5:((((s.heap.push (k1.io l1)).push (k2.io l2)).push { cls:=.type "tuple",data:=.seq #[.ref s.heap.objs.size,.ref (s.heap.push (k1.io l1)).objs.size] }).push { cls:=.type "tuple",data:=.seq #[.none,.none] }).objs.size=s.heap.objs.size+4:=by simp only [Heap.size_push]
  have e4:(((s.heap.push (k1.io l1)).push (k2.io l2)).push { cls:=.type "tuple",data:=.seq #[.ref s.heap.objs.size,.ref (s.heap.push (k1.io l1)).objs.size] }).objs.size=s.heap.objs.size+3:=by simp only [Heap.size_push]
  have e3:((s.heap.push (k1.io l1)).push (k2.io l2)).objs.size=s.heap.objs.size+2:=by simp only [Heap.size_push]
  have e2:(s.heap.push (k1.io l1)).objs.size=s.heap.objs.size+1:=by simp only [Heap.size_push]
  show R (.ok (.ret (.ref ((((s.heap.push (k1.io l1)).push (k2.io l2)).push { cls:=.type "tuple",data:=.seq #[.ref s.heap.objs.size,.ref (s.heap.push (k1.io l1)).objs.size] }).push { cls:=.type "tuple",data:=.seq #[.none,.none] }).objs.size))) { s with heap:=((((s.heap.push (k1.io l1)).push (k2.io l2)).push { cls:=.type "tuple",data:=.seq #[.ref s.heap.objs.size,.ref (s.heap.push (k1.io l1)).objs.size] }).push { cls:=.type "tuple",data:=.seq #[.none,.none] }).push { cls:=.type "zip",data:=.fields #[.none,.bool false,.bool false,.ref ((s.heap.push (k1.io l1)).push (k2.io l2)).objs.size,.ref (((s.heap.push (k1.io l1)).push (k2.io l2)).push { cls:=.type "tuple",data:=.seq #[.ref s.heap.objs.size,.ref (s.heap.push (k1.io l1)).objs.size] }).objs.size] } }
  have g0:(s.heap.push (k1.io l1)).get? s.heap.objs.size=some (k1.io l1):=Heap.get?_push_size _ (by cases k1<;>rfl)
  have g1:((s.heap.push (k1.io l1)).push (k2.io l2)).get? (s.heap.objs.size+1)=some (k2.io l2):=by rw [<- e2];exact Heap.get?_push_size _ (by cases k2<;>rfl)
  rw [e5,e4,e3,e2]
  refine q _ ?_ ?_ ?_ (k1.start (Heap.get?_push_of_some _ (Heap.get?_push_of_some _ (Heap.get?_push_of_some _ (Heap.get?_push_of_some _ g0))))) (k2.start (Heap.get?_push_of_some _ (Heap.get?_push_of_some _ (Heap.get?_push_of_some _ g1)))) λc o e=>Heap.get?_push_of_some _ (Heap.get?_push_of_some _ (Heap.get?_push_of_some _ (Heap.get?_push_of_some _ (Heap.get?_push_of_some _ e))))
  ·exact (show _=_ from by
    have:=Heap.get?_push_size (((((s.heap.push (k1.io l1)).push (k2.io l2)).push { cls:=.type "tuple",data:=.seq #[.ref s.heap.objs.size,.ref (s.heap.objs.size+1)] }).push { cls:=.type "tuple",data:=.seq #[.none,.none] })) (o:={ cls:=.type "zip",data:=.fields #[.none,.bool false,.bool false,.ref (s.heap.objs.size+2),.ref (s.heap.objs.size+3)] }) rfl
    simp only [Heap.size_push] at this
    exact this)
  ·refine Heap.get?_push_of_some _ (Heap.get?_push_of_some _ ?_)
   have:=Heap.get?_push_size ((s.heap.push (k1.io l1)).push (k2.io l2)) (o:={ cls:=.type "tuple",data:=.seq #[.ref s.heap.objs.size,.ref (s.heap.objs.size+1)] }) rfl
   simp only [Heap.size_push] at this
   exact this
  ·refine Heap.get?_push_of_some _ ?_
   have:=Heap.get?_push_size (((s.heap.push (k1.io l1)).push (k2.io l2)).push { cls:=.type "tuple",data:=.seq #[.ref s.heap.objs.size,.ref (s.heap.objs.size+1)] }) (o:={ cls:=.type "tuple",data:=.seq #[.none,.none] }) rfl
   simp only [Heap.size_push] at this
   exact this
theorem sO (k1 k2:Sd) (z TI TO i1 i2 l1 l2:Addr) (ap:ZipApart z TI TO i1 i2 l1 l2) (n1 n2:Nat) (xs ys:Array Value) (x y a b:Value) (hx:xs[n1]?=some x) (hy:ys[n2]?=some y):Meets (Builtin.«zip.__next__» ⟨[.ref z],[]⟩)
  (λ_ R s=>IsZip s.heap z TI TO .none/\IsPair s.heap TI (.ref i1) (.ref i2)/\IsPair s.heap TO a b/\k1.It s.heap i1 l1 n1/\k2.It s.heap i2 l2 n2/\k1.Sq s.heap l1 xs/\k2.Sq s.heap l2 ys /\
   ∀ h',IsZip h' z TI TO (rawInt s.heap.objs.size)->IsPair h' TO x y->k1.It h' i1 l1 (n1+1)->k2.It h' i2 l2 (n2+1)->IsPair h' s.heap.objs.size x y ->
    (∀ c o,c≠z->c≠TO->c≠i1->c≠i2->s.heap.get? c=some o->h'.get? c=some o)->R (.ok (.ret (.ref s.heap.objs.size))) { s with heap:=h' }) :=
 .of_wp λprog w A R s h=>by
  obtain⟨hz,hTI,hTO,j1,j2,q1,q2,q⟩:=h
  wp_walk using wpAny_field (i:=2) (x:=Value.bool false) hz rfl rfl,wpAny_field (i:=3) (x:=Value.ref TI) hz rfl rfl,wpAny_field (i:=0) (x:=Value.none) hz rfl rfl,wpAny_field (i:=4) (x:=Value.ref TO) hz rfl rfl,wpAny_seqItems hTI rfl,wpAny_setField_rec hz (show 0<5 by decide)
  intro ha za sa
  have ka:∀ c o,c≠z->s.heap.get? c=some o->ha.get? c=some o:=λc o hc e=>(sa.2 c hc).trans e
  have j1a:=j1.at (h':=ha) λo e=>ka i1 o ap.i1z e
  have q1a:=q1.at (h':=ha) λo e=>ka l1 o ap.l1z e
  wp_walk using wpAny_onRaise,Sd.item (s:={ s with heap:=ha }) j1a q1a hx
  intro hb jb sb
  have kb:∀ c o,c≠z->c≠i1->s.heap.get? c=some o->hb.get? c=some o:=λc o h1 h2 e=>(sb.2 c h2).trans (ka c o h1 e)
  have TOb:IsPair hb TO a b:=kb TO _ ap.TOz ap.TOi1 hTO
  wp_walk using wpAny_seqItems TOb rfl,wpAny_updateSeq_pair (s:={ s with heap:=hb }) TOb
  intro hc TOc' sc
  have TOc:IsPair hc TO x b:=TOc'
  have kc:∀ c o,c≠z->c≠i1->c≠TO->s.heap.get? c=some o->hc.get? c=some o:=λc o h1 h2 h3 e=>(sc.2 c h3).trans (kb c o h1 h2 e)
  have zc:hc.get? z=some { cls:=.type "zip",data:=.fields #[.ellipsis,.bool false,.bool false,.ref TI,.ref TO] }:=(sc.2 z (Ne.symm ap.TOz)).trans ((sb.2 z (Ne.symm ap.i1z)).trans za)
  have j1c:=jb.at (h':=hc) λo e=>(sc.2 i1 (Ne.symm ap.TOi1)).trans e
  have j2c:=j2.at (h':=hc) λo e=>kc i2 o ap.i2z (Ne.symm ap.i12) (Ne.symm ap.TOi2) e
  have q2c:=q2.at (h':=hc) λo e=>kc l2 o ap.l2z ap.l2i1 ap.l2TO e
  wp_walk using wpAny_letGo,wpAny_onRaise,Sd.item (s:={ s with heap:=hc }) j2c q2c hy
  intro hd jd sd
  have TOd:IsPair hd TO x b:=(sd.2 TO ap.TOi2).trans TOc
  have zd:=(sd.2 z (Ne.symm ap.i2z)).trans zc
  wp_walk using wpAny_seqItems TOd rfl,wpAny_updateSeq_pair (s:={ s with heap:=hd }) TOd
  intro he TOe' se
  have TOe:IsPair he TO x y:=TOe'
  have ze:=(se.2 z (Ne.symm ap.TOz)).trans zd
  wp_walk using wpAny_letGo,wpAny_seqItems TOe rfl
  have sz:he.objs.size=s.heap.objs.size:=se.1.trans (sd.1.trans (sc.1.trans (sb.1.trans sa.1)))
  have zn:z≠he.objs.size:=Nat.ne_of_lt (Heap.lt_size ze)
  have zf:(he.push { cls:=.type "tuple",data:=.seq #[x,y] }).get? z=some { cls:=.type "zip",data:=.fields #[.ellipsis,.bool false,.bool false,.ref TI,.ref TO] }:=Heap.get?_push_of_some _ ze
  have ke:∀ c o,c≠z->he.get? c=some o->(((he.push { cls:=.type "tuple",data:=.seq #[x,y] }).update z (Obj.mapFields λx=>x.setIfInBounds 0 (rawInt ↑he.objs.size))).update z (Obj.mapFields λx=>x.setIfInBounds 1 (Value.bool false))).get? c=some o:=λc o hc e=>(Heap.get?_update_other _ _ (Ne.symm hc)).trans ((Heap.get?_update_other _ _ (Ne.symm hc)).trans (Heap.get?_push_of_some _ e))
  have g1:=Heap.get?_update_self (Obj.mapFields λx=>x.setIfInBounds 0 (rawInt ↑he.objs.size)) zf rfl
  have g2:=Heap.get?_update_self (Obj.mapFields λx=>x.setIfInBounds 1 (Value.bool false)) g1 rfl
  have gn:(((he.push { cls:=.type "tuple",data:=.seq #[x,y] }).update z (Obj.mapFields λx=>x.setIfInBounds 0 (rawInt ↑he.objs.size))).update z (Obj.mapFields λx=>x.setIfInBounds 1 (Value.bool false))).get? he.objs.size=some { cls:=.type "tuple",data:=.seq #[x,y] }:=(Heap.get?_update_other _ _ zn).trans ((Heap.get?_update_other _ _ zn).trans (Heap.get?_push_size _ rfl))
  refine⟨_,rfl,?_⟩
  show R (.ok (.ret (.ref he.objs.size))) { s with heap:=(((he.push { cls:=.type "tuple",data:=.seq #[x,y] }).update z (Obj.mapFields λx=>x.setIfInBounds 0 (rawInt ↑he.objs.size))).update z (Obj.mapFields λx=>x.setIfInBounds 1 (Value.bool false))) }
  generalize (((he.push { cls:=.type "tuple",data:=.seq #[x,y] }).update z (Obj.mapFields λx=>x.setIfInBounds 0 (rawInt ↑he.objs.size))).update z (Obj.mapFields λx=>x.setIfInBounds 1 (Value.bool false)))=hf at *
  rw [sz]
  refine q hf (by rw [<- sz];exact g2) (ke TO _ ap.TOz TOe) (j1c.at λo e=>ke i1 o ap.i1z ((se.2 i1 (Ne.symm ap.TOi1)).trans ((sd.2 i1 ap.i12).trans e))) (jd.at λo e=>ke i2 o ap.i2z ((se.2 i2 (Ne.symm ap.TOi2)).trans e)) (by rw [<- sz];exact gn) λc o h1 h2 h3 h4 e=>ke c o h1 ((se.2 c h2).trans ((sd.2 c h4).trans (kc c o h1 h3 h2 e)))
theorem sN (k1:Sd) (z TI TO i1 i2 l1:Addr) (i1z:i1≠z) (l1z:l1≠z) (n1:Nat) (xs:Array Value) (a b:Value) (hx:xs[n1]?=none):Meets (Builtin.«zip.__next__» ⟨[.ref z],[]⟩)
  (λA R s=>A.handled=none/\IsZip s.heap z TI TO .none/\IsPair s.heap TI (.ref i1) (.ref i2)/\IsPair s.heap TO a b/\k1.It s.heap i1 l1 n1/\k1.Sq s.heap l1 xs /\
   ∀ h' e,(∀ c o,c≠z->c≠i1->s.heap.get? c=some o->h'.get? c=some o)->(∃ o,h'.get? e=some o/\o.cls=.type "StopIteration")->R (.error (.ref e)) { s with heap:=h' }) :=
 .of_wp λprog w A R s h=>by
  obtain⟨hn,hz,hTI,hTO,j1,q1,q⟩:=h
  wp_walk using wpAny_field (i:=2) (x:=Value.bool false) hz rfl rfl,wpAny_field (i:=3) (x:=Value.ref TI) hz rfl rfl,wpAny_field (i:=0) (x:=Value.none) hz rfl rfl,wpAny_field (i:=4) (x:=Value.ref TO) hz rfl rfl,wpAny_seqItems hTI rfl,wpAny_setField_rec hz (show 0<5 by decide)
  intro ha za sa
  have ka:∀ c o,c≠z->s.heap.get? c=some o->ha.get? c=some o:=λc o hc e=>(sa.2 c hc).trans e
  have j1a:=j1.at (h':=ha) λo e=>ka i1 o i1z e
  have q1a:=q1.at (h':=ha) λo e=>ka l1 o l1z e
  wp_walk using wpAny_onRaise,Sd.fin (A:=A.in1) (s:={ s with heap:=ha }) hn j1a q1a hx
  intro hb e kb oe
  have zb:=kb z _ (Ne.symm i1z) za
  refine wpAny_setField_rec (s:={ s with heap:=hb }) zb (show 0<5 by decide) λhc zc sc=>?_
  obtain⟨o,eo,co⟩:=oe
  have ez:e≠z:=λx=>by
   subst x
   rw [zb] at eo
   cases eo
   injection co with x
   exact absurd x (by decide)
  exact q hc e (λc o h1 h2 x=>(sc.2 c h1).trans (kb c o h2 (ka c o h1 x))) ⟨o,(sc.2 e ez).trans eo,co⟩
section
variable {prog:Program} {w:World} {A:Around} {E:Value->Shared->Prop} {s:Shared}
theorem j3 {it:Addr} {T id:String} {Q:Option Value->Shared->Prop} (ty:s.TypeIs (.ref it) T) (sl:Slot T "__next__" id)
  (h:wpAny (model prog w) A (call (.builtin id) [.ref it]) (λv s'=>Q (some v) s') (λe s'=>(∃ x o,e=.ref x/\s'.heap.get? x=some o/\o.cls=.type "StopIteration")/\Q none s') s):wpAny (model prog w) A (pyNext (.ref it)) Q E s:=by
 unfold pyNext
 refine wpAny_bind (wpAny_attempt (wpAny_callSpecial?_slot ty sl (wpAny_mono h (λv s' q=>wpAny_pure q) λe s' q=>?_)))
 obtain⟨⟨x,o,rfl,eo,co⟩,q⟩:=q
 refine wpAny_bind (wpAny_isInstance (T := "StopIteration") (b:=true) ⟨o,eo,co⟩ ?_ ?_)
 ·with_unfolding_all rfl
 ·rw [if_pos rfl]
  exact wpAny_pure q
theorem qI {k1 k2:Sd} {l1 l2:Addr} {xs ys:Array Value} {Q:Value->Shared->Prop} (h1:k1.Sq s.heap l1 xs) (h2:k2.Sq s.heap l2 ys)
  (q:∀ h',IsZip h' (s.heap.objs.size+4) (s.heap.objs.size+2) (s.heap.objs.size+3) .none->IsPair h' (s.heap.objs.size+2) (.ref s.heap.objs.size) (.ref (s.heap.objs.size+1)) ->
   IsPair h' (s.heap.objs.size+3) .none .none->k1.It h' s.heap.objs.size l1 0->k2.It h' (s.heap.objs.size+1) l2 0->(∀ c o,s.heap.get? c=some o->h'.get? c=some o)->Q (.ref (s.heap.objs.size+4)) { s with heap:=h' }) :
  wpAny (model prog w) A (call (.type "zip") [.ref l1,.ref l2]) Q E s :=
 callType_new F.called_zip (by decide) (F.typeCall_zip_2 _ _) (F.newCall_zip_2 _ _) (λobj=>F.args_object_init_3 _ _ _) F.entry_zip_new (uW k1 k2 l1 l2 xs ys) ⟨h1,h2,λh' z a b c d e=>⟨⟨_,z,rfl⟩,q h' z a b c d e⟩⟩
theorem jw {k1 k2:Sd} {z TI TO i1 i2 l1 l2:Addr} {n1 n2:Nat} {xs ys:Array Value} {x y a b:Value} {Q:Option Value->Shared->Prop} (ap:ZipApart z TI TO i1 i2 l1 l2) (hz:IsZip s.heap z TI TO .none) (hTI:IsPair s.heap TI (.ref i1) (.ref i2)) (hTO:IsPair s.heap TO a b)
  (j1:k1.It s.heap i1 l1 n1) (j2:k2.It s.heap i2 l2 n2) (q1:k1.Sq s.heap l1 xs) (q2:k2.Sq s.heap l2 ys) (hx:xs[n1]?=some x) (hy:ys[n2]?=some y)
  (q:∀ h',IsZip h' z TI TO (rawInt s.heap.objs.size)->IsPair h' TO x y->k1.It h' i1 l1 (n1+1)->k2.It h' i2 l2 (n2+1)->IsPair h' s.heap.objs.size x y ->
    (∀ c o,c≠z->c≠TO->c≠i1->c≠i2->s.heap.get? c=some o->h'.get? c=some o)->Q (some (.ref s.heap.objs.size)) { s with heap:=h' }):wpAny (model prog w) A (pyNext (.ref z)) Q E s :=
 j3 ⟨_,hz,rfl⟩ F.slot_zip_next (call_meets F.slot_zip_next ⟨_,hz,rfl⟩ F.entry_zip_next (F.args_zip_next_1 _) (sO k1 k2 z TI TO i1 i2 l1 l2 ap n1 n2 xs ys x y a b hx hy) ⟨hz,hTI,hTO,j1,j2,q1,q2,λh' a b c d e f=>q h' a b c d e f⟩)
theorem kE {k1:Sd} {z TI TO i1 i2 l1:Addr} {n1:Nat} {xs:Array Value} {a b:Value} {Q:Option Value->Shared->Prop} (hn:A.handled=none) (i1z:i1≠z) (l1z:l1≠z) (hz:IsZip s.heap z TI TO .none) (hTI:IsPair s.heap TI (.ref i1) (.ref i2)) (hTO:IsPair s.heap TO a b)
  (j1:k1.It s.heap i1 l1 n1) (q1:k1.Sq s.heap l1 xs) (hx:xs[n1]?=none)
  (q:∀ h',(∀ c o,c≠z->c≠i1->s.heap.get? c=some o->h'.get? c=some o)->Q none { s with heap:=h' }):wpAny (model prog w) A (pyNext (.ref z)) Q E s :=
 j3 ⟨_,hz,rfl⟩ F.slot_zip_next (call_meets F.slot_zip_next ⟨_,hz,rfl⟩ F.entry_zip_next (F.args_zip_next_1 _) (sN k1 z TI TO i1 i2 l1 i1z l1z n1 xs a b hx) ⟨hn,hz,hTI,hTO,j1,q1,λh' e k ⟨o,eo,co⟩=>⟨⟨e,o,rfl,eo,co⟩,q h' k⟩⟩)
end
def iG (k:Sd) (K:PySem.W.Frag) (H:Hp) (a:Addr) (xs:List V):Prop:=match k with
 | .l=>aT K H a xs
 | .t=>aQ K H a xs
theorem Inv.yr {X:Cx} {pins:List (Addr × Obj)} {σ:St} {H:Hp} {s:Shared} {k:Sd} {a:Addr} {xs:List V} (I:Inv X pins σ H s) (h:iG k X.K H a xs):∃ its:List Value,Vals xs its/\k.Sq s.heap a its.toArray:=by
 cases k
 ·obtain⟨its,r,p,_⟩:=I.list h
  exact⟨its,r,p.isList⟩
 ·obtain⟨its,r,p,_⟩:=I.tuple h
  exact⟨its,r,p⟩
theorem Inv.oQ {X:Cx} {pins:List (Addr × Obj)} {σ:St} {H:Hp} {s:Shared} {k:Sd} {a:Addr} {xs ys:List V} (I:Inv X pins σ H s) (h:iG k X.K H a xs) (h':iG k X.K H a ys):xs=ys:=by
 cases k
 ·exact I.lN h h'
 ·exact I.kf h h'
def xJ (k1 k2:Sd) (K:PySem.W.Frag) (a b:Addr):It :=
 ⟨λi H=>∃ xs ys x y,iG k1 K H a xs/\iG k2 K H b ys/\xs[i]?=some x/\ys[i]?=some y,λi H x H'=>∃ p u v,H p=none/\x=.ref p/\(∀ xs,iG k1 K H a xs->xs[i]?=some u)/\(∀ ys,iG k2 K H b ys->ys[i]?=some v)/\H'=upd H p (.tup [u,v]),
  λi H=>∃ xs,iG k1 K H a xs/\xs.length<=i⟩
theorem sJ {P:Program} {w:World} {K:PySem.W.Frag} {elts:List Expr} {x1} {pos:Pos} {k1 k2:Sd} {a b z TI TO i1 i2:Addr} (ap:ZipApart z TI TO i1 i2 a b):Turn P w K (.Tuple elts x1 pos) (xJ k1 k2 K a b) [z,TI,TO,i1,i2] z (λi h=>IsZip h z TI TO .none/\IsPair h TI (.ref i1) (.ref i2)/\(∃ u v,IsPair h TO u v)/\k1.It h i1 a i/\k2.It h i2 b i) where
 mem:=by simp
 obj:=λi h st c hc=>by
  obtain⟨h1,h2,⟨u,v,h3⟩,h4,h5⟩:=st
  simp only [List.mem_cons,List.not_mem_nil,or_false] at hc
  rcases hc with rfl | rfl | rfl | rfl | rfl
  ·exact⟨_,h1,λv z=>by cases z⟩
  ·exact⟨_,h2,λv z=>by cases z⟩
  ·exact⟨_,h3,λv z=>by cases z⟩
  ·exact h4.there
  ·exact h5.there
 keep:=λi h h' st k=>by
  obtain⟨h1,h2,⟨u,v,h3⟩,h4,h5⟩:=st
  exact⟨k z (by simp) _ h1,k TI (by simp) _ h2,⟨u,v,k TO (by simp) _ h3⟩,h4.at λo x=>k i1 (by simp) o x,h5.at λo x=>k i2 (by simp) o x⟩
 item:=by
  intro X hP hw hK hc i pins s σ H E I hf st hg
  subst hP hw hK
  obtain⟨xs,ys,x,y,hq1,hq2,hx,hy⟩:=hg
  obtain⟨its1,rv1,p1⟩:=I.yr hq1
  obtain⟨its2,rv2,p2⟩:=I.yr hq2
  obtain⟨u,hu,ru⟩:=rv1.get hx
  obtain⟨v,hv,rv⟩:=rv2.get hy
  obtain⟨h1,h2,⟨u0,v0,h3⟩,h4,h5⟩:=st
  refine jw ap h1 h2 h3 h4 h5 p1 p2 (x:=u) (y:=v) (by simpa using hu) (by simpa using hv) λh' z' TO' j1 j2 hT hk=>?_
  refine⟨_,rfl,?_⟩
  have fT:H s.heap.objs.size=none:=I.hok.fresh (Nat.le_refl _)
  refine wpAny_letOwnedTupleGo_zip z' λh'' z2 s2=>?_
  have hke:∀ c o,c∉[z,TI,TO,i1,i2]->s.heap.get? c=some o->h''.get? c=some o:=λc o hc q=>by
   simp only [List.mem_cons,List.not_mem_nil,or_false,not_or] at hc
   exact (s2.2 c hc.1).trans (hk c o hc.1 hc.2.2.1 hc.2.2.2.1 hc.2.2.2.2 q)
  have I1:Inv X pins σ H { s with heap:=h'',toks:=s.toks }:=I.oS hke hf
  have nz:∀ c∈[z,TI,TO,i1,i2],c≠s.heap.objs.size:=λc hc e=>by
   have:∃ o,s.heap.get? c=some o:=by
    simp only [List.mem_cons,List.not_mem_nil,or_false] at hc
    rcases hc with rfl | rfl | rfl | rfl | rfl
    ·exact⟨_,h1⟩
    ·exact⟨_,h2⟩
    ·exact⟨_,h3⟩
    ·obtain⟨o,e,_⟩:=h4.there;exact⟨o,e⟩
    ·obtain⟨o,e,_⟩:=h5.there;exact⟨o,e⟩
   obtain⟨o,eo⟩:=this
   exact Nat.ne_of_lt (Heap.lt_size eo) e
  have hT2:h''.get? s.heap.objs.size=some { cls:=.type "tuple",data:=.seq #[u,v] }:=(s2.2 _ (Ne.symm (nz z (by simp)))).trans hT
  refine⟨.ref s.heap.objs.size,upd H s.heap.objs.size (.tup [x,y]),?_,rfl,⟨_,x,y,fT,rfl,λzs hz=>by rw [I.oQ hz hq1];exact hx,λzs hz=>by rw [I.oQ hz hq2];exact hy,rfl⟩,
   ⟨z2,(s2.2 TI ap.TIz).trans (hk TI _ ap.TIz ap.TITO ap.TIi1 ap.TIi2 h2),⟨_,_,(s2.2 TO ap.TOz).trans TO'⟩,j1.at λo q=>(s2.2 i1 ap.i1z).trans q,j2.at λo q=>(s2.2 i2 ap.i2z).trans q⟩,λc hc=>?_⟩
  ·exact I1.adopt (T:=s.heap.objs.size) (o:=.tup [x,y]) (I.qU (Nat.le_refl _) fT) ⟨by show 2<=sizeLine;decide,[u,v],.cons ru (.cons rv .nil),⟨_,hT2,rfl,_,rfl⟩⟩
  ·rw [au (nz c hc)]
   exact (hf c hc).1
 done:=by
  intro X hP hw hK hc i pins s σ H E I hf st hg
  subst hP hw hK
  obtain⟨xs,hq,hx⟩:=hg
  obtain⟨its,rv,p⟩:=I.yr hq
  have hl:=rv.length
  obtain⟨h1,h2,⟨u0,v0,h3⟩,h4,h5⟩:=st
  exact kE (I.ok.hd hc) ap.i1z ap.l1z h1 h2 h3 h4 p (by simp;omega) λh' eb=>⟨rfl,I.oS (t':=s.toks) (ch:=[z,i1]) (λc o hc q=>by
   simp only [List.mem_cons,List.not_mem_nil,or_false,not_or] at hc
   exact eb c o hc.1 hc.2 q) (λc hc=>hf c (by
    simp only [List.mem_cons,List.not_mem_nil,or_false] at hc
    rcases hc with rfl | rfl<;>simp))⟩
 self:=λ_ _ _ _ _ st h=>wpAny_pyIter_zip st.1 h
def zm (k1 k2:Sd) (K:PySem.W.Frag) (ta:TA):TI:=λσ H R=>ta σ H λvs H1=>∃ a b,vs=[.ref a,.ref b]/\(∃ xs,iG k1 K H1 a xs)/\(∃ ys,iG k2 K H1 b ys)/\R (xJ k1 k2 K a b) H1
theorem oY:bootBuiltins "zip"=some (.type "zip"):=by decide +kernel
theorem jI {K:PySem.W.Frag} {k1 k2:Sd} {a b:Addr} {xs ys:List V} {js:List (Option Nat)} {g:TG} {tt:TT} {te:TE} {σ:St} {Q:VK} {H1:Hp} (Pv:Nat->List V->Hp->Prop) (h0:Pv 0 [] H1) (hxy:xs.length=ys.length) (hx:xs.length<=sizeLine) (hl:∀ i zs H,i<=xs.length->Pv i zs H->iG k1 K H a xs/\iG k2 K H b ys/\zs.length<=i)
  (hs:∀ i x y zs H p,xs[i]?=some x->ys[i]?=some y->Pv i zs H->H p=none->g (.ref p) (dJ js σ) (upd H p (.tup [x,y])) λσ2 H2=>bO (dJ js σ) σ2/\tt σ2 H2 λc H3=>if c=true then te σ2 H3 λv H4=>Pv (i+1) (zs++[v]) H4 else Pv (i+1) zs H3)
  (hd:∀ zs H p,Pv xs.length zs H->H p=none->Q (.ref p) (upd H p (.lst zs))):lj (xJ k1 k2 K a b) js g tt te σ Q H1:=by
 refine⟨λi m zs H=>m=xs.length-i/\i<=xs.length/\Pv i zs H,⟨xs.length,by simp,Nat.zero_le _,h0⟩,?_⟩
 rintro i m zs H ⟨rfl,hi,p⟩
 obtain⟨q,q',hy⟩:=hl i zs H hi p
 by_cases hlt:i<xs.length
 ·refine .inr ⟨⟨xs,ys,xs[i],ys[i],q,q',by simp [hlt],by simp⟩,by omega,Pv (i+1),λys' H' p'=>⟨xs.length-(i+1),by omega,rfl,hlt,p'⟩,λx H' y=>?_⟩
  obtain⟨pt,u,v,f,e1,e2,e3,e4⟩:=y
  subst e1 e4
  exact hs i u v zs _ pt (e2 xs q) (e3 ys q') p f
 ·have e:i=xs.length:=by omega
  subst e
  exact .inl ⟨⟨xs,q,Nat.le_refl _⟩,by omega,λp' hp'=>hd zs H p' p hp'⟩
end L2
namespace Num
theorem wL {p x y:Int} {m:Nat} (h:Al p x y) (o:Ord p x m):Ord p y m:=⟨o.pos,(h.pow m).symm.trans o.one,λj z=>o.dv j ((h.pow j).trans z)⟩
def eN:List (Int × Int)->Nat
 | []=>1
 | p::r=>p.1.toNat^p.2.toNat*eN r
theorem gK:∀ a b:List (Int × Int),eN (a++b)=eN a*eN b
 | [],b=>by simp [eN]
 | p::r,b=>by
  show p.1.toNat^p.2.toNat*eN (r++b)=p.1.toNat^p.2.toNat*eN r*eN b
  rw [gK r b,Nat.mul_assoc]
theorem fS:∀ a:List (Int × Int),(∀ p∈a,Pm p.1)->(eN a:Int)=bf a
 | [],_=>rfl
 | p::r,h=>by
  have t:=(h p (List.mem_cons_self ..)).two
  show ((p.1.toNat^p.2.toNat*eN r:Nat):Int)=p.1^p.2.toNat*bf r
  rw [Int.natCast_mul,Int.natCast_pow,fS r λx z=>h x (List.mem_cons_of_mem _ z),show (p.1.toNat:Int)=p.1 by omega]
theorem mY:∀ a:List (Int × Int),(∀ p∈a,Pm p.1)->0<eN a
 | [],_=>Nat.one_pos
 | p::r,h=>by
  have t:=(h p (List.mem_cons_self ..)).two
  exact Nat.mul_pos (Nat.pow_pos (by omega)) (mY r λx z=>h x (List.mem_cons_of_mem _ z))
theorem qK {q m:Nat} (h:Nm q) (hm:¬q∣m) (k:Nat):Nat.Coprime (q^k) m:=Nat.Coprime.pow_left k (h.co hm)
theorem va {q:Int} (hq:Pm q) {b:List (Int × Int)} (hb:∀ p∈b,Pm p.1) (ne:∀ p∈b,p.1≠q):¬q.toNat∣eN b:=λz=>by
 have t:=hq.two
 have:q∣bf b:=by
  rw [<- fS b hb]
  have:=Int.natCast_dvd_natCast.mpr z
  rwa [show (q.toNat:Int)=q by omega] at this
 obtain⟨p,hp,e⟩:=bR hq hb this
 exact ne p hp e
theorem qS {b:List (Int × Int)} (hb:∀ p∈b,Pm p.1):∀ a:List (Int × Int),(∀ p∈a,Pm p.1)->(∀ x∈a,∀ y∈b,y.1≠x.1)->Nat.Coprime (eN a) (eN b)
 | [],_,_=>Nat.coprime_one_left _
 | p::r,h,ne=>by
  have hp:=h p (List.mem_cons_self ..)
  exact Nat.Coprime.mul_left (qK (lR hp) (va hp hb (ne p (List.mem_cons_self ..))) _) (qS hb r (λx z=>h x (List.mem_cons_of_mem _ z)) λx z=>ne x (List.mem_cons_of_mem _ z))
theorem ur {n a:Int} {q t:Nat} (hq:Nm q) (h:Al n (a^q^t) 1) (no:∀ j,j<t->¬Al n (a^q^j) 1):Ord n a (q^t):=by
 have q2:=hq.1
 obtain⟨m,o,_⟩:=kJ (N:=q^t) (Nat.pow_pos (by omega)) h
 have d:=o.dv _ h
 cases t with
 | zero =>
  have:m=1:=Nat.eq_one_of_dvd_one (by simpa using d)
  rw [this] at o
  simpa using o
 | succ k =>
  have:m=q^(k+1):=oI hq k m d λz=>no k (Nat.lt_succ_self _) (by
   obtain⟨c,hc⟩:=z
   rw [hc]
   exact aV o.one)
  rw [<- this]
  exact o
theorem dA {a:Int} {x y:Nat}:(a^x)^y=a^(x*y):=by rw [Int.pow_mul]
theorem nK {n a:Int} {M1 M2 E1 E2:Nat} (co:Nat.Coprime M1 M2) (p1:0<M1) (p2:0<M2) (h:Al n (a^(M1*M2)) 1) (o1:Ord n (a^M2) E1) (o2:Ord n (a^M1) E2):Ord n a (E1*E2):=by
 have d1:E1∣M1:=o1.dv M1 (by rw [dA,Nat.mul_comm];exact h)
 have d2:E2∣M2:=o2.dv M2 (by rw [dA];exact h)
 obtain⟨c1,hc1⟩:=d1
 obtain⟨c2,hc2⟩:=d2
 obtain⟨e,o,_⟩:=kJ (Nat.mul_pos p1 p2) h
 have x1:e∣M2*E1:=o.dv _ (by rw [<- dA];exact o1.one)
 have x2:e∣M1*E2:=o.dv _ (by rw [<- dA];exact o2.one)
 have cc:Nat.Coprime c2 c1:=by
  have:Nat.Coprime c1 c2:=Nat.Coprime.coprime_dvd_left ⟨E1,by rw [hc1,Nat.mul_comm]⟩ (Nat.Coprime.coprime_dvd_right ⟨E2,by rw [hc2,Nat.mul_comm]⟩ co)
  exact this.symm
 have x3:e∣E1*E2:=by
  have:=Nat.dvd_gcd x1 x2
  rw [show M2*E1=E1*E2*c2 by rw [hc2];rw [Nat.mul_comm (E2*c2) E1,Nat.mul_assoc],show M1*E2=E1*E2*c1 by rw [hc1];rw [Nat.mul_assoc,Nat.mul_comm c1 E2,Nat.mul_assoc],Nat.gcd_mul_left,cc.gcd_eq_one,Nat.mul_one] at this
  exact this
 have ce:Nat.Coprime E1 E2:=Nat.Coprime.coprime_dvd_left ⟨c1,hc1⟩ (Nat.Coprime.coprime_dvd_right ⟨c2,hc2⟩ co)
 refine⟨Nat.mul_pos o1.pos o2.pos,?_,λj hj=>?_⟩
 ·obtain⟨c,hc⟩:=x3
  rw [hc]
  exact aV o.one
 ·refine ce.mul_dvd_of_dvd_of_dvd (o1.dv j ?_) (o2.dv j ?_)
  ·rw [dA,Nat.mul_comm,<- dA]
   have:=hj.pow M2
   rwa [Int.one_pow] at this
  ·rw [dA,Nat.mul_comm,<- dA]
   have:=hj.pow M1
   rwa [Int.one_pow] at this
structure TO (n a:Int) (ps:List (Int × Int)) (ts:List Int):Prop where
 len:ts.length=ps.length
 nn:∀ t∈ts,0<=t
 ord:Ord n a (eN ((ps.map (·.1)).zip ts))
theorem TO.al {n a b:Int} {ps:List (Int × Int)} {ts:List Int} (h:TO n a ps ts) (e:Al n a b):TO n b ps ts:=⟨h.len,h.nn,wL e h.ord⟩
theorem TO.none {n a:Int} (h:Al n a 1):TO n a [] []:=⟨rfl,λ_ z=>by simp at z,⟨Nat.one_pos,by show Al n (a^1) 1;rw [Int.pow_one];exact h,λj _=>Nat.one_dvd j⟩⟩
theorem TO.one {n a q k:Int} {t:Nat} (hq:Pm q) (h:Al n (a^q.toNat^t) 1) (no:∀ j,j<t->¬Al n (a^q.toNat^j) 1):TO n a [(q,k)] [(t:Int)]:=by
 refine⟨rfl,λx z=>?_,?_⟩
 ·rw [List.mem_singleton.mp z];omega
 ·show Ord n a (q.toNat^(t:Int).toNat*1)
  rw [Nat.mul_one,Int.toNat_natCast]
  exact ur (lR hq) h no
theorem TO.two {n a:Int} {as bs:List (Int × Int)} {ts us:List Int} (ha:∀ p∈as,Pm p.1) (hb:∀ p∈bs,Pm p.1) (ne:∀ x∈as,∀ y∈bs,y.1≠x.1) (h:Al n (a^eN (as++bs)) 1) (h1:TO n (a^eN bs) as ts) (h2:TO n (a^eN as) bs us):TO n a (as++bs) (ts++us):=by
 refine⟨by rw [List.length_append,List.length_append,h1.len,h2.len],λt z=>(List.mem_append.mp z).elim (h1.nn t) (h2.nn t),?_⟩
 rw [List.map_append,List.zip_append (by rw [List.length_map,h1.len]),gK]
 rw [gK] at h
 exact nK (qS hb as ha ne) (mY as ha) (mY bs hb) h h1.ord h2.ord
end Num
namespace L2
open PySem PySem.Spec PyProof.Rows
section
variable {prog:Program} {w:World} {A:Around} {E:Value->Shared->Prop} {s:Shared}
end
def yW (K:PySem.W.Frag) (a:Addr):It :=
 ⟨λi H=>∃ xs x,aQ K H a xs/\xs[i]?=some x,λi H x H'=>∃ p v,H p=none/\x=.ref p/\(∀ xs,aQ K H a xs->xs[i]?=some v)/\H'=upd H p (.tup [.int i,v]),λi H=>∃ xs,aQ K H a xs/\xs.length<=i⟩
def wj (K:PySem.W.Frag) (ta:TA):TI:=λσ H R=>ta σ H λvs H1=>∃ a,vs=[.ref a]/\(∃ xs,aQ K H1 a xs)/\R (yW K a) H1
def vj (K:PySem.W.Frag) (ta:TA):TI:=λσ H R=>ta σ H λvs H1=>∃ a b k1 k2,vs=[.ref a,.ref b]/\(∃ xs,iG k1 K H1 a xs)/\(∃ ys,iG k2 K H1 b ys)/\R (xJ k1 k2 K a b) H1
theorem oH {X:Cx} {elts:List Expr} {x1} {tpos:Pos} {a b:Expr} {ta:TA} {p pos:Pos} (hg:Gl X "zip") (hm:X.mg "zip"=none) (ha:PA X [a,b] ta) (hs:starEach [a,b] X.env=[(false,eval a X.env),(false,eval b X.env)]:=by rfl) (hs2:starEach [b] X.env=[(false,eval b X.env)]:=by rfl) :
  PI X (.Tuple elts x1 tpos) (.Call (.Name "zip" p) [a,b] [] pos) (vj X.K ta):=by
 intro pins s σ H R I h
 refine Call_ (iN I hg hm oY (PyProof.Rows.callWith_type1 (bH (ha pos pins s σ H _ I h) λus s1 ⟨vs,H1,I1,r1,q1⟩=>?_) (by rw [hs,hs2]) (by rw [hs2];rfl)))
 obtain⟨a',b',k1,k2,e,⟨xs,hq1⟩,⟨ys,hq2⟩,q⟩:=q1
 subst e
 cases r1 with
 | cons r rr =>
  cases rr with
  | cons r' rr' =>
   cases rr'
   cases r
   cases r'
   obtain⟨its1,rv1,p1⟩:=I1.yr hq1
   obtain⟨its2,rv2,p2⟩:=I1.yr hq2
   refine qI p1 p2 λh' hz hTI hTO j1 j2 hk=>?_
   refine wpAny_pyIter_zip hz ?_
   have I2:Inv X pins σ H1 { s1 with heap:=h' }:=I1.kept (t':=s1.toks) hk
   refine⟨_,[s1.heap.objs.size+4,s1.heap.objs.size+2,s1.heap.objs.size+3,s1.heap.objs.size,s1.heap.objs.size+1],_,_,H1,rfl,I2,sJ (PyProof.Rows.zipApart_new p1.lt p2.lt),⟨hz,hTI,⟨_,_,hTO⟩,j1,j2⟩,λc hc=>?_,q⟩
   simp only [List.mem_cons,List.not_mem_nil,or_false] at hc
   rcases hc with rfl | rfl | rfl | rfl | rfl<;>exact I1.qU (by omega) (I1.hok.fresh (by omega))
end L2
namespace L2
open PySem PySem.Spec PyProof.Rows PySem.W
end L2
namespace L2
open PySem PySem.Spec PyProof.Rows
end L2
namespace L2
open PySem PySem.Spec PyProof.Rows PySem.W
section
variable {prog:Program} {w:World} {A:Around} {E:Value->Shared->Prop} {K:PySem.W.Frag} {h:Heap} {g:Array GenState} {d:Drawn} {t:Nat} {os:OsState} {x C B:Addr}
end
section
variable {X:Cx} {pins:List (Addr × Obj)} {σ:St} {H:Hp} {s:Shared} {x:Addr}
end
section
variable {X:Cx} {B:Addr} {n:Option Nat} {hd:ExceptHandler} {ts:TS}
variable {B2:Addr} {n2:Option Nat} {hd2:ExceptHandler} {ts2:TS}
def yG (K:PySem.W.Frag) (B:Addr) (n:Option Nat) (B2:Addr) (n2:Option Nat) (sp:Sp) (ta:TA) (put:V->St->St) (ts ts2:TS):TS:=λD σ H=>ta σ H λvs H1=>sp vs H1 (λv H2=>D.nx (put v σ) H2)
 (λcv xo H2=>∃ C x dd,cv=.ref C/\xo=some x/\H2 x=some (XO x C dd)/\dk K C/\((mroIn K C (.ref B)=some true/\ts (ou n D) (tL n x σ) H2)∨(mroIn K C (.ref B)=some false/\mroIn K C (.ref B2)=some true/\ts2 (ou n2 D) (tL n2 x σ) H2)))
variable {k:Nat} {f:Str} {ps:List Str} {sp:Sp} {e:Expr} {es:List Expr} {t:TA} {p cpos epos pos:Pos}
end
namespace HT
section
variable {prog:Program} {w:World} {A:Around} {E:Value->Shared->Prop} {s:Shared}
theorem qJ {t b:Addr} {ws:List Value} {Q:Value->Shared->Prop} (ht:IsTup s.heap t ([]:List Value).toArray) (hb:IsTup s.heap b ws.toArray)
  (h1:Q (.ref b) s):wpAny (model prog w) A (binaryOp .Add (.ref t) (.ref b)) Q E s:=by
 obtain⟨⟨cls,dd,data,sl⟩,ho,hc,n,hd⟩:=id ht
 obtain⟨⟨cls2,dd2,data2,sl2⟩,ho2,hc2,n2,hd2⟩:=id hb
 simp only at hc hd hc2 hd2
 subst hc hd hc2 hd2
 exact concat_meets ⟨_,ho,rfl⟩ ⟨_,ho2,rfl⟩ noFill_tuple_add seq_tuple_add PySem.F.slot_tuple_add PySem.F.entry_tuple_add (PySem.F.args_tuple_add_2 _ _)
   (tuple_addW0 t b ([]:List Value).toArray ws.toArray n n2 dd dd2 sl sl2 (by simp)) ⟨ho,ho2,h1⟩
end
end HT
def rQ (K:PySem.W.Frag):R2:=λx y H Q=>∃ a b xs ys,x=.ref a/\y=.ref b/\aQ K H a xs/\aQ K H b ys/\xs.length+ys.length<=sizeLine/\∀ p H',aB H H'->aQ K H' p (xs++ys)->Q (.ref p) H'
theorem cZ {X:Cx}:fz X (binaryOp .Add) (rQ X.K):=by
 intro pins s σ H x y v u Q I rx ry h
 obtain⟨a,b,xs,ys,rfl,rfl,ha,hb,hz,q⟩:=h
 by_cases e:xs=[]
 ·subst e
  cases rx
  cases ry
  obtain⟨its,r1,p1,_⟩:=I.tuple ha
  obtain⟨its2,r2,p2,_⟩:=I.tuple hb
  have e1:its=[]:=r1.iA.mpr rfl
  subst e1
  exact HT.qJ p1 p2 ⟨.ref b,H,I,rfl,q b H (aB.refl _) hb⟩
 ·refine uo pins s σ H _ _ v u Q I rx ry ⟨a,b,xs,ys,rfl,rfl,ha,hb,e,hz,λz=>q a H (aB.refl _) (by rw [z,List.append_nil];exact ha),λ_ p hp=>q p _ (ak hp) (aQ.of ah)⟩
end L2
namespace L2
open PySem PySem.Spec PyProof.Rows PySem.W
namespace Tsl
open _root_.HT
section
variable {prog:Program} {w:World} {A:Around} {E:Value->Shared->Prop} {s:Shared}
theorem mI {t sl:Addr} {items:Array Value} {vl vu:Value} {lo hi:Option Int} {Q:Value->Shared->Prop} (ht:IsTup s.heap t items) (hs:s.heap.IsSliceOf sl vl vu .none) (pl:IsPart vl lo) (pu:IsPart vu hi)
  (h0:cG items.size 0 lo=0) (h1:cG items.size items.size hi=items.size) (q:Q (.ref t) s):wpAny (model prog w) A (getItem (.ref t) (.ref sl)) Q E s:=by
 obtain⟨os,hos,hcs,hds⟩:=id hs
 have hTs:s.TypeIs (.ref sl) "slice":=⟨os,hos,hcs⟩
 unfold getItem
 try with_reducible refine wpAny_holding ?_
 first | refine wpAny_bind (wpAny_pure ?_) | skip
 refine wpAny_bind (wpAny_sequenceKey ht.typeIs (by decide) ?_)
 refine wpAny_bind (wpAny_callSpecial?_slot (name:=Str.ofString "__getitem__") ht.typeIs slot_tuple_getitem (wpAny_call_entry slot_tuple_getitem ht.typeIs entry_tuple_getitem ?_ (args_tuple_getitem _ _)))
 show wpAny _ _ (Builtin.Tuple.tupleItemsOf _ >>= _) _ _ _
 refine wpAny_bind (tupleItemsOf_ ht ?_)
 refine wpAny_bind (wpAny_typeOf hTs ?_)
 rw [if_pos (by decide)]
 refine wpAny_bind (d8 hs pl pu ?_)
 rw [h0,h1]
 dsimp only
 rw [if_pos (by simp)]
 unfold Builtin.Tuple.tupleIsExact
 refine wpAny_bind (wpAny_bind (wpAny_typeOf ht.typeIs (wpAny_pure ?_)))
 rw [if_pos (by decide)]
 first
  | exact wpAny_bind (wpAny_rule (wpAny_pure ⟨_,rfl,wpAny_pure q⟩))
  | (refine wpAny_bind (m:=rule _) (wpAny_pure ?_);exact wpAny_pure ⟨_,rfl,wpAny_pure q⟩)
  | (unfold rule;wp_walk)
theorem lJ {α β:Type} {f g:α->Option β}:∀{l:List α},(∀ x∈l,f x=g x)->l.filterMap f=l.filterMap g
 | [],_=>rfl
 | x::l,h=>by rw [List.filterMap_cons,List.filterMap_cons,h x (List.mem_cons_self ..),lJ λy hy=>h y (List.mem_cons_of_mem _ hy)]
theorem oX (xs:Array Value):((List.range xs.size).filterMap fun(m:Nat)=>xs[((xs.size:Int)-1+(m:Int) * -1).toNat]?).toArray=xs.toList.reverse.toArray:=by
 rw [<- krv_pick]
 unfold slicePick
 rw [krv_bounds]
 show _=((sliceRange ((xs.size:Int)-1) (-1) (-1)).filterMap (xs[·]?)).toArray
 rw [krv_sliceRange,List.filterMap_map]
 congr 1
 exact lJ λm hm=>by
  have:=List.mem_range.mp hm
  show xs[((xs.size:Int)-1+(m:Int) * -1).toNat]?=xs[xs.size-1-m]?
  congr 1
  omega
theorem lz (n:Nat):Builtin.Slice.sliceAdjust none none (-1) (n:Int)=((n:Int)-1,-1):=by
 unfold Builtin.Slice.sliceAdjust
 simp
theorem lA (n:Nat):Builtin.Slice.slicePlaces ((n:Int)-1) (-1) (-1)=n:=by
 unfold Builtin.Slice.slicePlaces
 simp
 omega
theorem gz {sl:Addr} {vk:Value} {n:Nat} {Q:Int × Int × Nat->Shared->Prop} (hs:s.heap.IsSliceOf sl .none .none vk) (pk:IsPart vk (some (-1)))
  (h:Q ((n:Int)-1,-1,n) s):wpAny (model prog w) A (Builtin.Slice.sliceApplied (.ref sl) (pure (n:Int))) Q E s:=by
 obtain⟨os,hos,hcs,hds⟩:=id hs
 unfold Builtin.Slice.sliceApplied Builtin.Slice.sliceFields
 refine wpAny_bind (wpAny_bind (wpAny_field hos hds (x:=.none) rfl (wpAny_bind (wpAny_field hos hds (x:=.none) rfl (wpAny_bind (wpAny_field hos hds (x:=vk) rfl (wpAny_pure ?_)))))))
 refine wpAny_bind (fK pk ?_)
 dsimp only
 rw [if_neg (by decide)]
 refine wpAny_bind (slicePart_none (wpAny_bind (slicePart_none (wpAny_bind (wpAny_pure ?_)))))
 show wpAny _ _ (pure ((Builtin.Slice.sliceAdjust none none (-1) (n:Int)).1,(-1:Int),Builtin.Slice.slicePlaces (Builtin.Slice.sliceAdjust none none (-1) (n:Int)).1 (Builtin.Slice.sliceAdjust none none (-1) (n:Int)).2 (-1))) _ _ s
 rw [lz]
 dsimp only
 rw [lA]
 exact wpAny_pure h
theorem nS {t sl:Addr} {items:Array Value} {vk:Value} {Q:Value->Shared->Prop} (ht:IsTup s.heap t items) (hs:s.heap.IsSliceOf sl .none .none vk) (pk:IsPart vk (some (-1))) (hz:items.size<=sizeLine)
  (q:Q (.ref s.heap.objs.size) { s with heap:=s.heap.push { cls:=.type "tuple",data:=.seq items.toList.reverse.toArray } }):wpAny (model prog w) A (getItem (.ref t) (.ref sl)) Q E s:=by
 obtain⟨os,hos,hcs,hds⟩:=id hs
 have hTs:s.TypeIs (.ref sl) "slice":=⟨os,hos,hcs⟩
 have hsz:sizeOk (.seq items.toList.reverse.toArray):=by
  show items.toList.reverse.toArray.size<=sizeLine
  rw [List.size_toArray,List.length_reverse,Array.length_toList]
  exact hz
 unfold getItem
 try with_reducible refine wpAny_holding ?_
 first | refine wpAny_bind (wpAny_pure ?_) | skip
 refine wpAny_bind (wpAny_sequenceKey ht.typeIs (by decide) ?_)
 refine wpAny_bind (wpAny_callSpecial?_slot (name:=Str.ofString "__getitem__") ht.typeIs slot_tuple_getitem (wpAny_call_entry slot_tuple_getitem ht.typeIs entry_tuple_getitem ?_ (args_tuple_getitem _ _)))
 show wpAny _ _ (Builtin.Tuple.tupleItemsOf _ >>= _) _ _ _
 refine wpAny_bind (tupleItemsOf_ ht ?_)
 refine wpAny_bind (wpAny_typeOf hTs ?_)
 rw [if_pos (by decide)]
 refine wpAny_bind (gz hs pk ?_)
 dsimp only
 rw [if_neg (by simp),oX]
 first
  | exact wpAny_bind (m:=Builtin.Tuple.tupleExact _) (wpAny_newObj_type (wpAny_pure ⟨_,rfl,wpAny_pure q⟩) hsz)
  | exact wpAny_bind (wpAny_bind (m:=Builtin.Tuple.tupleExact _) (wpAny_newObj_type (wpAny_pure (wpAny_pure ⟨_,rfl,wpAny_pure q⟩)) hsz))
  | exact wpAny_bind (m:=Builtin.Tuple.tupleExact _) (wpAny_newObj_type (wpAny_bind (wpAny_pure (wpAny_pure ⟨_,rfl,wpAny_pure q⟩))) hsz)
  | exact wpAny_bind (wpAny_bind (m:=Builtin.Tuple.tupleExact _) (wpAny_newObj_type (wpAny_pure ⟨_,rfl,wpAny_pure q⟩) hsz))
end
end Tsl
def w6 (K:PySem.W.Frag):V->Option Int->Option Int->Hp->VK->Prop:=λx lo hi H Q=>∃ a xs,x=.ref a/\aQ K H a xs/\∀ p H',aB H H'->aQ K H' p (eQ xs lo hi)->Q (.ref p) H'
theorem mW {xs:List V} {lo hi:Option Int} (h0:HT.cG xs.length 0 lo=0) (h1:HT.cG xs.length xs.length hi=xs.length):eQ xs lo hi=xs:=by
 unfold eQ
 rw [h0,h1]
 simp
theorem c6 {X:Cx}:yO X (w6 X.K):=by
 intro pins s σ H x v vl vu lo hi sl Q I rx hs pl pu h
 obtain⟨a,xs,rfl,hx,q⟩:=h
 by_cases hw:HT.cG xs.length 0 lo=0/\HT.cG xs.length xs.length hi=xs.length
 ·cases rx
  obtain⟨its,r,ht,hz⟩:=I.tuple hx
  have hlen:its.toArray.size=xs.length:=by rw [List.size_toArray];exact r.length.symm
  refine⟨"tuple",_,slot_tuple_getitem.lookup,ht.typeIs,?_⟩
  refine Tsl.mI ht hs pl pu (by rw [hlen];exact hw.1) (by rw [hlen];exact hw.2) ?_
  exact⟨.ref a,H,I,rfl,q a H (aB.refl _) (by rw [mW hw.1 hw.2];exact hx)⟩
 ·exact xj pins s σ H _ v vl vu lo hi sl Q I rx hs pl pu ⟨a,xs,rfl,hx,hw,λp hp=>q p _ (ak hp) (aQ.of ah)⟩
def vS (K:PySem.W.Frag) (te:TE) (tk:TO):TE:=λσ H Q=>te σ H λx H1=>tk σ H1 λo H2=>o=some (-1)/\∃ a xs,x=.ref a/\aQ K H2 a xs/\∀ p,H2 p=none->Q (.ref p) (upd H2 p (.tup xs.reverse))
section
variable {X:Cx} {e k:Expr} {te:TE} {tk:TO} {p2 pos:Pos}
theorem ux (he:PE X e te) (hk:PO X (some k) tk)
  (hs:∀ a b:Addr,∃ ops,subscripted (.Slice none none (some k) p2) false (.ref a) (.ref b)=operate ops (getItem (.ref a) (.ref b)):=by intro a b;exact⟨_,by with_unfolding_all rfl⟩):PE X (.Subscript e (.Slice none none (some k) p2) pos) (vS X.K te tk):=by
 intro pins s σ H Q I h
 refine Subscript_ (bH (he pins s σ H _ I h) λv s1 ⟨x,H1,I1,r1,q1⟩=>?_)
 refine wpAny_Slice ?_
 rw [evalPart_none]
 refine wpAny_pure (wpAny_pure ?_)
 refine bH (hk pins s1 σ H1 _ I1 q1) λvk s3 ⟨o,H3,I3,pk,eo,a,xs,ex,hx,q3⟩=>?_
 subst eo
 subst ex
 cases r1
 have I4:Inv X pins σ H3 { s3 with heap:=s3.heap.push { cls:=.type "slice",data:=.fields #[.none,.none,vk] } }:=I3.kept (t':=s3.toks) λb ob q=>Heap.get?_push_of_some _ q
 obtain⟨its,r,ht,hz⟩:=I4.tuple hx
 have hlen:=r.length
 show wpAny (model X.prog X.w) X.A (subscriptTail e (.Slice none none (some k) p2) (.ref a) (.ref s3.heap.objs.size)) (EP X pins σ Q) X.xe { s3 with heap:=s3.heap.push { cls:=.type "slice",data:=.fields #[.none,.none,vk] } }
 obtain⟨ops,hops⟩:=hs a s3.heap.objs.size
 refine tail_any (ops:=ops) ht.typeIs slot_tuple_getitem.lookup ?_ hops
 refine Tsl.nS ht (Heap.IsSliceOf.new ..) pk (by rw [List.size_toArray]<;>omega) ?_
 refine⟨.ref _,_,I4.laid (t':=s3.toks) (o:=.tup xs.reverse) (λb ob q=>Heap.get?_push_of_some _ q) (Nat.le_refl _) ?_,rfl,q3 _ (I4.hok.fresh (Nat.le_refl _))⟩
 exact⟨by rw [List.length_reverse];exact hz,_,r.rev,IsTup.new _ _⟩
end
end L2
namespace L2
open PySem PySem.Spec PyProof.Rows
section
variable {prog:Program} {w:World} {K:Type} [DecidableEq K] {knd:HeapKind prog w K} {A:Around} {E:Value->Shared->Prop} {s:Shared}
end
end L2
namespace L2
open PySem PySem.Spec PyProof.Rows PySem.W
def xH (h:Heap) (d:Addr) (es:Array DictEntry) (ep:Nat):Prop:=∃ o,h.get? d=some o/\o.ExactDict/\o.data=.dict es ep
section
variable {P:Program} {w:World} {A:Around} {E:Value->Shared->Prop} {s:Shared} {d:Addr} {es:Array DictEntry} {ep:Nat}
theorem xH.type (x:xH s.heap d es ep):s.TypeIs (.ref d) "dict":=by obtain⟨o,a,c,_⟩:=x;exact⟨o,a,c.1⟩
end
section
variable {X:Cx} {pins:List (Addr × Obj)} {σ:St} {H:Hp} {s:Shared} {A:Around} {E:Value->Shared->Prop}
def xt (td ty:TE):TE:=λσ H Q=>td σ H λx H1=>∃ a,x=.ref a/\z9 H1 a/\ty σ H1 λy H2=>∃ kvs k b v,H2 a=some (.dT kvs)/\y=.ref b/\H2 b=some (.tup (k.map kV))/\gE kvs k=some v/\Q v (upd H2 a (.dT (xR kvs k)))
end
section
variable {P:Program} {w:World} {K:PySem.W.Frag} {mg:Str->Option Value} {base:Heap} {CX:iE} {k:Nat} {C:Addr} {m qual x:Str} {ps:List Str} {sp:Sp} {st:Stmt}
structure yL (P:Program) (w:World) (K:PySem.W.Frag) (mg:Str->Option Value) (base:Heap) (CX:iE) (k:Nat) (C:Addr) (m:Str) (ps:List Str) (sp:Sp):Prop where
 ex:∃ f fd,Meth K C m f/\cS P w K mg base CX k f fd ps sp/\Binds K fd ps []
variable {X:Cx} {E:XK} {o e:Expr} {es:List Expr} {ta:TE} {t:TA} {p apos pos:Pos}
structure z8 (K:PySem.W.Frag) (x qual:Str) (st:Stmt) (f:Addr) (fd:FuncData) (ds:Array Value):Prop where
 ex:∃(oc:Value) (od:Option Addr) (T:Addr) (o:Obj) (n:Nat) (kV doc pm:Value) (an:Option Addr) (cdv ct:Value) (osl:Array (Option Value)),
  fd=fnOf x qual (bM st) (aR st) (aj st) (.ref T) kV doc pm an cdv ct/\K.lookup f=some ⟨oc,od,.func fd,osl⟩/\codeIn K cdv qual=true/\K.lookup T=some o/\o.data=.seq ds n
 kp:keepIn K (.ref f)=true
end
end L2
namespace L2
open PySem PySem.Spec PyProof.Rows
def zW (q:Nat):Nat->Nat->Nat
 | 0,m=>m
 | f+1,m=>if q<=m*m then m else zW q f (m+1)
def rt (q:Nat):Nat:=zW q q 0
def zK (p w:Int) (m:Nat):List (Key × V):=(List.range m).map λi:Nat=>(Sum.inl (w^i%p),V.int (i:Int))
end L2
namespace Num
theorem Ord.co {n a:Int} {m:Nat} (o:Ord n a m):Co a n:=by
 obtain⟨k,hk⟩:∃ k,m=k+1:=⟨m-1,by have:=o.pos;omega⟩
 exact Co.wC (m:=k) (by rw [<- hk];exact o.one)
def eA (x q n:Nat):List Nat:=(List.range n).map λi=>x/q^i%q
theorem dS {x q n:Nat}:(eA x q n).length=n:=by unfold eA;rw [List.length_map,List.length_range]
theorem jJ {x q n:Nat}:eA x q (n+1)=eA x q n++[x/q^n%q]:=by unfold eA;rw [List.range_succ,List.map_append];rfl
theorem jZ {p a b:Int} {e x y:Nat} (o:Ord p b e) (hx:x<e) (hy:y<e) (h1:Al p a (b^x)) (h2:Al p a (b^y)):x=y:=o.inj o.co hx hy (h1.symm.trans h2)
end Num
namespace L2
open PySem PySem.Spec PyProof.Rows
def vU (a d:Addr) (H H':Hp):Prop:=∀ b o,b≠a->b≠d->H b=some o->H' b=some o
theorem vU.trans {a d:Addr} {H H1 H2:Hp} (h:vU a d H H1) (h':vU a d H1 H2):vU a d H H2:=λb o x y e=>h' b o x y (h b o x y e)
structure KH where
 a:Addr
 dx:Addr
 d:Addr
 most:Int
 c:Int
 ks:List (Int × Int × Int)
def k3 (x:Int × Int × Int):List Key:=[.inl x.1,.inl x.2.1,.inl x.2.2]
def Ai (k:KH):List (Str × V):=[("most",.int k.most),("counted",.int k.c),("laid",.ref k.d)]
def KTab (H:Hp) (x:Int × Int × Int) (v:V):Prop:=∃ t,v=.ref t/\H t=some (.dK (zK x.1 x.2.2 (rt x.2.1.toNat)))
structure yZ (H:Hp) (k:KH) (kvs:List (List Key × V)):Prop where
 dict:H k.d=some (.dT kvs)
 keys:kvs.map (·.1)=k.ks.map k3
 nd:k.ks.Nodup
 tab:∀ x v,gE kvs (k3 x)=some v->KTab H x v
structure jr (C:Addr) (k:KH) (H:Hp):Prop where
 ins:H k.a=some (.ins C k.dx (Ai k))
 ex:∃ kvs,yZ H k kvs
 m0:0<=k.most
 m1:k.most<=10^6
section
variable {C:Addr} {k:KH} {H H':Hp} {kvs:List (List Key × V)}
theorem yZ.len (h:yZ H k kvs):kvs.length=k.ks.length:=by have:=congrArg List.length h.keys;simpa using this
theorem jr.ne (h:jr C k H):k.a≠k.d:=by
 obtain⟨kvs,z⟩:=h.ex
 exact jS h.ins z.dict (by intro z;cases z)
theorem jr.apart (h:jr C k H) {b:Addr} {o:HO} (e:H b=some o) (h1:∀ C dx fs,o≠.ins C dx fs) (h2:∀ kvs,o≠.dT kvs):b≠k.a/\b≠k.d:=by
 obtain⟨kvs,z⟩:=h.ex
 exact⟨jS e h.ins (h1 _ _ _),jS e z.dict (h2 _)⟩
theorem jr.keep (h:jr C k H) (bt:vU k.a k.d H H') {b:Addr} {o:HO} (e:H b=some o) (h1:∀ C dx fs,o≠.ins C dx fs:=by intro _ _ _ z;cases z) (h2:∀ kvs,o≠.dT kvs:=by intro _ z;cases z):H' b=some o :=
 let ⟨x,y⟩:=h.apart e h1 h2;bt b o x y e
theorem jr.fA (h:jr C k H) (bt:vU k.a k.d H H'):∀ a xs,Rd H a (.tup xs)->Rd H' a (.tup xs):=by
 intro a xs z
 rcases z with z | ⟨o,z⟩
 ·exact .inl (h.keep bt z)
 ·exact .inr ⟨o,h.keep bt z⟩
theorem jr.dv {K:PySem.W.Frag} (h:jr C k H) (bt:vU k.a k.d H H') {d:PyData} {v:V} (nl:wA d=true) (x:dv K H d v):dv K H' d v:=dv.fA (h.fA bt) d nl x
end
section
variable {K:PySem.W.Frag} {H H':Hp}
mutual
theorem dv.gX (kt:∀ a xs,aQ K H a xs->aQ K H' a xs) (kl:∀ a xs,aT K H a xs->aT K H' a xs):∀(d:PyData) {v:V},dv K H d v->dv K H' d v
 | .none,_,h=>h
 | .bool _,_,h=>h
 | .int _,_,h=>h
 | .str _,_,h=>h
 | .list ds,_,⟨q,xs,e,h,t⟩=>⟨q,xs,e,kl _ _ h,aY.gX kt kl ds t⟩
 | .tuple ds,_,⟨q,xs,e,h,t⟩=>⟨q,xs,e,kt _ _ h,aY.gX kt kl ds t⟩
 | .dict _,_,h=>h.elim
theorem aY.gX (kt:∀ a xs,aQ K H a xs->aQ K H' a xs) (kl:∀ a xs,aT K H a xs->aT K H' a xs):∀(ds:List PyData) {xs:List V},aY K H ds xs->aY K H' ds xs
 | [],_,h=>h
 | d::ds,_,⟨x,r,e,h,t⟩=>⟨x,r,e,dv.gX kt kl d h,aY.gX kt kl ds t⟩
end
mutual
def gd:PyData->Prop
 | .none=>True
 | .bool _=>True
 | .int i => -(10^90)<=i/\i<=10^90
 | .str x=>PyData.canLay0 (.str x)=true
 | .list ds=>iy ds
 | .tuple ds=>iy ds
 | _=>False
def iy:List PyData->Prop
 | []=>True
 | d::ds=>gd d/\iy ds
end
theorem cY:∀{ds:List PyData},iy ds↔∀ d∈ds,gd d
 | []=>⟨λ_ d h=>(List.not_mem_nil h).elim,λ_=>by simp only [iy]⟩
 | d::ds=>by
  simp only [iy]
  rw [cY,List.forall_mem_cons]
mutual
theorem gd.lay:∀(d:PyData),gd d->d.canLay0=true
 | .none,_=>rfl
 | .bool _,_=>rfl
 | .int _,_=>rfl
 | .str x,h=>by simp only [gd] at h;exact h
 | .list ds,h=>by simp only [gd] at h;simp only [PyData.canLay0];exact iy.lay ds h
 | .tuple ds,h=>by simp only [gd] at h;simp only [PyData.canLay0];exact iy.lay ds h
 | .dict _,h=>by simp only [gd] at h
theorem iy.lay:∀(ds:List PyData),iy ds->PyData.canLayAll0 ds=true
 | [],_=>rfl
 | d::ds,h=>by
  simp only [iy] at h
  simp only [PyData.canLayAll0]
  rw [gd.lay d h.1,iy.lay ds h.2]
  rfl
end
def GV (K:PySem.W.Frag) (H:Hp) (x:V):Prop:=∃ d,dv K H d x/\gd d
def bG (K:PySem.W.Frag) (H:Hp) (xs:List V):Prop:=∃ ds,aY K H ds xs/\iy ds
theorem GV.keep (kt:∀ a xs,aQ K H a xs->aQ K H' a xs) (kl:∀ a xs,aT K H a xs->aT K H' a xs) {x:V} (h:GV K H x):GV K H' x:=by
 obtain⟨d,h1,h2⟩:=h
 exact⟨d,dv.gX kt kl d h1,h2⟩
theorem GV.same {x:V} (h:GV K H x) (s:aB H H'):GV K H' x:=by
 obtain⟨d,h1,h2⟩:=h
 exact⟨d,dv.same s d h1,h2⟩
theorem bG.same {xs:List V} (h:bG K H xs) (s:aB H H'):bG K H' xs:=by
 obtain⟨d,h1,h2⟩:=h
 exact⟨d,aY.same s d h1,h2⟩
theorem bG.keep (kt:∀ a xs,aQ K H a xs->aQ K H' a xs) (kl:∀ a xs,aT K H a xs->aT K H' a xs) {xs:List V} (h:bG K H xs):bG K H' xs:=by
 obtain⟨d,h1,h2⟩:=h
 exact⟨d,aY.gX kt kl d h1,h2⟩
theorem bG.nil:bG K H []:=⟨[],rfl,by simp only [iy]⟩
theorem bG.cons {x:V} {xs:List V} (h:GV K H x) (g:bG K H xs):bG K H (x::xs):=by
 obtain⟨d,h1,h2⟩:=h
 obtain⟨ds,g1,g2⟩:=g
 exact⟨d::ds,⟨x,xs,rfl,h1,g1⟩,by simp only [iy];exact⟨h2,g2⟩⟩
theorem bG.app {xs ys:List V} (h:bG K H xs) (g:bG K H ys):bG K H (xs++ys):=by
 obtain⟨ds,h1,h2⟩:=h
 obtain⟨es,g1,g2⟩:=g
 refine⟨ds++es,aY.append h1 g1,cY.mpr λd hd=>?_⟩
 rcases List.mem_append.mp hd with z | z
 ·exact cY.mp h2 d z
 ·exact cY.mp g2 d z
theorem bG.all {xs:List V} (h:bG K H xs):∀ x∈xs,GV K H x:=by
 obtain⟨ds,h1,h2⟩:=h
 intro x hx
 obtain⟨i,hi,e⟩:=List.mem_iff_getElem.mp hx
 have hx':xs[i]?=some x:=by rw [<- e];exact List.getElem?_eq_getElem hi
 obtain⟨d,e1,hv⟩:=h1.get hx'
 exact⟨d,hv,cY.mp h2 d (List.mem_of_getElem? e1)⟩
theorem bG.of:∀{xs:List V},(∀ x∈xs,GV K H x)->bG K H xs
 | [],_=>bG.nil
 | x::xs,h=>bG.cons (h x (List.mem_cons_self ..)) (bG.of λy hy=>h y (List.mem_cons_of_mem _ hy))
theorem bG.cut {xs:List V} (lo hi:Option Int) (h:bG K H xs):bG K H (eQ xs lo hi):=bG.of λx hx=>by
 unfold eQ at hx
 exact h.all x (List.mem_of_mem_drop (List.mem_of_mem_take hx))
theorem bG.rev {xs:List V} (h:bG K H xs):bG K H xs.reverse:=bG.of λx hx=>h.all x (List.mem_reverse.mp hx)
theorem GV.tup {p:Addr} {xs:List V} (hS:aQ K H p xs) (h:bG K H xs):GV K H (.ref p):=by
 obtain⟨ds,h1,h2⟩:=h
 exact⟨.tuple ds,⟨p,xs,rfl,hS,h1⟩,by simp only [gd];exact h2⟩
theorem GV.lst {p:Addr} {xs:List V} (hS:aT K H p xs) (h:bG K H xs):GV K H (.ref p):=by
 obtain⟨ds,h1,h2⟩:=h
 exact⟨.list ds,⟨p,xs,rfl,hS,h1⟩,by simp only [gd];exact h2⟩
theorem GV.int {i:Int} (h0:-(10^90)<=i) (h1:i<=10^90):GV K H (.int i):=⟨.int i,rfl,by simp only [gd];exact⟨h0,h1⟩⟩
theorem GV.bo:GV K H .bo:=⟨.none,rfl,by simp only [gd]⟩
theorem GV.bl {b:Bool}:GV K H (.bl b):=⟨.bool b,rfl,by simp only [gd]⟩
theorem GV.str {x:Str} (h:PyData.canLay0 (.str x)=true):GV K H (.str x):=⟨.str x,rfl,by simp only [gd];exact h⟩
end
section
variable {X:Cx}
end
def qY:List Expr->Option TA
 | []=>some uT
 | e::es=>match e,qY es with
  | .Constant (.int i) _ _,some b=>some (mF (tC (.int i)) b)
  | _,_=>none
theorem kL {X:Cx}:∀{es:List Expr} {ta:TA},qY es=some ta->PA X es ta
 | [],ta,h=>by
  injection h with h
  subst h
  exact ae
 | e::es,ta,h=>by
  unfold qY at h
  split at h
  ·rename_i i x y b hb
   injection h with h
   subst h
   exact aa af (kL hb) rfl
  ·cases h
end L2
set_option maxHeartbeats 8000000
namespace K
open PySem PySem.Spec PyProof.Rows L2
def top (i:Nat):Stmt:=PySem.Challenge.pw_rootprime_k85_whole_wrong_powers_by_grea.main.body.getD i (.Pass ⟨0,0,0,0⟩)
theorem vm {us:List Value} (h:us.length=1):∃ a,us=[a]:=match us,h with | [a],_=>⟨a,rfl⟩
theorem vn {us:List Value} (h:us.length=2):∃ a b,us=[a,b]:=match us,h with | [a,b],_=>⟨a,b,rfl⟩
theorem vo {us:List Value} (h:us.length=3):∃ a b c,us=[a,b,c]:=match us,h with | [a,b,c],_=>⟨a,b,c,rfl⟩
theorem vq {us:List Value} (h:us.length=4):∃ a b c d,us=[a,b,c,d]:=match us,h with | [a,b,c,d],_=>⟨a,b,c,d,rfl⟩
theorem vt {us:List Value} (h:us.length=5):∃ a b c d e,us=[a,b,c,d,e]:=match us,h with | [a,b,c,d,e],_=>⟨a,b,c,d,e,rfl⟩
theorem vv {us:List Value} (h:us.length=6):∃ a b c d e f,us=[a,b,c,d,e,f]:=match us,h with | [a,b,c,d,e,f],_=>⟨a,b,c,d,e,f,rfl⟩
theorem c5 {N P:List Str} {sc:Scope} (a:sc.kind=.function:=by exact rfl) (b:sc.isCoroutine=false:=by exact rfl) (c:sc.isGenerator=false:=by exact rfl) (d:N.Nodup:=by decide +kernel) (e:N.take P.length=P:=by exact rfl) (f:∀ x∈P,sc.names.lookup x=some .local∨sc.names.lookup x=some .cell:=by decide +kernel) (g:∀ y∈sc.names,y.2≠.free:=by decide +kernel):ay N P sc:=⟨a,b,c,d,e,f,g⟩
theorem cW {F:PySem.W.Frag} {mg:Str->Option Value} {x:Str} {h:Heap} {f:Addr} {st:Stmt} {oc:Value} {od an:Option Addr} {osl:Array (Option Value)} {kV doc pm cdv ct:Value} (X:F.In h) (G:h.Ns mainGlobals mg) (a:PySem.W.nsIn F mainGlobals x=some (some (.ref f)):=by k_is) (l:F.lookup f=some ⟨oc,od,.func (PySem.W.fnOf x x (bM st) (aR st) (aj st) .none kV doc pm an cdv ct),osl⟩:=by k_is) (c:PySem.W.codeIn F cdv x=true:=by k_is) (kk:PySem.W.keepIn F (.ref f)=true:=by k_is):av (cR X) mg x st:=qN X G a l c kk
theorem sQ {X:Cx} {N':List Str} {js:List (Option Nat)} {scope:Scope} {cl:List (Str × Addr)} (clos:closureFor scope X.env=pure cl) (kind:scope.kind=.function) (nocell:∀ y∈scope.names,y.2=.cell->scope.names.lookup y.1=some .cell/\∀ p∈js.zip N',p.1.isSome=true->p.2≠y.1:=by decide +kernel) (names:∀ y∈scope.names,y.2=.local->scope.names.lookup y.1=some .local:=by decide +kernel) (sub:AllIn X.env cl:=by repeat (first | exact True.intro | refine⟨rfl,?_⟩)) (has:gG cl scope.names:=by repeat (first | exact True.intro | refine⟨rfl,?_⟩ | refine⟨True.intro,?_⟩)) (j:fM X scope cl js N':=by repeat (first | exact True.intro | refine⟨⟨rfl,rfl,.inl rfl,.inl rfl⟩,?_⟩)):iF X N' js scope cl:=v8 clos kind nocell names sub has j
theorem bV {X:Cx} {pos:Pos} {i:Nat} {x:Str} {e:Expr} {te:TE} {pos':Pos} (hN:X.N.Nodup) (he:PE X e te) (hi:X.N[i]?=some x:=by exact rfl) (hx:Loc X.env.scope x:=by exact Or.inl rfl) (hs:swapsWith e (some (.Name x pos')) pos.line X.env=pure false:=by rfl) (hf:X.fn x=true∨X.env.scope.names.lookup x=some .local:=by first | exact .inl rfl | exact .inr rfl | assumption):PS X (.Assign [.Name x pos'] e pos) (uQ te (dU i)):=cT hN hi hx he hs hf
theorem bF {X:Cx} {CX:iE} {k n:Nat} {x:Str} {ps:List Str} {sp:Sp} {E:XK} {e:Expr} {es:List Expr} {t:TA} {p pos:Pos} (C:Callee X.prog X.w X.K X.mg X.base CX k x ps sp) (hr:cm n X.A) (hx:Passes CX X E) (ha:PA X (e::es) t) (hm:k<=n:=by decide) (hg:Gl X x:=by exact rfl) (hdb:(x==("__debug__":Str))=false:=by decide) (he:starEach (e::es) X.env=(false,eval e X.env)::starEach es X.env:=by rfl) (hpl:(backTo pos (starEach es X.env)).any (·.1)=false:=by rfl):PE X (.Call (.Name x p) (e::es) [] pos) (mE sp [] E t):=aA C (hr.mono hm) hg hx ha hdb he hpl
theorem cO {P:Program} {w:World} {F:PySem.W.Frag} {mg:Str->Option Value} {base:Heap} {k:Nat} {x:Str} {ps:List Str} {sp:Sp} {st:Stmt} {N:List Str} (D:av F mg x st) (S:ay N ps (aj st))
  (hbody:∀(f:Addr) (cdv:Value) (A:Around) (outer:List Env) (s:Shared) (H:Hp) (vs:List V) (Q:VK) (E:XK),cm k (A.deeper (envOfC x (aj st) s.heap.objs.size f cdv))->sp vs H Q E->∃ t,ix (ei aM P w F mg base N x (aj st) f cdv A outer s H E).mL (aR st) t/\t { nx:=λ_ H'=>Q .bo H',rt:=Q } (start N vs) H)
  (hb:∀(kV doc pm:Value) (an:Option Addr) (cdv ct:Value) (us:List Value),us.length=ps.length->bindArgs (PySem.W.fnOf x x (bM st) (aR st) (aj st) .none kV doc pm an cdv ct) ⟨us,[]⟩=pure (ps.zip us):=by
    intro _ _ _ _ _ _ us hl
    first | (obtain⟨_,rfl⟩:=vm hl;exact rfl) | (obtain⟨_,_,rfl⟩:=vn hl;exact rfl) | (obtain⟨_,_,_,rfl⟩:=vo hl;exact rfl) | (obtain⟨_,_,_,_,rfl⟩:=vq hl;exact rfl) | (obtain⟨_,_,_,_,_,rfl⟩:=vt hl;exact rfl) | (obtain⟨_,_,_,_,_,_,rfl⟩:=vv hl;exact rfl))
  (len:∀ vs H Q E,sp vs H Q E->vs.length=ps.length:=by
    intro _ _ _ _ h
    first | (obtain⟨_,rfl,_⟩:=h;rfl) | (obtain⟨_,_,rfl,_⟩:=h;rfl) | (obtain⟨_,_,_,rfl,_⟩:=h;rfl) | (obtain⟨_,_,_,_,rfl,_⟩:=h;rfl) | (obtain⟨_,_,_,_,_,rfl,_⟩:=h;rfl) | (obtain⟨_,_,_,_,_,_,rfl,_⟩:=h;rfl) | (obtain⟨_,_,_,_,_,_,_,rfl,_⟩:=h;rfl) | (obtain⟨_,_,_,_,_,_,_,_,rfl,_⟩:=h;rfl) | (obtain⟨_,_,_,_,_,_,_,_,_,rfl,_⟩:=h;rfl) | (obtain⟨_,_,_,_,_,_,_,_,_,_,rfl,_⟩:=h;rfl) | (obtain⟨_,_,_,_,_,_,_,_,_,_,_,rfl,_⟩:=h;rfl) | (obtain⟨_,_,_,_,_,_,_,_,_,_,_,_,rfl,_⟩:=h;rfl) | (obtain⟨_,_,_,_,_,_,_,_,_,_,_,_,_,rfl,_⟩:=h;rfl) | (obtain⟨_,_,_,_,_,_,_,_,_,_,_,_,_,_,rfl,_⟩:=h;rfl) | (obtain⟨_,_,_,_,_,_,_,_,_,_,_,_,_,_,_,rfl,_⟩:=h;rfl)):Callee P w F mg base aM (k+1) x ps sp:=pB D hb S len hbody
theorem cX {P:Program} {w:World} {F:PySem.W.Frag} {mg:Str->Option Value} {base:Heap} {k:Nat} {x:Str} {ps:List Str} {sp:Sp} {st:Stmt} {N:List Str} (D:av F mg x st) (S:ay N ps (aj st))
  (hbody:∀(f:Addr) (cdv:Value) (A:Around) (outer:List Env) (s:Shared) (H:Hp) (vs:List V) (Q:VK) (E:XK),cm k (A.deeper (envOfC x (aj st) s.heap.objs.size f cdv))->sp vs H Q E->∃ t,ix (ei (fu P w) P w F mg base N x (aj st) f cdv A outer s H E) (aR st) t/\t { nx:=λ_ H'=>Q .bo H',rt:=Q } (start N vs) H)
  (hb:∀(kV doc pm:Value) (an:Option Addr) (cdv ct:Value) (us:List Value),us.length=ps.length->bindArgs (PySem.W.fnOf x x (bM st) (aR st) (aj st) .none kV doc pm an cdv ct) ⟨us,[]⟩=pure (ps.zip us):=by
    intro _ _ _ _ _ _ us hl
    first | (obtain⟨_,rfl⟩:=vm hl;exact rfl) | (obtain⟨_,_,rfl⟩:=vn hl;exact rfl) | (obtain⟨_,_,_,rfl⟩:=vo hl;exact rfl) | (obtain⟨_,_,_,_,rfl⟩:=vq hl;exact rfl) | (obtain⟨_,_,_,_,_,rfl⟩:=vt hl;exact rfl) | (obtain⟨_,_,_,_,_,_,rfl⟩:=vv hl;exact rfl))
  (len:∀ vs H Q E,sp vs H Q E->vs.length=ps.length:=by
    intro _ _ _ _ h
    first | (obtain⟨_,rfl,_⟩:=h;rfl) | (obtain⟨_,_,rfl,_⟩:=h;rfl) | (obtain⟨_,_,_,rfl,_⟩:=h;rfl) | (obtain⟨_,_,_,_,rfl,_⟩:=h;rfl) | (obtain⟨_,_,_,_,_,rfl,_⟩:=h;rfl) | (obtain⟨_,_,_,_,_,_,rfl,_⟩:=h;rfl) | (obtain⟨_,_,_,_,_,_,_,rfl,_⟩:=h;rfl) | (obtain⟨_,_,_,_,_,_,_,_,rfl,_⟩:=h;rfl) | (obtain⟨_,_,_,_,_,_,_,_,_,rfl,_⟩:=h;rfl) | (obtain⟨_,_,_,_,_,_,_,_,_,_,rfl,_⟩:=h;rfl) | (obtain⟨_,_,_,_,_,_,_,_,_,_,_,rfl,_⟩:=h;rfl) | (obtain⟨_,_,_,_,_,_,_,_,_,_,_,_,rfl,_⟩:=h;rfl) | (obtain⟨_,_,_,_,_,_,_,_,_,_,_,_,_,rfl,_⟩:=h;rfl) | (obtain⟨_,_,_,_,_,_,_,_,_,_,_,_,_,_,rfl,_⟩:=h;rfl) | (obtain⟨_,_,_,_,_,_,_,_,_,_,_,_,_,_,_,rfl,_⟩:=h;rfl)):Callee P w F mg base (fu P w) (k+1) x ps sp:=mT D hb S len hbody
end K
local macro_rules | `(tactic| k_data) => `(tactic| (iterate 2 ((try dsimp only [L2.bL, L2.yE, L2.vQ, L2.mF, L2.uT, L2.zD, L2.qw, L2.tC, L2.yD, L2.rI, L2.qB, L2.rU, L2.z6, L2.vT, L2.uQ, L2.dU, L2.fy, L2.yF, L2.yH, L2.yz, L2.zY, L2.yy, L2.vO, L2.yu, L2.z4, L2.yC, L2.vK, L2.zH, L2.vP, L2.tB, L2.yv, L2.vN, L2.ot, L2.wd, L2.mE, L2.uS, L2.xu, L2.vi, L2.xW, L2.xX, L2.vh, L2.xY, L2.z5, L2.zI, L2.vR, L2.oR, L2.su, L2.zU, L2.zV, L2.zX, L2.yw, L2.Aj, L2.zk, L2.vL, L2.vF, L2.vM, L2.la, L2.xV, L2.wj, L2.zm, L2.vj, L2.sx, L2.xy, L2.xw, L2.Ak, L2.zJ, L2.yG, L2.tL, L2.ou, L2.yB, L2.yA, L2.zG, L2.zC, L2.uG, L2.zF, L2.uR, L2.xt, L2.xr, L2.xq, List.getElem?_cons_zero, List.getElem?_cons_succ, List.set_cons_zero, List.set_cons_succ, List.nil_append, List.cons_append, L2.xG, L2.Af, L2.xQ]); (try simp only [Option.some.injEq, exists_eq_left', exists_and_left, List.cons.injEq, L2.V.int.injEq, L2.V.bl.injEq, and_true, true_and, and_assoc, decide_eq_true_eq, List.append_nil, Int.reduceToNat, Int.reducePow, Int.reduceLT, Int.reduceLE, Int.reduceNeg, Int.zero_add, Nat.reducePow, Nat.reduceLT, Int.reduceAdd, Int.reduceSub, Int.reduceMul, L2.V.ref.injEq, L2.aG, L2.sH, exists_eq_left, exists_eq', exists_eq, exists_const, L2.iC, L2.uH, L2.uJ, L2.uK, L2.uL, L2.uI, L2.uM, reduceIte, reduceCtorEq, Bool.not_eq_true', decide_eq_false_iff_not, Int.reduceAbs, Bool.not_true, Bool.not_false, if_true, Bool.false_eq_true, if_false]))))
namespace K
open PySem PySem.Spec PyProof.Rows L2
section
variable {P:Program} {w:World} {K:PySem.W.Frag} {mg:Str->Option Value} {base:Heap}
theorem qA {i:Int} (h:(decide (i.natAbs<10^250))=true):Bd i:=Nat.lt_of_lt_of_le (of_decide_eq_true h) qG
def qx (l:Addr) (i j:Int):HO:=.dK [(Sum.inr "cells",.ref l),(Sum.inr "spot",.int i),(Sum.inr "left",.int j)]
def Tp (p:Addr) (n:Nat) (H:Hp):Prop:=∃(l:Addr) (i j:Int) (ns:List Int),H p=some (qx l i j)/\H l=some (.lst (ns.map V.int))/\ns.length<=63/\0<=i/\i<=n
def Off (p:Addr) (H H':Hp):Prop:=∀ b,b≠p->H' b=H b
def cj (p:Addr) (H H':Hp):Prop:=∀ b o,b≠p->H b=some o->H' b=some o
theorem Off.bY {p:Addr} {H H':Hp} (h:Off p H H'):cj p H H':=λb o n e=>by rw [h b n];exact e
theorem cj.trans {p:Addr} {H H1 H2:Hp} (h:cj p H H1) (h':cj p H1 H2):cj p H H2:=λb o n e=>h' b o n (h b o n e)
theorem Off.trans {p:Addr} {H H1 H2:Hp} (h:Off p H H1) (h':Off p H1 H2):Off p H H2:=λb n=>(h' b n).trans (h b n)
theorem cj.of {p:Addr} {H H':Hp} (h:aB H H'):cj p H H':=λb o _ e=>h b o e
theorem Off.xB {p:Addr} {H:Hp} {o:HO}:Off p H (upd H p o):=λb n=>au n
theorem Tp.same {p:Addr} {n:Nat} {H H':Hp} (h:Tp p n H) (s:aB H H'):Tp p n H':=by
 obtain⟨l,i,j,ns,a,b,c⟩:=h
 exact⟨l,i,j,ns,s _ _ a,s _ _ b,c⟩
theorem Tp.ne {p b:Addr} {n:Nat} {H:Hp} {o:HO} (h:Tp p n H) (e:H b=some o) (z:∀ kvs,o≠.dK kvs):b≠p:=by
 obtain⟨l,i,j,ns,a,_⟩:=h
 exact jS e a (z _)
theorem oB:∀{L:List V},(∀ x∈L,∃ c,x=V.int c)->∃ ns:List Int,L=ns.map V.int
 | [],_=>⟨[],rfl⟩
 | x::L,h=>by
  obtain⟨c,e⟩:=h x (List.mem_cons_self ..)
  obtain⟨ns,z⟩:=oB (L:=L) λy hy=>h y (List.mem_cons_of_mem _ hy)
  exact⟨c::ns,by rw [e,z];rfl⟩
theorem qL {ns:List Int} {lo hi:Option Int}:∃ ns':List Int,eQ (ns.map V.int) lo hi=ns'.map V.int/\ns'.length<=ns.length:=by
 obtain⟨ns',e⟩:=oB (L:=eQ (ns.map V.int) lo hi) λx hx=>by
  unfold eQ at hx
  obtain⟨c,_,e⟩:=List.mem_map.mp (List.mem_of_mem_drop (List.mem_of_mem_take hx))
  exact⟨c,e.symm⟩
 refine⟨ns',e,?_⟩
 have:=cp (ns.map V.int) lo hi
 rw [e,List.length_map,List.length_map] at this
 exact this
def sj (K:PySem.W.Frag):Sp:=λvs H Q _=>∃(a:Addr) (ns:List Int),vs=[.ref a]/\aT K H a (ns.map V.int)/\ns.length<=63/\∀ p H',aB H H'->H p=none->Tp p 0 H'->Q (.ref p) H'
theorem gm:ay ["_law_script"] ["_law_script"] (aj (top 44)):=c5
theorem uj (D:av K mg "_law_tape" (top 44)):Callee P w K mg base aM 1 "_law_tape" ["_law_script"] (sj K):=by
 refine cO D gm (λf cdv A outer s H vs Q E hr h=>?_)
 obtain⟨a,ns,rfl,hS,h63,q⟩:=h
 have nd:=gm.nd
 refine⟨_,(ai (ax (uw (iW a9 (bZ uN (pv 0) cM (cF af)) (iW a9 af (iW a9 af uy))) rfl rfl (by intro z;cases z) (by decide)))),?_⟩
 show fy _ _ [some (.ref a)] H
 k_data
 intro p hp
 have s1:=ak (o:=.dK []) hp
 refine⟨a,_,rfl,hS.same s1,λpl hpl=>⟨?_,[(Sum.inr "cells",.ref pl),(Sum.inr "spot",.int 0),(Sum.inr "left",.int 0)],rfl,by show 3<=15;decide,?_⟩⟩
 ·rw [au (aS ah hpl),ah]
 ·obtain⟨ns',e1,e2⟩:=qL (ns:=ns) (lo:=none) (hi:=some 63)
  have nep:pl≠p:=λz=>by rw [z,ah] at hpl;cases hpl
  rw [e1]
  exact q p _ ((s1.trans (ak hpl)).upd hp) hp ⟨pl,0,0,ns',ah,by rw [au nep,ah],by omega,by decide,by decide⟩
section
variable {H:Hp} {p l:Addr} {i j i' j':Int}
theorem lb (h:H p=some (qx l i j)):fI H p (.str "left") (some (.int j)):=fI.k (k:=Sum.inr "left") h
theorem uU (h:H p=some (qx l i j)):fI H p (.str "spot") (some (.int i)):=fI.k (k:=Sum.inr "spot") h
theorem sA (h:H p=some (qx l i j)):fI H p (.str "cells") (some (.ref l)):=fI.k (k:=Sum.inr "cells") h
theorem mG (h:H p=some (qx l i j)):ll H p (.str "left") (.int j') (upd H p (qx l i j')):=.inl ⟨_,Sum.inr "left",h,rfl,by show 3<sizeLine;decide,rfl⟩
theorem sF (h:H p=some (qx l i j)):ll H p (.str "spot") (.int i') (upd H p (qx l i' j)):=.inl ⟨_,Sum.inr "spot",h,rfl,by show 3<sizeLine;decide,rfl⟩
end
def eJ:Sp:=λvs H Q _=>∃(p:Addr) (m:Int) (n:Nat),vs=[.ref p,.int m]/\Tp p n H/\n<=10^60/\0<m/\m<10^200/\∀ r H',0<=r->r<m->Off p H H'->Tp p (n+1) H'->Q (.int r) H'
theorem gk:ay ["_law_tape_here","_law_many","_law_found","_law_spot","_law_cells","_law_cell","_law_seed"] ["_law_tape_here","_law_many"] (aj (top 45)):=c5
theorem uf (D:av K mg "_law_draw" (top 45)) (n_len:mg "len"=none):Callee P w K mg base aM 1 "_law_draw" ["_law_tape_here","_law_many"] eJ:=by
 refine cO D gk (λf cdv A outer s H vs Q E hr h=>?_)
 obtain⟨p,m,n,rfl,⟨l,i,j,ns,hp,hl,h63,i0,i1⟩,hn,m0,m1,q⟩:=h
 have nd:=gk.nd
 refine⟨_,(ag (aL (aq c8 (gf (gW hr) (pv 0) a9 (λ_ _=>rfl)) af (ar _)) (ag (bV (i:=2) nd (ao aK (gf (gW hr) (pv 0) a9 (λ_ _=>rfl)) (pv 1))) (ag (kP (gW hr) (pv 0) a9 (ao bJ (gf (gW hr) (pv 0) a9 (λ_ _=>rfl)) (pv 1)) rfl) (ai (ax (pv 2))))) az) (ag (bV (i:=3) nd (gf (gW hr) (pv 0) a9 (λ_ _=>rfl))) (ag (kP (gW hr) (pv 0) a9 (ao aX (pv 3) af) rfl) (ag (bV (i:=4) nd (gf (gW hr) (pv 0) a9 (λ_ _=>rfl))) (ag (bV (i:=5) nd af) (ag (bT (aL (aq c8 (aC bj rfl n_len PySem.boot_len (aa (pv 4) ae)) af (ar _)) (ai (bV (i:=5) nd (aH cw (pv 4) (ao aK (pv 3) (aC bj rfl n_len PySem.boot_len (aa (pv 4) ae))) (λ_ _=>rfl)))) az)) (ag (aL (PW.pt (cn (aq c8 (pv 5) af (ar _)) (cn (aq aU (ao aK (pv 5) af) af (ar _)) (cf (aq cP (pv 3) (aC bj rfl n_len PySem.boot_len (aa (pv 4) ae)) (ar _)))))) (ag (kP (gW hr) (pv 0) a9 (ao bJ (ao bJ (pv 5) af) (pv 1)) rfl) (ai (ax (ao aK (ao bJ (pv 5) af) (pv 1))))) az) (ag (bV (i:=6) nd (ao aK (ao aW (ao aX (ao aX (ao aX (ao aK (pv 5) af) (ao aW (ao aW af (pv 3)) (pv 3))) (ao aW af (pv 3))) af) af) af)) (ai (ax (ao aK (ao bJ (ao aK (ao aW (pv 6) (ao aX (pv 6) af)) af) af) (pv 1)))))))))))),?_⟩
 show bL _ _ _ [some (.ref p),some (.int m),none,none,none,none,none] H
 k_data
 have lp:l≠p:=jS hl hp (by intro z;cases z)
 have mb:Bd m:=Bd.of (by omega) (by omega)
 have em:=λx:Int=>Int.emod_nonneg x (show m≠0 by omega)
 have el:=λx:Int=>Int.emod_lt_of_pos x m0
 refine⟨_,lb hp,j,rfl,aD (λc=>?_) (λc=>?_)⟩
 ·exact⟨_,lb hp,j,rfl,m0,_,lb hp,j,rfl,m0,mb,_,mG hp,q _ _ (em _) (el _) Off.xB ⟨l,i,_,ns,ah,by rw [au lp];exact hl,h63,i0,by omega⟩⟩
 ·refine⟨_,uU hp,i,rfl,_,sF hp,_,sA ah,?_⟩
  have hp1:upd H p (qx l (i+1) j) p=some (qx l (i+1) j):=ah
  have hl1:upd H p (qx l (i+1) j) l=some (.lst (ns.map V.int)):=by rw [au lp];exact hl
  have of1:Off p H (upd H p (qx l (i+1) j)):=Off.xB
  generalize upd H p (qx l (i+1) j)=H1 at *
  refine⟨λσ' H'=>H'=H1/\∃ c,σ'=[some (.ref p),some (.int m),none,some (.int i),some (.ref l),some (.int c),none],?_,?_⟩
  ·k_data
   refine dz (aT.of hl1) ⟨_,rfl,?_⟩
   rw [List.length_map]
   refine aD (λc1=>?_) (λc1=>rfl)
   refine dz (aT.of hl1) ?_
   rw [List.length_map]
   have r0:=Int.emod_nonneg i (show (ns.length:Int)≠0 by omega)
   have r1:=Int.emod_lt_of_pos i c1
   refine⟨_,rfl,c1,cD (aT.of hl1) r0 (by rw [List.length_map];exact r1) λv hv=>?_⟩
   obtain⟨x,_,rfl⟩:=List.mem_map.mp hv
   exact⟨rfl,x,rfl⟩
  ·rintro σ' H' ⟨rfl,c',rfl⟩
   k_data
   have ib:i<=10^60:=by omega
   have ii:7919*i*i<=7919*i*10^60:=Int.mul_le_mul_of_nonneg_left ib (by omega)
   have i2:0<=7919*i*i:=Int.mul_nonneg (by omega) i0
   have c0:=Int.emod_nonneg c' (show (2147483629:Int)≠0 by decide)
   have c1:=Int.emod_lt_of_pos c' (show (0:Int)<2147483629 by decide)
   have sd:∀ z:Int,0<=z%2147483647/\z%2147483647<2147483647:=λz=>⟨Int.emod_nonneg z (by decide),Int.emod_lt_of_pos z (by decide)⟩
   have T1:Tp p (n+1) H':=⟨l,i+1,j,ns,hp1,hl1,h63,by omega,by omega⟩
   have fin:Bd 7919/\Bd i/\Bd (7919*i)/\Bd i/\Bd 48271/\Bd i/\Bd (c'%2147483629+7919*i*i+48271*i+1)/\Bd 69621/\Bd ((c'%2147483629+7919*i*i+48271*i+1)*69621%2147483647)/\Bd ((c'%2147483629+7919*i*i+48271*i+1)*69621%2147483647+16807)/\Bd 64/\0<m:=by
    have s1:=sd ((c'%2147483629+7919*i*i+48271*i+1)*69621)
    exact⟨qA (by decide),Bd.of (by omega) (by omega),Bd.of (by omega) (by omega),Bd.of (by omega) (by omega),qA (by decide),Bd.of (by omega) (by omega),Bd.of (by omega) (by omega),qA (by decide),Bd.of (by omega) (by omega),Bd.of (by omega) (by omega),qA (by decide),m0⟩
   obtain⟨f1,f2,f3,f4,f5,f6,f7,f8,f9,f10,f11,f12⟩:=fin
   have fq:∀ x,Q (V.int (x%m)) H':=λx=>q _ _ (em _) (el _) of1 T1
   refine aD (λc2=>aD (λc3=>?_) (λc3=>⟨f1,f2,f3,f4,f5,f6,f7,f8,f9,f10,f11,f12,fq _⟩)) (λc2=>⟨f1,f2,f3,f4,f5,f6,f7,f8,f9,f10,f11,f12,fq _⟩)
   refine dz (aT.of hl1) ⟨_,rfl,aD (λc4=>⟨qA (by decide),m0,mb,_,mG hp1,qA (by decide),m0,?_⟩) (λc4=>⟨f1,f2,f3,f4,f5,f6,f7,f8,f9,f10,f11,f12,fq _⟩)⟩
   exact q _ _ (em _) (el _) (of1.trans Off.xB) ⟨l,i+1,_,ns,ah,by rw [au lp];exact hl1,h63,by omega,by omega⟩
end
end K
namespace K
open PySem PySem.Spec PyProof.Rows L2
section
variable {P:Program} {w:World} {K:PySem.W.Frag} {mg:Str->Option Value} {base:Heap}
def gU (a:Int):Prop := -(10^240)<=a/\a<=10^240
theorem gU.bd {a:Int} (h:gU a):Bd a:=Bd.of (by have:=h.1;omega) (by have:=h.2;omega)
def j6:Sp:=λvs H Q _=>∃ a b:Int,vs=[.int a,.int b]/\gU a/\gU b/\∀ g u v p H',Gcd.yI a b g u v->aB H H'->H' p=some (.tup [.int g,.int u,.int v])->Q (.ref p) H'
theorem i9:ay ["a","b","g","u","v","next_g","next_u","next_v","times"] ["a","b"] (aj (top 7)):=c5
structure DS where
 (g u v ng nu nv:Int)
 t:Option V
theorem nA (D:av K mg "divisor" (top 7)) (n_abs:mg "abs"=none):Callee P w K mg base aM 1 "divisor" ["a","b"] j6:=by
 refine cO D i9 (λf cdv A outer s H vs Q E hr h=>?_)
 obtain⟨a,b,rfl,ha,hb,q⟩:=h
 have nd:=i9.nd
 refine⟨_,(ag (oJ (i:=2) (j:=3) (k:=4) rfl nd rfl rfl rfl (by decide) (by decide) (by decide) rfl rfl rfl (aa (aC iH rfl n_abs L2.boot_abs (aa (pv 0) ae)) (aa af (aa af ae))) rfl) (ag (oJ (i:=5) (j:=6) (k:=7) rfl nd rfl rfl rfl (by decide) (by decide) (by decide) rfl rfl rfl (aa (aC iH rfl n_abs L2.boot_abs (aa (pv 1) ae)) (aa af (aa af ae))) rfl) (ag (ba PassesOwn.never (aq c8 (pv 5) af (ar _)) (ag (bV (i:=8) nd (ao bJ (pv 2) (pv 5))) (ag (iY (i:=2) (j:=5) rfl nd rfl rfl (by decide) rfl rfl (aa (pv 5) (aa (ao bD (pv 2) (ao aW (pv 8) (pv 5))) ae)) rfl) (ag (iY (i:=3) (j:=6) rfl nd rfl rfl (by decide) rfl rfl (aa (pv 6) (aa (ao bD (pv 3) (ao aW (pv 8) (pv 6))) ae)) rfl) (ai (iY (i:=4) (j:=7) rfl nd rfl rfl (by decide) rfl rfl (aa (pv 7) (aa (ao bD (pv 4) (ao aW (pv 8) (pv 7))) ae)) rfl)))))) (ai (ax (aF (aa (pv 2) (aa (gh (aq cP (pv 0) af (ar _)) (jX gT (pv 3)) (pv 3)) (aa (gh (aq cP (pv 1) af (ar _)) (jX gT (pv 4)) (pv 4)) ae))))))))),?_⟩
 show bL _ _ _ [some (.int a),some (.int b),none,none,none,none,none,none,none] H
 k_data
 have hA:0<=(if a<0 then -a else a)/\(if a<0 then -a else a)<=10^240:=by have:=ha.1;have:=ha.2;split<;>omega
 have hB:0<=(if b<0 then -b else b)/\(if b<0 then -b else b)<=10^240:=by have:=hb.1;have:=hb.2;split<;>omega
 refine bc (α:=DS) (λx=>[some (.int a),some (.int b),some (.int x.g),some (.int x.u),some (.int x.v),some (.int x.ng),some (.int x.nu),some (.int x.nv),x.t])
  (λx H'=>H'=H/\Gcd.J (if a<0 then -a else a) (if b<0 then -b else b) x.g x.u x.v x.ng x.nu x.nv/\x.g<=10^240/\x.ng<=10^240) (λx=>x.ng.toNat)
  ⟨_,1,0,_,0,1,none⟩ rfl ⟨rfl,Gcd.J.start hA.1 hB.1,hA.2,hB.2⟩ ?_
 rintro x H1 ⟨rfl,j,hg,hng⟩
 k_data
 refine aD (λc=>?_) (λc=>?_)
 ·refine⟨_,λ_ _ z=>z,?_⟩
  obtain⟨s1,s2,s3,s4⟩:=j.small hA.1 hB.1 hA.2 hB.2 (by omega)
  obtain⟨j',l,q0,ql⟩:=j.turn c
  have bg:gU x.ng:=⟨by omega,hng⟩
  have bq:gU (x.g/x.ng):=⟨by omega,by omega⟩
  refine⟨c,bg.bd,bq.bd,bg.bd,bq.bd,gU.bd s3,bq.bd,gU.bd s4,⟨x.ng,x.nu,x.nv,x.g-x.g/x.ng*x.ng,x.u-x.g/x.ng*x.nu,x.v-x.g/x.ng*x.nv,some (.int (x.g/x.ng))⟩,rfl,rfl,j',hng,by show (x.g-x.g/x.ng*x.ng)<=_;omega,by show (x.g-x.g/x.ng*x.ng).toNat<x.ng.toNat;omega⟩
 ·have e:x.ng=0:=by have:=j.n0;omega
  rw [e] at j
  have z:=j.done
  refine aD (λca=>?_) (λca=>?_)<;>simp only [ca,if_true,if_false] at z ⊢<;>refine aD (λcb=>?_) (λcb=>?_)<;>simp only [cb,if_true,if_false] at z ⊢ <;>
   exact⟨by show 3<=sizeLine;decide,λp hp=>q _ _ _ p _ z (ak hp) ah⟩
end
end K
namespace K
open PySem PySem.Spec PyProof.Rows L2
structure Gd (n a g:Int):Prop where
 pos:0<g
 dn:g∣n
 da:g∣a
 gr:∀ d:Int,d∣n->d∣a->d∣g
theorem Gd.one {n a g g':Int} (h:Gd n a g) (h':Gd n a g'):g=g' :=
 Int.le_antisymm (Int.le_of_dvd h'.pos (h'.gr g h.dn h.da)) (Int.le_of_dvd h.pos (h.gr g' h'.dn h'.da))
theorem lE {n a g:Int} (dn:g∣n):g∣a%n↔g∣a:=by
 have e:=Int.mul_ediv_add_emod a n
 constructor
 ·intro h
  rw [<- e]
  exact Int.dvd_add (Int.dvd_mul_of_dvd_left dn) h
 ·intro h
  have:a%n=a-n*(a/n):=by omega
  rw [this]
  exact Int.dvd_sub h (Int.dvd_mul_of_dvd_left dn)
theorem Gd.of {n a g u v:Int} (hn:0<n) (z:Gcd.yI (a%n) n g u v):Gd n a g:=by
 refine⟨?_,z.db,(lE z.db).mp z.da,λd h1 h2=>?_⟩
 ·have:=z.g0
  rcases (by omega:g=0∨0<g) with e | e
  ·have:=z.db
   rw [e] at this
   have:=Int.zero_dvd.mp this
   omega
  ·exact e
 ·rw [<- z.lin]
  exact Int.dvd_add (Int.dvd_mul_of_dvd_right ((lE h1).mpr h2)) (Int.dvd_mul_of_dvd_right h1)
theorem wk {n a u v:Int} (hn:0<n) (z:Gcd.yI (a%n) n 1 u v):n∣u%n*a-1:=by
 have e:=z.lin
 have e1:=Int.mul_ediv_add_emod a n
 have e2:=Int.mul_ediv_add_emod u n
 refine⟨u*(a/n)-v-u/n*a,?_⟩
 generalize a%n=x at *
 generalize u%n=y at *
 generalize a/n=s at *
 generalize u/n=t at *
 grind
section
variable {P:Program} {w:World} {K:PySem.W.Frag} {mg:Str->Option Value} {base:Heap}
def j7 (C:Addr):Sp:=λvs H Q E=>∃ n a:Int,vs=[.int n,.int a]/\0<n/\n<=10^240/\∀ g,Gd n a g ->
 (g=1->∀ r H',0<=r->r<n->n∣r*a-1->aB H H'->Q (.int r) H') /\
 (1<g->∀ x dx H',aB H H'->H x=none->H' x=some (XO x C (some dx))->H' dx=some (.xd [("divisor",.int g)])->E (.ref C) (some x) H')
theorem ja:ay ["n","a","g","u","v"] ["n","a"] (aj (top 8)):=c5
theorem nB {C:Addr} (D:av K mg "inverse" (top 8)) (c_divisor:Callee P w K mg base aM 1 "divisor" ["a","b"] j6) (x_NoInverse:mQ P w K mg base "NoInverse" C "divisor"):Callee P w K mg base (fu P w) 3 "inverse" ["n","a"] (j7 C):=by
 refine cX D ja (λf cdv A outer s H vs Q E hr h=>?_)
 obtain⟨n,a,rfl,hn,hn1,q⟩:=h
 have nd:=ja.nd
 refine⟨_,(ag (eT (bF c_divisor hr aw (aa (ao aK (pv 1) (pv 0)) (aa (pv 0) ae))) (eF (n:=3) rfl (aJ (aE (i:=2) nd rfl (Or.inl rfl) (.inr rfl)) (aJ (aE (i:=3) nd rfl (Or.inl rfl) (.inr rfl)) (aJ (aE (i:=4) nd rfl (Or.inl rfl) (.inr rfl)) cE))))) (ag (aL (aq c8 (pv 2) af (ar _)) (ai (dX (kN x_NoInverse (hr.mono (by decide)) rfl (aa (pv 2) ae)))) az) (ix.mL (ai (ax (ao aK (pv 3) (pv 0))))))),?_⟩
 show bL _ _ _ [some (.int n),some (.int a),none,none,none] H
 k_data
 have r0:=Int.emod_nonneg a (show n≠0 by omega)
 have r1:=Int.emod_lt_of_pos a hn
 refine⟨hn,a%n,n,rfl,⟨by omega,by omega⟩,⟨by omega,by omega⟩,λg u v p H1 z hs hh=>?_⟩
 have G:=Gd.of hn z
 obtain⟨q1,q2⟩:=q g G
 refine⟨p,_,rfl,aQ.of hh,rfl,?_⟩
 k_data
 refine aD (λc=>?_) (λc=>?_)
 ·intro x dx hx hdx ne
  have ne':dx≠x:=ne
  refine⟨C,some dx,ah,x_NoInverse.cls,?_,?_⟩
  ·cases e:H x with
   | none=>rfl
   | some o=>rw [hs _ _ e] at hx;cases hx
  ·refine q2 c x dx _ ?_ ?_ ah ?_
   ·intro b o e
    have e1:=hs _ _ e
    have bx:b≠x:=λy=>by rw [y,hx] at e1;cases e1
    have bd:b≠dx:=λy=>by rw [y,hdx] at e1;cases e1
    rw [au bx,au bx,au bd,au bx]
    exact e1
   ·cases e:H x with
    | none=>rfl
    | some o=>rw [hs _ _ e] at hx;cases hx
   ·rw [au ne',au ne',ah]
 ·have g1:g=1:=by have:=G.pos;omega
  subst g1
  exact⟨hn,q1 rfl _ _ (Int.emod_nonneg _ (by omega)) (Int.emod_lt_of_pos _ hn) (wk hn z) hs⟩
end
end K
namespace K
open PySem PySem.Spec PyProof.Rows L2
section
variable {P:Program} {w:World} {K:PySem.W.Frag} {mg:Str->Option Value} {base:Heap}
def iD (C:Addr):Sp:=λvs H Q E=>∃ n a e:Int,vs=[.int n,.int a,.int e]/\0<n/\n<=10^120 /\
 (0<=e->∀ H',aB H H'->Q (.int (a^e.toNat%n)) H') /\
 (e<0->∀ g,Gd n a g ->
  (g=1->∀ b H',0<=b->b<n->n∣b*a-1->aB H H'->Q (.int (b^(-e).toNat%n)) H') /\
  (1<g->∀ x dx H',aB H H'->H x=none->H' x=some (XO x C (some dx))->H' dx=some (.xd [("divisor",.int g)])->E (.ref C) (some x) H'))
theorem mv:ay ["n","a","e","base","left","rest"] ["n","a","e"] (aj (top 17)):=c5
theorem rz {C:Addr} (D:av K mg "power" (top 17)) (c_inverse:Callee P w K mg base (fu P w) 3 "inverse" ["n","a"] (j7 C)) (n_abs:mg "abs"=none):Callee P w K mg base (fu P w) 4 "power" ["n","a","e"] (iD C):=by
 refine cX D mv (λf cdv A outer s H vs Q E hr h=>?_)
 obtain⟨n,a,e,rfl,hn,hn1,q1,q2⟩:=h
 have nd:=mv.nd
 refine⟨_,(ag (bV (i:=3) nd (ao aK (pv 1) (pv 0))) (ag (bT (aL (aq cP (pv 2) af (ar _)) (ai (bV (i:=3) nd (bF c_inverse hr rF (aa (pv 0) (aa (pv 1) ae))))) az)) (ix.mL (ag (bV (i:=4) nd (aC iH rfl n_abs L2.boot_abs (aa (pv 2) ae))) (ag (bV (i:=5) nd (ao aK af (pv 0))) (ag (ba PassesOwn.never (aq c8 (pv 4) af (ar _)) (ag (bT (aL (aq aU (ao aK (pv 4) af) af (ar _)) (ai (bV (i:=5) nd (ao aK (ao aW (pv 5) (pv 3)) (pv 0)))) az)) (ag (bV (i:=3) nd (ao aK (ao aW (pv 3) (pv 3)) (pv 0))) (ai (eG (i:=4) nd rfl (Or.inl rfl) af (fX eR)))))) (ai (ax (pv 5))))))))),?_⟩
 show bL _ _ _ [some (.int n),some (.int a),some (.int e),none,none,none] H
 k_data
 refine⟨hn,λσ' H'=>aB H H'/\∃ b:Int,σ'=[some (.int n),some (.int a),some (.int e),some (.int b),none,none]/\0<=b/\b<n/\Q (.int (b^e.natAbs%n)) H',?_,?_⟩
 ·k_data
  refine aD (λc=>?_) (λc=>?_)
  ·refine⟨n,a,rfl,hn,by omega,λg G=>⟨λe1 r H' r0 r1 r2 hs=>?_,λg1 x dx H' hs hx hX hd=>?_⟩⟩
   ·have:=(q2 c g G).1 e1 r H' r0 r1 r2 hs
    rw [show (-e).toNat=e.natAbs by omega] at this
    exact⟨hs,r,rfl,r0,r1,this⟩
   ·exact (q2 c g G).2 g1 x dx H' hs hx hX hd
  ·have:=q1 (by omega) H (aB.refl _)
   rw [show e.toNat=e.natAbs by omega,<- Pw.iV] at this
   exact⟨aB.refl _,Int.emod_nonneg _ (by omega),Int.emod_lt_of_pos _ hn,this⟩
 ·rintro σ' H' ⟨hs,b,rfl,hb0,hb1,q⟩
  k_data
  refine⟨hn,?_⟩
  have ee:(if e<0 then -e else e)=(e.natAbs:Int):=by split<;>omega
  rw [ee]
  refine bc (α:=Int × Nat × Int) (λx=>[some (.int n),some (.int a),some (.int e),some (.int x.1),some (.int x.2.1),some (.int x.2.2)]) (λx H1=>H1=H'/\0<=x.1/\x.1<n/\0<=x.2.2/\x.2.2<n/\x.2.2*x.1^x.2.1%n=b^e.natAbs%n) (λx=>x.2.1) (b,e.natAbs,1%n) rfl ⟨rfl,hb0,hb1,Int.emod_nonneg _ (by omega),Int.emod_lt_of_pos _ hn,?_⟩ ?_
  ·show 1%n*b^e.natAbs%n=_
   rw [Pw.vz,Int.one_mul]
  rintro⟨b',l,r⟩ H1 ⟨rfl,h1,h2,h3,h4,h5⟩
  replace h1:0<=b':=h1
  replace h2:b'<n:=h2
  replace h3:0<=r:=h3
  replace h4:r<n:=h4
  replace h5:r*b'^l%n=b^e.natAbs%n:=h5
  k_data
  refine aD (λc=>?_) (λc=>?_)
  ·refine⟨_,λ_ _ z=>z,λσ' H2=>H2=H1/\σ'=[some (.int n),some (.int a),some (.int e),some (.int b'),some (.int l),some (.int (if l%2=1 then r*b'%n else r))],?_,?_⟩
   ·k_data
    refine aD (λc=>?_) (λc=>?_)
    ·exact⟨Bd.of (by omega) (by omega),Bd.of (by omega) (by omega),hn,by rw [if_pos (by omega)]⟩
    ·rw [if_neg (by omega)]
   rintro σ' H2 ⟨rfl,rfl⟩
   k_data
   have r0:0<=(if l%2=1 then r*b'%n else r)/\(if l%2=1 then r*b'%n else r)<n:=by
    split
    ·exact⟨Int.emod_nonneg _ (by omega),Int.emod_lt_of_pos _ hn⟩
    ·exact⟨h3,h4⟩
   refine⟨Bd.of (by omega) (by omega),Bd.of (by omega) (by omega),hn,qA (by decide),(b'*b'%n,l/2,if l%2=1 then r*b'%n else r),rfl,(by show (l:Int)/2=((l/2:Nat):Int);omega),rfl,Int.emod_nonneg _ (by omega),Int.emod_lt_of_pos _ hn,r0.1,r0.2,?_,?_⟩
   ·show (if l%2=1 then r*b'%n else r)*(b'*b'%n)^(l/2)%n=_
    rw [Pw.step]
    exact h5
   ·show l/2<l
    omega
  ·have l0:l=0:=by omega
   subst l0
   rw [Int.pow_zero,Int.mul_one] at h5
   have h6:r%n=r:=Int.emod_eq_of_lt h3 h4
   rw [<- h5,h6] at q
   exact q
def nQ:Sp:=λvs H Q _=>∃ n k:Int,vs=[.int n,.int k]/\2<=n/\n<=10^120/\k<=10^120/\Ld.Inv n k/\∀ r,Ld.eK n r->Q (.int r) H
theorem cI:ay ["n","start","number"] ["n","start"] (aj (top 37)):=c5
theorem uh (D:av K mg "least_divisor_from" (top 37)):Callee P w K mg base aM 1 "least_divisor_from" ["n","start"] nQ:=by
 refine cO D cI (λf cdv A outer s H vs Q E hr h=>?_)
 obtain⟨n,k,rfl,hn,hn1,hk1,hk,q⟩:=h
 have nd:=cI.nd
 refine⟨_,(ag (bV (i:=2) nd (pv 1)) (ag (ba PassesOwn.never (aq ma (ao aW (pv 2) (pv 2)) (pv 0) (ar _)) (ag (aL (aq aU (ao aK (pv 0) (pv 2)) af (ar _)) (ai (ax (pv 2))) az) (ai (eG (i:=2) nd rfl (Or.inl rfl) (gh (aq aU (pv 2) af (ar _)) af af) (fX kB))))) (ai (ax (pv 0))))),?_⟩
 show bL _ _ _ [some (.int n),some (.int k),none] H
 k_data
 refine bc (α:=Int) (λx=>[some (.int n),some (.int k),some (.int x)]) (λx H1=>H1=H/\Ld.Inv n x/\x<=10^120+2) (λx=>(n+2-x).toNat) k rfl ⟨rfl,hk,by omega⟩ ?_
 rintro x H1 ⟨rfl,hx,hx1⟩
 have x2:=hx.two
 k_data
 refine⟨Bd.of (by omega) (by omega),Bd.of (by omega) (by omega),?_⟩
 refine aD (λc=>?_) (λc=>?_)
 ·have xn:x<=n:=by
   have:=Int.mul_le_mul_of_nonneg_left (show 1<=x by omega) (show 0<=x by omega)
   omega
  have st:=λz=>hx.step (k:=x) z
  refine⟨λσ' H'=>H'=H1/\∃ y,y=(x+if x=2 then 1 else 2)/\¬x∣n/\σ'=[some (V.int n),some (V.int k),some (V.int y)],?_,by omega,?_⟩
  ·rintro σ' H' ⟨rfl,y,hy,nd',rfl⟩
   refine⟨y,rfl,rfl,by rw [hy];exact st nd',?_,?_⟩
   ·split at hy<;>omega
   ·split at hy<;>omega
  refine aD (λc2=>?_) (λc2=>?_)
  ·exact q x (hx.found (Int.dvd_of_emod_eq_zero c2))
  have nd':¬x∣n:=λz=>c2 (Int.emod_eq_zero_of_dvd z)
  refine aD (λc3=>?_) (λc3=>?_)
  ·exact⟨rfl,_,by rw [if_pos c3],nd',rfl⟩
  ·exact⟨rfl,_,by rw [if_neg c3],nd',rfl⟩
 ·exact q n (hx.done hn (by omega))
def k6 (c1 c2:Addr):Sp:=λvs H Q E=>∃ n:Int,vs=[.int n]/\(n<2->yT c1 H E)/\(10^9<n->yU c2 "part" (.int n) H E)/\(2<=n->n<=10^9->∀ r,Ld.eK n r->Q (.int r) H)
theorem d6:ay ["n"] ["n"] (aj (top 36)):=c5
theorem ro {c1 c2:Addr} (D:av K mg "least_divisor" (top 36)) (c_least_divisor_from:Callee P w K mg base aM 1 "least_divisor_from" ["n","start"] nQ) (x_NoNumber:sX K mg "NoNumber" c1) (x_TooFar:mQ P w K mg base "TooFar" c2 "part")
  (g_GREATEST:∃ t,mg "GREATEST"=some (.int 1000000000 t)):Callee P w K mg base (fu P w) 3 "least_divisor" ["n"] (k6 c1 c2):=by
 refine cX D d6 (λf cdv A outer s H vs Q E hr h=>?_)
 obtain⟨n,rfl,q1,q2,q3⟩:=h
 obtain⟨tk,g_GREATEST⟩:=g_GREATEST
 have nd:=d6.nd
 refine⟨_,(ag (aL (aq cP (pv 0) af (ar _)) (ai (dX (rH x_NoNumber rfl))) az) (ag (aL (aq c8 (pv 0) (oG (v:=.int 1000000000) rfl g_GREATEST ⟨_,rfl⟩) (ar _)) (ai (dX (kN x_TooFar (hr.mono (by decide)) rfl (aa (pv 0) ae)))) az) (ix.mL (ai (ax (bF c_least_divisor_from hr aw (aa (pv 0) (aa af ae)))))))),?_⟩
 show bL _ _ _ [some (.int n)] H
 k_data
 refine aD (λc=>?_) (λc=>?_)
 ·exact λx hx=>jM x_NoNumber.cls (aB.refl _) hx (q1 c)
 refine aD (λc'=>?_) (λc'=>?_)
 ·exact λx dx hx hdx ne=>jN x_TooFar.cls (aB.refl _) hx hdx ne (q2 (by omega))
 exact⟨n,2,rfl,by omega,by omega,by omega,⟨by omega,.inl rfl,λd d0 d1=>by omega⟩,q3 (by omega) (by omega)⟩
def zw (p:Int × Int):PyData:=.tuple [.int p.1,.int p.2]
def jh (K:PySem.W.Frag) (c1 c2:Addr):Sp:=λvs H Q E=>∃ n:Int,vs=[.int n]/\(n<1->yT c1 H E)/\(10^9<n->yU c2 "part" (.int n) H E)/\(1<=n->n<=10^9->∀ ps us p H',Num.Part n ps->ps.length<=29->aB H H'->H p=none->H' p=some (.lst us)->aY K H' (ps.map zw) us->Q (.ref p) H')
theorem j5:ay ["n","parting","left","prime","many"] ["n"] (aj (top 38)):=c5
theorem pV {c1 c2:Addr} (D:av K mg "parted" (top 38)) (c_least_divisor_from:Callee P w K mg base aM 1 "least_divisor_from" ["n","start"] nQ) (x_NoNumber:sX K mg "NoNumber" c1) (x_TooFar:mQ P w K mg base "TooFar" c2 "part")
  (g_GREATEST:∃ t,mg "GREATEST"=some (.int 1000000000 t)):Callee P w K mg base (fu P w) 3 "parted" ["n"] (jh K c1 c2):=by
 refine cX D j5 (λf cdv A outer s H vs Q E hr h=>?_)
 obtain⟨n,rfl,q1,q2,q3⟩:=h
 obtain⟨tk,g_GREATEST⟩:=g_GREATEST
 have nd:=j5.nd
 refine⟨_,(ag (aL (aq cP (pv 0) af (ar _)) (ai (dX (rH x_NoNumber rfl))) az) (ag (aL (aq c8 (pv 0) (oG (v:=.int 1000000000) rfl g_GREATEST ⟨_,rfl⟩) (ar _)) (ai (dX (kN x_TooFar (hr.mono (by decide)) rfl (aa (pv 0) ae)))) az) (ix.mL (ag (bV (i:=1) nd (bW ae)) (ag (bV (i:=2) nd (pv 0)) (ag (bV (i:=3) nd af) (ag (ba PassesOwn.never (aq c8 (pv 2) af (ar _)) (ag (bV (i:=3) nd (bF c_least_divisor_from hr aw (aa (pv 2) (aa (pv 3) ae)))) (ag (bV (i:=4) nd af) (ag (ba PassesOwn.never (aq aU (ao aK (pv 2) (pv 3)) af (ar _)) (ag (eG (i:=2) nd rfl (Or.inl rfl) (pv 3) (fX eR)) (ai (eG (i:=4) nd rfl (Or.inl rfl) af (fX kB))))) (ai (kQ (rG PySem.F.plainAttrs_list PySem.F.slot_list_append PySem.F.type_list_append jR (pv 1) (aa (aF (aa (pv 3) (aa (pv 4) ae))) ae)))))))) (ai (ax (pv 1)))))))))),?_⟩
 show bL _ _ _ [some (.int n),none,none,none,none] H
 k_data
 refine aD (λc=>?_) (λc=>?_)
 ·exact λx hx=>jM x_NoNumber.cls (aB.refl _) hx (q1 c)
 refine aD (λc'=>?_) (λc'=>?_)
 ·exact λx dx hx hdx ne=>jN x_TooFar.cls (aB.refl _) hx hdx ne (q2 (by omega))
 refine⟨by decide,λpp hpp=>?_⟩
 have n1:n<=10^9:=by omega
 refine bc (α:=Int × Int × Option V) (λx=>[some (.int n),some (.ref pp),some (.int x.1),some (.int x.2.1),x.2.2]) (λx H1=>aB H H1/\∃(ps:List (Int × Int)) (us:List V),H1 pp=some (.lst us)/\aY K H1 (ps.map zw) us/\Num.Way n ps x.1 x.2.1) (λx=>x.1.toNat) (n,2,none) rfl ⟨ak hpp,[],[],ah,rfl,.start (by omega)⟩ ?_
 rintro⟨left,prime,o⟩ H1 ⟨hs,ps,us,epp,hd,W⟩
 replace W:Num.Way n ps left prime:=W
 have l1:=W.pos
 have ln:left<=n:=by
  have z:=W.two
  have p0:=Num.bB (show (0:Int)<2 by decide) ps.length
  have:=Int.mul_le_mul_of_nonneg_right (show (1:Int)<=2^ps.length by omega) (show 0<=left by omega)
  omega
 k_data
 refine aD (λc3=>?_) (λc3=>?_)
 ·have pl:prime<=10^120:=by
   rcases (by omega:prime<=left∨left<prime) with z | z
   ·omega
   ·exact absurd (Int.dvd_refl left) (W.inv.no left (by omega) z)
  refine⟨_,λ_ _ z=>z,left,prime,rfl,by omega,by omega,pl,W.inv,λr hL=>?_⟩
  have r2:=hL.two
  have rl:=hL.le (by omega)
  refine bc (α:=Int × Nat) (λx=>[some (.int n),some (.ref pp),some (.int x.1),some (.int r),some (.int (x.2:Int))]) (λx H2=>H2=H1/\left=r^x.2*x.1/\1<=x.1/\x.1<=left) (λx=>x.1.toNat) (left,0) rfl ⟨rfl,by rw [Int.pow_zero,Int.one_mul],by omega,Int.le_refl _⟩ ?_
  rintro⟨lf,k⟩ H2 ⟨rfl,e1,e2,e3⟩
  replace e1:left=r^k*lf:=e1
  replace e2:1<=lf:=e2
  replace e3:lf<=left:=e3
  k_data
  refine⟨by omega,?_⟩
  refine aD (λc4=>?_) (λc4=>?_)
  ·obtain⟨q,hq⟩:=Int.dvd_of_emod_eq_zero c4
   have ed:lf/r=q:=by rw [hq];exact Int.mul_ediv_cancel_left _ (by omega)
   have q1':1<=q:=by
    rcases (by omega:q<=0∨1<=q) with z | z
    ·have:=Int.mul_nonpos_of_nonneg_of_nonpos (show 0<=r by omega) z
     omega
    ·exact z
   have ql:q<lf:=by
    rw [hq]
    have:=Int.mul_le_mul_of_nonneg_right r2 (show 0<=q by omega)
    omega
   refine⟨_,λ_ _ z=>z,by omega,Bd.of (by omega) (by omega),(q,k+1),?_,rfl,?_,q1',?_,?_⟩
   ·rw [ed];rfl
   ·rw [e1,hq,Int.pow_succ,Int.mul_assoc]
   ·show q<=left
    omega
   ·show q.toNat<lf.toNat
    omega
  ·have ng:¬r∣lf:=λz=>c4 (Int.emod_eq_zero_of_dvd z)
   have k1:1<=k:=by
    cases k with
    | zero=>rw [Int.pow_zero,Int.one_mul] at e1;exact absurd (e1▸hL.dv) ng
    | succ k=>omega
   have W2:=W.step n1 c3 hL e1 e2 k1 ng
   have len:=W.len n1
   have ul:us.length=ps.length:=by rw [hd.length,List.length_map]
   have lt:lf<left:=by
    obtain⟨k',rfl⟩:∃ k',k=k'+1:=⟨k-1,by omega⟩
    have p0:=Num.bB (show 0<r by omega) k'
    have h1:r<=r^(k'+1):=by
     rw [Int.pow_succ]
     have:=Int.mul_le_mul_of_nonneg_right (show 1<=r^k' by omega) (show 0<=r by omega)
     omega
    have:=Int.mul_le_mul_of_nonneg_right (show 2<=r^(k'+1) by omega) (show 0<=lf by omega)
    omega
   refine⟨.inl ⟨rfl,_,aT.of epp⟩,by show 2<=sizeLine;decide,λpt hpt=>?_⟩
   have s2:=ak (o:=.tup [V.int r,V.int (k:Int)]) hpt
   have npt:pp≠pt:=λz=>by rw [<- z,epp] at hpt;cases hpt
   have el:=s2 _ _ epp
   have et:upd H2 pt (.tup [V.int r,V.int (k:Int)]) pt=some (.tup [V.int r,V.int (k:Int)]):=ah
   have hd2:=aY.same s2 _ hd
   have S2:=hs.trans s2
   generalize upd H2 pt _=H3 at *
   refine⟨pp,us,.ref pt,rfl,rfl,el,Nat.lt_of_le_of_lt (show us.length<=29 by omega) (by decide),(lf,r,some (.int (k:Int))),rfl,rfl,rfl,S2.upd hpp,⟨ps++[(r,(k:Int))],us++[.ref pt],ah,?_,W2⟩,?_⟩
   ·rw [List.map_append]
    refine aY.append (aY.but el (λb o ne h=>by rw [au ne];exact h) _ (lS (λ_=>rfl) ps) hd2) (.one (dv.tup (xs:=[V.int r,V.int (k:Int)]) ?_ ⟨_,_,rfl,rfl,.one rfl⟩))
    rw [au (Ne.symm npt)]
    exact et
   ·show lf.toNat<left.toNat
    omega
 ·have z:left=1:=by omega
  subst z
  exact q3 (by omega) n1 ps us pp H1 W.done (W.len n1) hs hpp epp hd
end
end K
namespace L2
open PySem PySem.Spec PyProof.Rows
theorem eB {X:Cx} (K:PySem.W.Frag) (h:X.K=K):yK X (w5 K):=h▸aI
theorem kO {X:Cx} {pos:Pos} {es:List Expr} {k:Nat} {t:u4} {n:Nat} (K:PySem.W.Frag) (e:X.K=K) (hc:X.calm=true) (h:xO X es t)
  (hn:(assignEach es X.env).length=n:=by rfl) (hst:(assignEach es X.env).findIdx? (·.1)=none:=by rfl):PG X (.Tuple es k pos) (pH K n t):=e▸eF hc h hn hst
end L2
namespace K
open PySem PySem.Spec PyProof.Rows L2
section
variable {P:Program} {w:World} {K:PySem.W.Frag} {mg:Str->Option Value} {base:Heap}
theorem bS {X:Cx}:Passes (fu P w) X E0:=by
 intro pins σ H1 s1 e s' I hq
 obtain⟨x,C,T,dd,H',_,_,_,_,_,_,_,_,_,_,z⟩:=hq
 exact z.elim
theorem bC {H:Hp} {q:Addr} {xs:List V} {k:Int} {v:V} {Q:VK} (t:aQ K H q xs) (e:nX xs k=some v) (h:Q v H):w5 K (.ref q) (.int k) H Q:=⟨q,xs,k,v,rfl,rfl,t,e,h⟩
theorem gH {x:V} {r:List V}:nX (x::r) 0=some x:=by
 unfold nX tT
 simp
def Ah (row:PyData) (q:Int):Prop:=∃ ds es,row=.tuple (.tuple (.int q::ds)::es)
def yJ (rows:List PyData) (qs:List Int):Prop:=rows.length=qs.length/\∀(i:Nat) (row:PyData),rows[i]?=some row->∃ q,qs[i]?=some q/\Ah row q
def cK (K:PySem.W.Frag):Sp:=λvs H Q _=>∃ v rows qs,vs=[v]/\dv K H (.tuple rows) v/\yJ rows qs/\rows.length<=10^6/\∀ p H',aB H H'->H p=none->H' p=some (.lst (qs.map V.int))->Q (.ref p) H'
theorem gw:ay ["parts"] ["parts"] (aj (top 15)):=c5
theorem lX (D:av K mg "primes_in" (top 15)):Callee P w K mg base aM 1 "primes_in" ["parts"] (cK K):=by
 refine cO D gw (λf cdv A outer s H vs Q E hr h=>?_)
 obtain⟨v,rows,qs,rfl,hd,⟨hl,hq⟩,h6,q⟩:=h
 have nd:=gw.nd
 refine⟨_,(ai (ax (fC rfl (sQ (N':=["row"]) (js:=[none]) rfl rfl) (iS (pv 0)) (λ_ _ _ _=>(aE (i:=0) (show List.Nodup [("row":Str)] from by decide +kernel) rfl (Or.inl rfl) (.inr rfl))) (λ_ _ _ _=>dc) (λ_ _ _ _=>(aH (eB K rfl) (aH (eB K rfl) (pv 0) af (λ_ _=>rfl)) af (λ_ _=>rfl)))))),?_⟩
 show fy _ _ [some v] H
 obtain⟨p,xs,rfl,hS,ht⟩:=hd
 k_data
 have xl:=ht.length
 refine⟨⟨_,hS⟩,?_⟩
 refine gJ (xs:=xs) (λi zs H3=>H3=H/\zs=(qs.take i).map V.int) ⟨rfl,rfl⟩ (Nat.le_trans (by omega) (show 10^6<=sizeLine by decide)) (λi zs H3 hi ⟨e1,e2⟩=>⟨by rw [e1];exact hS,by rw [e2];simp;omega⟩) ?_ ?_
 ·rintro i x zs H3 hx ⟨rfl,rfl⟩
  obtain⟨d,hd,hv⟩:=ht.get hx
  obtain⟨q',hq',ds,es,rfl⟩:=hq i d hd
  obtain⟨p1,x1,rfl,t1,u,r1,rfl,hv2,_⟩:=hv
  obtain⟨p2,x2,rfl,t2,u',r2,rfl,hv3,_⟩:=hv2
  cases hv3
  show dU 0 _ [none] _ _
  k_data
  refine⟨True.intro,bC t1 gH (bC t2 gH ⟨rfl,?_⟩)⟩
  rw [List.take_add_one,hq',List.map_append]
  rfl
 ·rintro zs H3 p3 ⟨rfl,rfl⟩ hp3
  rw [show xs.length=qs.length by omega,List.take_length]
  exact q p3 _ (ak hp3) hp3 ah
def xK (n a e:Int) (qs:List Int):Prop:=a^e.toNat%n=1/\∀ q∈qs,a^(e/q).toNat%n≠1
def fm (K:PySem.W.Frag):Sp:=λvs H Q _=>∃(n a e:Int) (p:Addr) (qs:List Int),vs=[.int n,.int a,.int e,.ref p]/\0<n/\n<=10^120/\0<=e/\e<=10^120/\aT K H p (qs.map V.int)/\(∀ q∈qs,0<q/\q<=10^120)/\qs.length<=10^6/\∀ b H',(b=true↔xK n a e qs)->aB H H'->Q (.bl b) H'
theorem hZ:ay ["n","a","e","primes"] ["n","a","e","primes"] (aj (top 18)):=c5
theorem nF {C:Addr} (D:av K mg "is_least" (top 18)) (c_power:Callee P w K mg base (fu P w) 4 "power" ["n","a","e"] (iD C)) (n_all:mg "all"=none):Callee P w K mg base aM 5 "is_least" ["n","a","e","primes"] (fm K):=by
 refine cO D hZ (λf cdv A outer s H vs Q E hr h=>?_)
 obtain⟨n,a,e,p,qs,rfl,hn,hn1,he,he1,hS,hq,hl,q⟩:=h
 have nd:=hZ.nd
 refine⟨_,(ai (ax (bh (bA aU (bF c_power hr bS (aa (pv 0) (aa (pv 1) (aa (pv 2) ae)))) af (ar _)) (bX (aC (iI rfl) rfl n_all L2.boot_all (aa (fC rfl (sQ (N':=["prime","n","a","e"]) (js:=[none,some 0,some 1,some 2]) rfl rfl) (gi (pv 3)) (λ_ _ _ _=>(aE (i:=0) (show List.Nodup [("prime":Str),("n":Str),("a":Str),("e":Str)] from by decide +kernel) rfl (Or.inl rfl) (.inr rfl))) (λ_ _ _ _=>dc) (λ_ _ _ _=>(bA iQ (bF c_power hr bS (aa (pv 1) (aa (pv 2) (aa (ao bJ (pv 3) (pv 0)) ae)))) af (ar _)))) ae)))))),?_⟩
 show fy _ _ [some (.int n),some (.int a),some (.int e),some (.ref p)] H
 k_data
 refine⟨n,a,e,rfl,hn,hn1,λ_ H1 s1=>?_,λz=>absurd z (by omega)⟩
 have hS1:=hS.same s1
 k_data
 refine aD (λc=>?_) (λc=>?_)
 ·refine⟨⟨_,hS1⟩,?_⟩
  refine c7 (xs:=qs.map V.int) (λi zs H3=>aB H H3/\zs=((qs.take i).map λq=>decide (a^(e/q).toNat%n≠1)).map V.bl) ⟨s1,rfl⟩ (by rw [List.length_map];exact Nat.le_trans hl (show 10^6<=sizeLine by decide)) (λi zs H3 hi ⟨e1,e2⟩=>⟨hS.same e1,by rw [e2];simp;omega⟩) ?_ ?_
  ·rintro i x zs H3 hx ⟨s3,rfl⟩
   rw [List.getElem?_map] at hx
   obtain⟨y,hy,rfl⟩:=Option.map_eq_some_iff.mp hx
   have my:=hq y (List.mem_of_getElem? hy)
   show dU 0 _ [none,some (.int n),some (.int a),some (.int e)] _ _
   k_data
   refine⟨⟨rfl,rfl,rfl,True.intro⟩,my.1,Bd.of (by omega) (by omega),n,a,e/y,rfl,hn,hn1,λ_ H4 s4=>⟨iC,?_⟩,λz=>absurd (Int.ediv_nonneg he (show 0<=y by omega)) (by omega)⟩
   refine⟨s3.trans s4,?_⟩
   rw [List.take_add_one,hy,List.map_append,List.map_append]
   simp
  ·rintro zs H3 p3 ⟨s3,rfl⟩ hp3
   rw [List.length_map,List.take_length]
   refine mS (bs:=qs.map λq=>decide (a^(e/q).toNat%n≠1)) (aT.of ah) ?_
   refine q _ _ ?_ (s3.trans (ak hp3))
   rw [List.all_eq_true]
   constructor
   ·intro h
    refine⟨c,λy hy=>?_⟩
    have:=h _ (List.mem_map.mpr ⟨y,hy,rfl⟩)
    simpa using this
   ·intro h b hb
    obtain⟨y,hy,rfl⟩:=List.mem_map.mp hb
    simpa using h.2 y hy
 ·exact q false _ ⟨λz=>(by cases z),λz=>absurd z.1 c⟩ s1
theorem cq {n x:Int} (hn:2<=n):x%n=1↔Num.Al n x 1:=by
 constructor
 ·intro h
  refine⟨x/n,?_⟩
  have:=Int.emod_add_mul_ediv x n
  omega
 ·rintro⟨k,hk⟩
  rw [show x=1+n*k by omega,Int.add_mul_emod_self_left]
  exact Int.emod_eq_of_lt (by omega) (by omega)
theorem kD {n a e:Int} {ps:List (Int × Int)} (hn:2<=n) (h:Num.Part e ps) (he:1<=e):xK n a e (ps.map (·.1))↔Num.Ord n a e.toNat:=by
 rw [<- Num.rE h he]
 unfold xK
 rw [cq hn]
 constructor
 ·exact fun⟨h1,h2⟩=>⟨h1,λq hq z=>h2 q hq ((cq hn).mpr z)⟩
 ·exact fun⟨h1,h2⟩=>⟨h1,λq hq z=>h2 q hq ((cq hn).mp z)⟩
theorem dW (P:Int->Prop) {g:Int} (h1:1<=g) (h:P g):∃ m,1<=m/\m<=g/\P m/\∀ a,1<=a->a<m->¬P a:=by
 have:∀(k:Nat) (g:Int),g.toNat=k->1<=g->P g->∃ m,1<=m/\m<=g/\P m/\∀ a,1<=a->a<m->¬P a:=by
  intro k
  induction k using Nat.strongRecOn with
  | ind k ih =>
   intro g hk h1 hg
   by_cases c:∃ a,1<=a/\a<g/\P a
   ·obtain⟨a,a1,a2,a3⟩:=c
    obtain⟨m,m1,m2,m3,m4⟩:=ih a.toNat (by omega) a rfl a1 a3
    exact⟨m,m1,by omega,m3,m4⟩
   ·exact⟨g,h1,Int.le_refl _,hg,λa a1 a2 a3=>c ⟨a,a1,a2,a3⟩⟩
 exact this _ g rfl h1 h
theorem x5 {p:Int} (hp:Num.Pm p):∃ g,Num.LF p g:=by
 obtain⟨g,g1,g2,g3⟩:=Num.tJ hp
 obtain⟨m,m1,m2,m3,m4⟩:=dW (λa=>Num.Ord p a (p-1).toNat) g1 g3
 exact⟨m,m1,by omega,m3,m4⟩
def fe (K:PySem.W.Frag):Sp:=λvs H Q _=>∃(n:Int) (p:Addr) (ps:List (Int × Int)),vs=[.int n,.ref p]/\Num.Pm n/\n<=10^9/\Num.Part (n-1) ps/\ps.length<=29/\aT K H p (ps.map λx=>V.int x.1)/\∀ g H',Num.LF n g->aB H H'->Q (.int g) H'
theorem kM {n:Int} {ps:List (Int × Int)} (h:Num.Part n ps) (hn:1<=n):∀ q∈ps.map (·.1),2<=q/\q<=n:=λq hq=>by
 obtain⟨x,hx,rfl⟩:=List.mem_map.mp hq
 obtain⟨o1,o2,_⟩:=h.ok x hx
 have:=Num.bP hx o2
 rw [h.prod] at this
 exact⟨o1.two,Int.le_of_dvd (by omega) this⟩
theorem fG:ay ["p","primes","full"] ["p","primes"] (aj (top 42)):=c5
theorem kG (D:av K mg "least_full" (top 42)) (c_is_least:Callee P w K mg base aM 5 "is_least" ["n","a","e","primes"] (fm K)):Callee P w K mg base aM 6 "least_full" ["p","primes"] (fe K):=by
 refine cO D fG (λf cdv A outer s H vs Q E hr h=>?_)
 obtain⟨n,p,ps,rfl,hp,hn,hP,hl,hS,q⟩:=h
 have n2:=hp.two
 obtain⟨g,G⟩:=x5 hp
 have g1:=G.one
 have g2:=G.lt
 have nd:=fG.nd
 refine⟨_,(ag (bV (i:=2) nd af) (ag (ba PassesOwn.never (dO (aP (bF c_is_least hr aw (aa (pv 0) (aa (pv 2) (aa (ao bD (pv 0) af) (aa (pv 1) ae))))) (λ_=>rfl))) (ai (eG (i:=2) nd rfl (Or.inl rfl) af (fX kB)))) (ai (ax (pv 2))))),?_⟩
 show bL _ _ _ [some (.int n),some (.ref p),none] H
 k_data
 refine bc (α:=Int) (λx=>[some (.int n),some (.ref p),some (.int x)]) (λx H1=>aB H H1/\1<=x/\x<=g) (λx=>(g-x).toNat) 1 rfl ⟨aB.refl _,Int.le_refl _,g1⟩ ?_
 rintro x H1 ⟨s1,x1,x2⟩
 replace x1:1<=x:=x1
 replace x2:x<=g:=x2
 k_data
 refine⟨n,x,n-1,p,ps.map (·.1),rfl,by omega,by omega,by omega,by omega,?_,λy hy=>?_,?_,λb H2 hb s2=>?_⟩
 ·rw [List.map_map];exact hS.same s1
 ·have:=kM hP (by omega) y hy
  omega
 ·rw [List.length_map];exact Nat.le_trans hl (by decide)
 rw [kD n2 hP (by omega)] at hb
 refine⟨b,aG.mpr rfl,?_⟩
 cases b
 ·have nx:¬Num.Ord n x (n-1).toNat:=λz=>by have:=hb.mpr z;cases this
  have ne:x≠g:=λz=>nx (z▸G.ord)
  refine⟨_,λ_ _ z=>z,x+1,rfl,s1.trans s2,by omega,by omega,by omega⟩
 ·have hx:=hb.mp rfl
  have xg:x=g:=by
   rcases (by omega:x=g∨x<g) with z | z
   ·exact z
   ·exact absurd hx (G.no x x1 z)
  rw [xg]
  exact q g H2 G (s1.trans s2)
theorem mr {ps:List (Int × Int)} {p:Int × Int} {ds ds':Nat->PyData} (h:∀ j,j<ps.length->ds' j=ds j):Num.rowsOf (ps++[p]) ds'=Num.rowsOf ps ds++[.tuple [ds' ps.length,.int p.2]]:=by
 unfold Num.rowsOf
 rw [List.length_append,List.length_singleton,List.range_succ,List.map_append]
 congr 1
 ·refine List.map_congr_left λj hj=>?_
  have:=List.mem_range.mp hj
  rw [h j this,List.getD_eq_getElem?_getD,List.getD_eq_getElem?_getD,List.getElem?_append_left this]
 ·simp
theorem fW {ps:List (Int × Int)} {ds:Nat->PyData} (h:∀ i q k,ps[i]?=some (q,k)->Num.fN q (ds i)):yJ (Num.rowsOf ps ds) (ps.map (·.1)):=by
 refine⟨by rw [Num.bU,List.length_map],λi row hi=>?_⟩
 have hl:=(List.getElem?_eq_some_iff.mp hi).1
 rw [Num.bU] at hl
 have hg:=List.getElem?_eq_getElem hl
 rw [Num.i5 hg] at hi
 obtain⟨g,rows,e⟩:=(h i _ _ hg).head
 exact⟨ps[i].1,by rw [List.getElem?_map,hg];rfl,[.int g,.tuple rows],[.int ps[i].2],by rw [<- Option.some.inj hi,e];rfl⟩
theorem wc {H:Hp} {q k:Int} {v:V} (h:dv K H (zw (q,k)) v):∃ p,v=.ref p/\aQ K H p [.int q,.int k]:=by
 obtain⟨p,xs,rfl,h1,x,r,rfl,d1,y,r',rfl,d2,h4⟩:=h
 cases h4
 cases d1
 cases d2
 exact⟨p,rfl,h1⟩
def fo (K:PySem.W.Frag) (L:Nat):Sp:=λvs H Q _=>∃ n:Int,vs=[.int n]/\Num.Pm n/\n<=10^9/\Num.Ht L n/\∀ d v H',Num.fN n d->aB H H'->dv K H' d v->Q v H'
def gS (K:PySem.W.Frag) (L:Nat):Sp:=λvs H Q _=>∃ n:Int,vs=[.int n]/\1<=n/\n<=10^9/\(∀ q,Num.Pm q->q∣n->Num.Ht L q)/\∀ ps ds v H',Num.Part n ps->ps.length<=29->(∀ i q k,ps[i]?=some (q,k)->Num.fN q (ds i))->aB H H'->dv K H' (.tuple (Num.rowsOf ps ds)) v->Q v H'
theorem dj:ay ["n","least","parts"] ["n"] (aj (top 40)):=c5
theorem pU {L:Nat} {c1 c2 c3:Addr} (D:av K mg "prime_paper" (top 40)) (c_least_divisor:Callee P w K mg base (fu P w) 3 "least_divisor" ["n"] (k6 c1 c2)) (c_parting_paper:Callee P w K mg base aM (2*L+8) "parting_paper" ["n"] (gS K L)) (c_least_full:Callee P w K mg base aM 6 "least_full" ["p","primes"] (fe K)) (c_primes_in:Callee P w K mg base aM 1 "primes_in" ["parts"] (cK K)) (x_NoPrime:mQ P w K mg base "NoPrime" c3 "divisor"):Callee P w K mg base (fu P w) (2*L+9) "prime_paper" ["n"] (fo K (L+1)):=by
 refine cX D dj (λf cdv A outer s H vs Q E hr h=>?_)
 obtain⟨n,rfl,hp,hn,hH,q⟩:=h
 have n2:=hp.two
 have nd:=dj.nd
 refine⟨_,(ag (bV (i:=1) nd (aA c_least_divisor (hr.mono (by omega)) rfl bS (aa (pv 0) ae))) (ag (aL (aq cP (pv 1) (pv 0) (ar _)) (ai (dX (kN x_NoPrime (hr.mono (by omega)) rfl (aa (pv 1) ae)))) az) (ix.mL (ag (bV (i:=2) nd (aA c_parting_paper (hr.mono (by omega)) rfl aw (aa (ao bD (pv 0) af) ae))) (ai (ax (aF (aa (pv 0) (aa (aA c_least_full (hr.mono (by omega)) rfl aw (aa (pv 0) (aa (aA c_primes_in (hr.mono (by omega)) rfl aw (aa (pv 2) ae)) ae))) (aa (pv 2) ae)))))))))),?_⟩
 show bL _ _ _ [some (.int n),none,none] H
 k_data
 refine⟨n,rfl,λz=>absurd z (by omega),λz=>absurd z (by omega),λ_ _ r hL=>⟨r,rfl,?_⟩⟩
 have rn:r=n:=by
  have:=hL.le (by omega)
  rcases (by omega:r<n∨r=n) with z | z
  ·exact absurd hL.dv (hp.no r hL.two z)
  ·exact z
 rw [if_neg (by omega)]
 refine⟨n-1,rfl,by omega,by omega,hH,λps ds v H1 hP hl hds s1 hv=>?_⟩
 refine⟨v,Num.rowsOf ps ds,ps.map (·.1),rfl,hv,fW hds,by rw [Num.bU];exact Nat.le_trans hl (by decide),λp H2 s2 f2 h2=>?_⟩
 rw [List.map_map] at h2
 refine⟨n,p,ps,rfl,hp,hn,hP,hl,aT.of h2,λg H3 hg s3=>⟨by show 3<=sizeLine;decide,λp3 hp3=>?_⟩⟩
 have s4:=ak (o:=.tup [V.int n,V.int g,v]) hp3
 exact q _ _ _ (.mk n g ps ds hp hn hg hP hl hds) (((s1.trans s2).trans s3).trans s4) (dv.tup ah ⟨_,_,rfl,rfl,_,_,rfl,rfl,.one (dv.same ((s2.trans s3).trans s4) _ hv)⟩)
theorem d7:ay ["n"] ["n"] (aj (top 41)):=c5
theorem gZ {L:Nat} {c1 c2:Addr} (D:av K mg "parting_paper" (top 41)) (c_parted:Callee P w K mg base (fu P w) 3 "parted" ["n"] (jh K c1 c2)) (c_prime_paper:Callee P w K mg base (fu P w) (2*L+7) "prime_paper" ["n"] (fo K L)) (n_tuple:mg "tuple"=none):Callee P w K mg base aM (2*L+8) "parting_paper" ["n"] (gS K L):=by
 refine cO D d7 (λf cdv A outer s H vs Q E hr h=>?_)
 obtain⟨n,rfl,n1,n9,hH,q⟩:=h
 have nd:=d7.nd
 refine⟨_,(ai (ax (cJ cL rfl n_tuple L2.boot_tuple (aa (fC rfl (sQ (N':=["prime","many"]) (js:=[none,none]) rfl rfl) (gi (aA c_parted (hr.mono (by omega)) rfl bS (aa (pv 0) ae))) (λ_ _ _ _=>(kO K rfl (n:=2) rfl (aJ (aE (i:=0) (show List.Nodup [("prime":Str),("many":Str)] from by decide +kernel) rfl (Or.inl rfl) (.inr rfl)) (aJ (aE (i:=1) (show List.Nodup [("prime":Str),("many":Str)] from by decide +kernel) rfl (Or.inl rfl) (.inr rfl)) cE)))) (λ_ _ _ _=>dc) (λ_ _ _ _=>(aF (aa (aA c_prime_paper (hr.mono (by omega)) rfl bS (aa (pv 0) ae)) (aa (pv 1) ae))))) ae)))),?_⟩
 show fy _ _ [some (.int n)] H
 k_data
 refine⟨n,rfl,λz=>absurd z (by omega),λz=>absurd z (by omega),λ_ _ ps us p H1 hP hl s1 f1 h1 hd=>⟨p,rfl,⟨_,aT.of h1⟩,?_⟩⟩
 have ul:us.length=ps.length:=by rw [hd.length,List.length_map]
 refine c7 (xs:=us) (λi zs H3=>aB H1 H3/\∃ ds,(∀ j q k,(ps.take i)[j]?=some (q,k)->Num.fN q (ds j))/\aY K H3 (Num.rowsOf (ps.take i) ds) zs) ⟨aB.refl _,λ_=>.none,λj q k z=>by simp at z,rfl⟩ (by rw [ul];exact Nat.le_trans hl (by decide)) (λi zs H3 hi ⟨e1,ds,e2,e3⟩=>⟨aT.of (e1 _ _ h1),by rw [e3.length,Num.bU,List.length_take];omega⟩) ?_ ?_
 ·rintro i x zs H3 hx ⟨s3,ds,hds,hz⟩
  obtain⟨d,hd',hv⟩:=hd.get hx
  rw [List.getElem?_map] at hd'
  obtain⟨⟨q',k'⟩,hy,rfl⟩:=Option.map_eq_some_iff.mp hd'
  obtain⟨pt,rfl,tt⟩:=wc hv
  have hok:=hP.ok _ (List.mem_of_getElem? hy)
  have hdv:q'∣n:=by
   have:=Num.bP (List.mem_of_getElem? hy) hok.2.1
   rwa [hP.prod] at this
  have ql:q'<=n:=Int.le_of_dvd (by omega) hdv
  show pH K 2 _ _ [none,none] _ _
  refine⟨pt,_,rfl,tt.same s3,rfl,?_⟩
  k_data
  refine⟨True.intro,q',rfl,hok.1,by omega,hH q' hok.1 hdv,λd v H4 hp4 s4 hv4=>⟨by show 2<=sizeLine;decide,λp5 hp5=>?_⟩⟩
  have s5:=ak (o:=.tup [v,V.int k']) hp5
  have tk:ps.take (i+1)=ps.take i++[(q',k')]:=by rw [List.take_add_one,hy];rfl
  have il:i<ps.length:=(List.getElem?_eq_some_iff.mp hy).1
  have tl:(ps.take i).length=i:=by rw [List.length_take];omega
  refine⟨(s3.trans s4).trans s5,λj=>if j=i then d else ds j,λj q k hj=>?_,?_⟩
  ·rw [tk] at hj
   rcases (by omega:j<i∨j=i∨i<j) with z | z | z
   ·rw [List.getElem?_append_left (by omega)] at hj
    show Num.fN q (if j=i then d else ds j)
    rw [if_neg (by omega)]
    exact hds j q k hj
   ·subst z
    rw [List.getElem?_append_right (by omega),tl,Nat.sub_self] at hj
    show Num.fN q (if j=j then d else ds j)
    rw [if_pos rfl]
    cases hj
    exact hp4
   ·rw [List.getElem?_eq_none (by simp;omega)] at hj
    cases hj
  ·rw [tk,mr (ds:=ds) (λj hj=>if_neg (by omega)),tl,if_pos rfl]
   exact aY.append (aY.same (s4.trans s5) _ hz) (.one (dv.tup ah ⟨_,_,rfl,dv.same s5 _ hv4,.one rfl⟩))
 ·rintro zs H3 p3 ⟨s3,ds,hds,hz⟩ hp3
  rw [ul,List.take_length] at hds hz
  have s4:=ak (o:=.lst zs) hp3
  refine⟨p3,rfl,zs,.inl ⟨aT.of ah,λl hl'=>?_⟩⟩
  generalize upd H3 p3 _=H4 at *
  have s5:=ak (o:=.tup zs) hl'
  exact q ps ds _ _ hP hl hds (((s1.trans s3).trans s4).trans s5) (dv.tup ah (aY.same (s4.trans s5) _ hz))
theorem jV {L:Nat} (D:av K mg "prime_paper" (top 40)):Callee P w K mg base (fu P w) 7 "prime_paper" ["n"] (fo K 0):=by
 refine cX D dj (λf cdv A outer s H vs Q E hr h=>?_)
 obtain⟨n,rfl,hp,hn,hH,q⟩:=h
 exact hH.elim
theorem jW {c1 c2 c3:Addr} (D1:av K mg "prime_paper" (top 40)) (D2:av K mg "parting_paper" (top 41)) (c_least_divisor:Callee P w K mg base (fu P w) 3 "least_divisor" ["n"] (k6 c1 c2)) (c_parted:Callee P w K mg base (fu P w) 3 "parted" ["n"] (jh K c1 c2)) (c_least_full:Callee P w K mg base aM 6 "least_full" ["p","primes"] (fe K)) (c_primes_in:Callee P w K mg base aM 1 "primes_in" ["parts"] (cK K)) (x_NoPrime:mQ P w K mg base "NoPrime" c3 "divisor") (n_tuple:mg "tuple"=none):∀ L:Nat,Callee P w K mg base (fu P w) (2*L+7) "prime_paper" ["n"] (fo K L)/\Callee P w K mg base aM (2*L+8) "parting_paper" ["n"] (gS K L)
 | 0=>⟨jV (L:=0) D1,gZ (L:=0) D2 c_parted (jV (L:=0) D1) n_tuple⟩
 | L+1=>by
  have h:=jW D1 D2 c_least_divisor c_parted c_least_full c_primes_in x_NoPrime n_tuple L
  have a:=pU D1 c_least_divisor h.2 c_least_full c_primes_in x_NoPrime
  have a':Callee P w K mg base (fu P w) (2*(L+1)+7) "prime_paper" ["n"] (fo K (L+1)):=a.mono (by omega)
  exact⟨a',gZ D2 c_parted a' n_tuple⟩
def mx (K:PySem.W.Frag):Sp:=λvs H Q _=>∃ n:Int,vs=[.int n]/\Num.Pm n/\n<=10^9/\∀ d v H',Num.fN n d->aB H H'->dv K H' d v->Q v H'
theorem wQ (h:Callee P w K mg base (fu P w) (2*30+7) "prime_paper" ["n"] (fo K 30)):Callee P w K mg base (fu P w) 67 "prime_paper" ["n"] (mx K) :=
 Callee.imp h λvs H Q E z=>by
  obtain⟨n,h1,h2,h3,q⟩:=z
  exact⟨n,h1,h2,h3,Num.wg h2 h3,q⟩
theorem oE {n:Int} {d:PyData} (h:Num.fN n d):∃ g ps ds,d=.tuple [.int n,.int g,.tuple (Num.rowsOf ps ds)]/\Num.LF n g/\Num.Part (n-1) ps/\ps.length<=29/\∀ i q k,ps[i]?=some (q,k)->Num.fN q (ds i):=by
 cases h with
 | mk _ g ps ds h1 h2 h3 h4 h5 h6=>exact⟨g,ps,ds,rfl,h3,h4,h5,h6⟩
theorem vC {n:Int} {d:PyData} (h:Num.fN n d):Num.Pm n/\n<=10^9:=by
 cases h with
 | mk _ _ _ _ a b=>exact⟨a,b⟩
theorem iK {H:Hp} {d1 d2 d3:PyData} {v:V} (h:dv K H (.tuple [d1,d2,d3]) v):∃ p x1 x2 x3,v=.ref p/\aQ K H p [x1,x2,x3]/\dv K H d1 x1/\dv K H d2 x2/\dv K H d3 x3:=by
 obtain⟨p,xs,rfl,h1,x1,r1,rfl,e1,x2,r2,rfl,e2,x3,r3,rfl,e3,z⟩:=h
 cases z
 exact⟨p,x1,x2,x3,rfl,h1,e1,e2,e3⟩
def xm (K:PySem.W.Frag):Sp:=λvs H Q _=>∃ d v,vs=[v]/\dv K H d v/\Q (.bl (lL d)) H
theorem ig:ay ["thing"] ["thing"] (aj (top 10)):=c5
theorem zu (D:av K mg "is_whole" (top 10)) (n_isinstance:mg "isinstance"=none) (n_int:mg "int"=none) (n_bool:mg "bool"=none):Callee P w K mg base aM 1 "is_whole" ["thing"] (xm K):=by
 refine cO D ig (λf cdv A outer s H vs Q E hr h=>?_)
 obtain⟨d,v,rfl,hd,q⟩:=h
 have nd:=ig.nd
 refine⟨_,(ai (ax (bh (aC aO rfl n_isinstance PyProof.Rows.boot_isinstance (aa (pv 0) (aa (bz (v:=.ty "int") rfl n_int L2.boot_int rfl) ae))) (bX (wU (aC aO rfl n_isinstance PyProof.Rows.boot_isinstance (aa (pv 0) (aa (bz (v:=.ty "bool") rfl n_bool L2.boot_bool rfl) ae)))))))),?_⟩
 show fy _ _ [some v] H
 k_data
 refine tR hd ?_
 k_data
 refine aD (λc=>?_) (λc=>?_)
 ·refine iM hd ?_
  k_data
  cases d<;>first | exact q | simp [lL,tP] at c
 ·cases d<;>first | exact q | exact absurd rfl c
def cU:PyData->Nat->Bool
 | .tuple ds,m=>decide (ds.length=m)
 | _,_=>false
def mD (K:PySem.W.Frag):Sp:=λvs H Q _=>∃ d v,∃ m:Nat,vs=[v,.int m]/\dv K H d v/\Q (.bl (cU d m)) H
theorem eZ:ay ["thing","many"] ["thing","many"] (aj (top 11)):=c5
theorem wI (D:av K mg "is_tuple_of" (top 11)) (n_isinstance:mg "isinstance"=none) (n_tuple:mg "tuple"=none) (n_len:mg "len"=none):Callee P w K mg base aM 1 "is_tuple_of" ["thing","many"] (mD K):=by
 refine cO D eZ (λf cdv A outer s H vs Q E hr h=>?_)
 obtain⟨d,v,m,rfl,hd,q⟩:=h
 have nd:=eZ.nd
 refine⟨_,(ai (ax (bh (aC aO rfl n_isinstance PyProof.Rows.boot_isinstance (aa (pv 0) (aa (bz (v:=.ty "tuple") rfl n_tuple L2.boot_tuple rfl) ae))) (bX (bA aU (aC bj rfl n_len PySem.boot_len (aa (pv 0) ae)) (pv 1) (ar _)))))),?_⟩
 show fy _ _ [some v,some (.int m)] H
 k_data
 refine bp hd ?_
 k_data
 refine aD (λc=>?_) (λc=>?_)
 ·cases d with
  | tuple ds =>
   obtain⟨p,xs,rfl,hS,ht⟩:=hd
   refine fk hS ⟨iC,?_⟩
   have:decide (V.int (xs.length:Int)=V.int (m:Int))=cU (.tuple ds) m:=by
    show _=decide (ds.length=m)
    rw [ht.length]
    refine decide_eq_decide.mpr ⟨λz=>?_,λz=>by rw [z]⟩
    have:=V.int.inj z
    omega
   rw [this]
   exact q
  | _=>exact absurd c (by simp [xZ])
 ·cases d<;>first | exact q | exact absurd rfl c
theorem fh {d:PyData} (h:lL d=true):∃ i,d=.int i:=by
 cases d<;>first | exact⟨_,rfl⟩ | cases h
theorem ow {d:PyData} (h:xZ d=true):∃ i,d=.tuple i:=by
 cases d<;>first | exact⟨_,rfl⟩ | cases h
def PF (d:PyData):Prop:=∃(p g:Int) (rows:List PyData),d=.tuple [.int p,.int g,.tuple rows]/\2<=p
def xk (K:PySem.W.Frag):Sp:=λvs H Q _=>∃ d v,vs=[v]/\dv K H d v/\∀ b:Bool,(b=true↔PF d)->Q (.bl b) H
theorem yP {H:Hp} {d1 d2 d3:PyData} {v:V} (h:dv K H (.tuple [d1,d2,d3]) v):∃ p x1 x2 x3,v=.ref p/\aQ K H p [x1,x2,x3]/\dv K H d1 x1/\dv K H d2 x2/\dv K H d3 x3:=by
 obtain⟨p,xs,rfl,h1,x1,r1,rfl,e1,x2,r2,rfl,e2,x3,r3,rfl,e3,z⟩:=h
 cases z
 exact⟨p,x1,x2,x3,rfl,h1,e1,e2,e3⟩
theorem zp {ds:List PyData} (h:ds.length=3):∃ a b c,ds=[a,b,c]:=by
 match ds,h with
 | [a,b,c],_=>exact⟨a,b,c,rfl⟩
theorem d5:ay ["thing","p","full","parts"] ["thing"] (aj (top 24)):=c5
theorem yc (D:av K mg "is_paper_form" (top 24)) (c_is_whole:Callee P w K mg base aM 1 "is_whole" ["thing"] (xm K)) (c_is_tuple_of:Callee P w K mg base aM 1 "is_tuple_of" ["thing","many"] (mD K)) (n_isinstance:mg "isinstance"=none) (n_tuple:mg "tuple"=none):Callee P w K mg base aM 2 "is_paper_form" ["thing"] (xk K):=by
 refine cO D d5 (λf cdv A outer s H vs Q E hr h=>?_)
 obtain⟨d,v,rfl,hd,q⟩:=h
 have nd:=d5.nd
 refine⟨_,(ag (aL (dO (aP (bF c_is_tuple_of hr aw (aa (pv 0) (aa af ae))) (λ_=>rfl))) (ai (ax cH)) az) (ag (eT (pv 0) (eF (n:=3) rfl (aJ (aE (i:=1) nd rfl (Or.inl rfl) (.inr rfl)) (aJ (aE (i:=2) nd rfl (Or.inl rfl) (.inr rfl)) (aJ (aE (i:=3) nd rfl (Or.inl rfl) (.inr rfl)) cE))))) (ai (ax (bh (bF c_is_whole hr aw (aa (pv 1) ae)) (bh (bA vB (pv 1) af (ar _)) (bh (bF c_is_whole hr aw (aa (pv 2) ae)) (bX (aC aO rfl n_isinstance PyProof.Rows.boot_isinstance (aa (pv 3) (aa (bz (v:=.ty "tuple") rfl n_tuple L2.boot_tuple rfl) ae))))))))))),?_⟩
 show bL _ _ _ [some v,none,none,none] H
 k_data
 refine⟨d,v,3,rfl,hd,cU d 3,aG.mpr rfl,?_⟩
 refine aD (λc=>?_) (λc=>?_)
 ·refine q false ⟨λz=>(by cases z),fun⟨p,g,rows,e,_⟩=>?_⟩
  rw [e] at c
  cases c
 ·cases d with
  | tuple ds =>
   obtain⟨d1,d2,d3,rfl⟩:=zp (ds:=ds) (by simpa [cU] using c)
   obtain⟨p,x1,x2,x3,rfl,hS,e1,e2,e3⟩:=yP hd
   refine⟨p,_,rfl,hS,rfl,?_⟩
   k_data
   refine⟨d1,x1,rfl,e1,lL d1,rfl,?_⟩
   refine aD (λc1=>?_) (λc1=>?_)
   ·obtain⟨i,rfl⟩:=fh c1
    cases e1
    refine⟨i,rfl,?_⟩
    refine aD (λc2=>?_) (λc2=>?_)
    ·refine⟨d2,x2,rfl,e2,lL d2,rfl,?_⟩
     refine aD (λc3=>?_) (λc3=>?_)
     ·obtain⟨j,rfl⟩:=fh c3
      refine bp e3 (q _ ⟨λz=>?_,λz=>?_⟩)
      ·obtain⟨rows,rfl⟩:=ow z
       exact⟨i,j,rows,rfl,c2⟩
      ·obtain⟨p,g,rows,e,_⟩:=z
       cases e
       rfl
     ·refine q false ⟨λz=>(by cases z),fun⟨p,g,rows,e,_⟩=>?_⟩
      cases e
      exact absurd rfl c3
    ·refine q false ⟨λz=>(by cases z),fun⟨p,g,rows,e,h2⟩=>?_⟩
     cases e
     exact absurd h2 c2
   ·refine q false ⟨λz=>(by cases z),fun⟨p,g,rows,e,_⟩=>?_⟩
    cases e
    exact absurd rfl c1
  | _=>exact absurd rfl c
def RF (width:Nat) (d:PyData):Prop:=∃(pd:PyData) (k:Int) (more:List PyData),d=.tuple (pd::.int k::more)/\more.length+2=width/\PF pd/\1<=k
def yp (K:PySem.W.Frag):Sp:=λvs H Q _=>∃ d v,∃ m:Nat,vs=[v,.int m]/\2<=m/\dv K H d v/\∀ b:Bool,(b=true↔RF m d)->Q (.bl b) H
theorem tu {x y:V} {r:List V}:nX (x::y::r) 1=some y:=by
 unfold nX tT
 simp
 rw [if_pos (by omega)]
 rfl
theorem eY:ay ["thing","width"] ["thing","width"] (aj (top 26)):=c5
theorem yf (D:av K mg "is_row_form" (top 26)) (c_is_whole:Callee P w K mg base aM 1 "is_whole" ["thing"] (xm K)) (c_is_tuple_of:Callee P w K mg base aM 1 "is_tuple_of" ["thing","many"] (mD K)) (c_is_paper_form:Callee P w K mg base aM 2 "is_paper_form" ["thing"] (xk K)):Callee P w K mg base aM 3 "is_row_form" ["thing","width"] (yp K):=by
 refine cO D eY (λf cdv A outer s H vs Q E hr h=>?_)
 obtain⟨d,v,m,rfl,hm,hd,q⟩:=h
 have nd:=eY.nd
 refine⟨_,(ai (ax (bh (bF c_is_tuple_of hr aw (aa (pv 0) (aa (pv 1) ae))) (bh (bF c_is_paper_form hr aw (aa (aH aI (pv 0) af (λ_ _=>rfl)) ae)) (bh (bF c_is_whole hr aw (aa (aH aI (pv 0) af (λ_ _=>rfl)) ae)) (bX (bA vB (aH aI (pv 0) af (λ_ _=>rfl)) af (ar _)))))))),?_⟩
 show fy _ _ [some v,some (.int m)] H
 k_data
 refine⟨d,v,m,rfl,hd,cU d m,rfl,?_⟩
 refine aD (λc=>?_) (λc=>?_)
 ·cases d with
  | tuple ds =>
   have hl:ds.length=m:=by simpa [cU] using c
   obtain⟨d1,d2,more,rfl⟩:∃ a b c,ds=a::b::c:=by
    match ds,hl with
    | [],h=>exact absurd h (by simp;omega)
    | [a],h=>exact absurd h (by simp;omega)
    | a::b::c,_=>exact⟨a,b,c,rfl⟩
   obtain⟨p,xs,rfl,hS,x1,r1,rfl,e1,x2,r2,rfl,e2,e3⟩:=hd
   refine bC hS gH ⟨d1,x1,rfl,e1,λb hb=>⟨b,rfl,?_⟩⟩
   refine aD (λc1=>?_) (λc1=>?_)
   ·have hPF:=hb.mp c1
    refine bC hS tu ⟨d2,x2,rfl,e2,lL d2,rfl,?_⟩
    refine aD (λc2=>?_) (λc2=>?_)
    ·obtain⟨k,rfl⟩:=fh c2
     cases e2
     refine bC hS tu ⟨k,rfl,?_⟩
     refine q _ ⟨λz=>⟨d1,k,more,rfl,by simpa using hl,hPF,of_decide_eq_true z⟩,fun⟨pd,k',more',e,_,_,hk⟩=>?_⟩
     cases e
     exact decide_eq_true hk
    ·refine q false ⟨λz=>(by cases z),fun⟨pd,k,more',e,_⟩=>?_⟩
     cases e
     exact absurd rfl c2
   ·refine q false ⟨λz=>(by cases z),fun⟨pd,k,more',e,_,h3,_⟩=>?_⟩
    cases e
    exact absurd (hb.mpr h3) c1
  | _=>exact absurd c (by simp [cU])
 ·refine q false ⟨λz=>(by cases z),fun⟨pd,k,more,e,h2,_⟩=>?_⟩
  rw [e] at c
  exact absurd (decide_eq_true (by simpa using h2)) c
def Wo (n q k r:Int):Prop:=(q^k.toNat∣n/\n=q^k.toNat*r)∨(¬q^k.toNat∣n/\r=0)
def yq:Sp:=λvs H Q _=>∃ n q k:Int,vs=[.int n,.int q,.int k]/\1<=n/\n<=10^110/\2<=q/\q<=10^110/\1<=k/\∀ r,Wo n q k r->0<=r->r<=n->Q (.int r) H
theorem je:ay ["whole","prime","many","left","missing"] ["whole","prime","many"] (aj (top 27)):=c5
theorem yg (D:av K mg "without" (top 27)):Callee P w K mg base aM 1 "without" ["whole","prime","many"] yq:=by
 refine cO D je (λf cdv A outer s H vs Q E hr h=>?_)
 obtain⟨n,q,k,rfl,n1,n9,q2,q9,k1,Qr⟩:=h
 have nd:=je.nd
 refine⟨_,(ag (bV (i:=3) nd (pv 0)) (ag (bV (i:=4) nd (pv 2)) (ag (ba PassesOwn.never (PW.pt (cn (aq c8 (pv 4) af (ar _)) (cf (aq aU (ao aK (pv 3) (pv 1)) af (ar _))))) (ag (eG (i:=3) nd rfl (Or.inl rfl) (pv 1) (fX eR)) (ai (eG (i:=4) nd rfl (Or.inl rfl) af (fX tO))))) (ai (ax (gh (aq aU (pv 4) af (ar _)) (pv 3) af)))))),?_⟩
 show bL _ _ _ [some (.int n),some (.int q),some (.int k),none,none] H
 k_data
 refine bc (α:=Int × Int) (λx=>[some (.int n),some (.int q),some (.int k),some (.int x.1),some (.int x.2)]) (λx H1=>H1=H/\1<=x.1/\x.1<=n/\0<=x.2/\x.2<=k/\n=q^(k-x.2).toNat*x.1) (λx=>x.1.toNat) (n,k) rfl ⟨rfl,n1,Int.le_refl _,by show 0<=k;omega,Int.le_refl _,by show n=q^(k-k).toNat*n;rw [Int.sub_self];show n=q^0*n;rw [Int.pow_zero,Int.one_mul]⟩ ?_
 rintro⟨l,m⟩ H1 ⟨rfl,l1,l2,m0,m1,e⟩
 replace l1:1<=l:=l1
 replace l2:l<=n:=l2
 replace m0:0<=m:=m0
 replace m1:m<=k:=m1
 replace e:n=q^(k-m).toNat*l:=e
 k_data
 refine aD (λc=>?_) (λc=>?_)
 ·refine⟨by omega,?_⟩
  refine aD (λc2=>?_) (λc2=>?_)
  ·obtain⟨y,hy⟩:=Int.dvd_of_emod_eq_zero c2
   have ey:l/q=y:=by rw [hy];exact Int.mul_ediv_cancel_left _ (by omega)
   have y1:1<=y:=by
    rcases (by omega:y<=0∨1<=y) with z | z
    ·have:=Int.mul_nonpos_of_nonneg_of_nonpos (show 0<=q by omega) z
     omega
    ·exact z
   have yl:y<l:=by
    rw [hy]
    have:=Int.mul_le_mul_of_nonneg_right q2 (show 0<=y by omega)
    omega
   refine⟨_,λ_ _ z=>z,by omega,Bd.of (by omega) (by omega),(y,m-1),by rw [ey],rfl,y1,by show y<=n;omega,by show 0<=m-1;omega,by show m-1<=k;omega,?_,by show y.toNat<l.toNat;omega⟩
   show n=q^(k-(m-1)).toNat*y
   rw [show (k-(m-1)).toNat=(k-m).toNat+1 by omega,Int.pow_succ,Int.mul_assoc,<- hy]
   exact e
  ·rw [if_neg (by omega)]
   refine Qr 0 (.inr ⟨λz=>?_,rfl⟩) (Int.le_refl _) (by omega)
   have pp:=Num.bB (show 0<q by omega) (k-m).toNat
   obtain⟨t,ht⟩:=z
   have e3:q^k.toNat=q^(k-m).toNat*q^m.toNat:=by rw [<- Pw.pow_add];congr 1;omega
   rw [e,e3,Int.mul_assoc] at ht
   have ht2:=Int.eq_of_mul_eq_mul_left (by omega) ht
   obtain⟨j,hj⟩:∃ j,m.toNat=j+1:=⟨m.toNat-1,by omega⟩
   rw [hj,Int.pow_succ,Int.mul_comm (q^j) q,Int.mul_assoc] at ht2
   exact c2 (Int.emod_eq_zero_of_dvd ⟨_,ht2⟩)
 ·have mz:m=0:=by omega
  rw [if_pos mz]
  rw [mz,Int.sub_zero] at e
  exact Qr l (.inl ⟨⟨l,e⟩,e⟩) (by omega) l2
def CT (width:Nat):Int->Int->List PyData->Prop
 | left,_,[]=>left=1
 | left,last,d::ds=>1<=left/\∃(p g k:Int) (rows more:List PyData),d=.tuple (.tuple [.int p,.int g,.tuple rows]::.int k::more)/\more.length+2=width/\2<=p/\1<=k/\last<p/\∃ r,Wo left p k r/\CT width r p ds
def ym (K:PySem.W.Frag):Sp:=λvs H Q _=>∃(n:Int) (rows:List PyData) (v:V) (m:Nat),vs=[.int n,v,.int m]/\2<=m/\n<=10^110/\dv K H (.tuple rows) v/\(∀(p g k:Int) (rs more:List PyData),.tuple (.tuple [.int p,.int g,.tuple rs]::.int k::more)∈rows->p<=10^110)/\∀ b:Bool,(b=true↔CT m n 1 rows)->Q (.bl b) H
theorem Wo.one {n q k r r':Int} (h2:2<=q) (h:Wo n q k r) (h':Wo n q k r'):r=r':=by
 have pp:=Num.bB (show 0<q by omega) k.toNat
 rcases h with⟨h1,h2⟩|⟨h1,h2⟩<;>rcases h' with⟨h3,h4⟩|⟨h3,h4⟩
 ·exact Int.eq_of_mul_eq_mul_left (by omega) (h2.symm.trans h4)
 ·exact absurd h1 h3
 ·exact absurd h3 h1
 ·rw [h2,h4]
theorem i8:ay ["n","rows","width","left","last","row"] ["n","rows","width"] (aj (top 25)):=c5
theorem ya (D:av K mg "come_to" (top 25)) (c_is_row_form:Callee P w K mg base aM 3 "is_row_form" ["thing","width"] (yp K)) (c_without:Callee P w K mg base aM 1 "without" ["whole","prime","many"] yq):Callee P w K mg base aM 4 "come_to" ["n","rows","width"] (ym K):=by
 refine cO D i8 (λf cdv A outer s H vs Q E hr h=>?_)
 obtain⟨n,rows,v,m,rfl,hm,n9,hd,hb9,q⟩:=h
 obtain⟨p,xs,rfl,hS,ht⟩:=hd
 have nd:=i8.nd
 refine⟨_,(ag (bV (i:=3) nd (pv 0)) (ag (bV (i:=4) nd af) (ag (nO PassesOwn.never rfl (iS (pv 1)) (aE (i:=5) nd rfl (Or.inl rfl) (.inr rfl)) (ag (aL (PW.pt (iZ (aq cP (pv 3) af (ar _)) (iZ (dO (aP (bF c_is_row_form hr aw (aa (pv 5) (aa (pv 2) ae))) (λ_=>rfl))) (gO (aq ma (aH aI (aH aI (pv 5) af (λ_ _=>rfl)) af (λ_ _=>rfl)) (pv 4) (ar _)))))) (ai (ax cH)) az) (ag (bV (i:=4) nd (aH aI (aH aI (pv 5) af (λ_ _=>rfl)) af (λ_ _=>rfl))) (ai (bV (i:=3) nd (bF c_without hr aw (aa (pv 3) (aa (pv 4) (aa (aH aI (pv 5) af (λ_ _=>rfl)) ae))))))))) (ai (ax (bA aU (pv 3) af (ar _))))))),?_⟩
 show bL _ _ _ [some (.int n),some (.ref p),some (.int m),none,none,none] H
 k_data
 refine⟨⟨_,hS⟩,?_⟩
 refine lO (xs:=xs) (λi σ' H'=>H'=H/\∃(l t:Int) (o:Option V),σ'=[some (.int n),some (.ref p),some (.int m),some (.int l),some (.int t),o]/\l<=10^110/\(CT m n 1 rows↔CT m l t (rows.drop i))) ⟨rfl,n,1,none,rfl,n9,by rw [List.drop_zero]⟩ (λi σ' H' _ h=>by rw [h.1];exact hS) ?_ ?_
 ·rintro i x σ' H' hx ⟨rfl,l,t,o,rfl,l9,hc⟩
  obtain⟨d,hd,hv⟩:=ht.get hx
  have dr:rows.drop i=d::rows.drop (i+1):=by
   obtain⟨hi,e⟩:=List.getElem?_eq_some_iff.mp hd
   rw [List.drop_eq_getElem_cons hi,e]
  rw [dr] at hc
  k_data
  refine aD (λc=>?_) (λc=>?_)
  ·exact q false ⟨λz=>(by cases z),λz=>absurd (hc.mp z).1 (by omega)⟩
  refine⟨d,x,m,rfl,hm,hv,λb hb=>⟨b,aG.mpr rfl,?_⟩⟩
  refine aD (λc1=>?_) (λc1=>?_)
  ·refine q false ⟨λz=>(by cases z),λz=>?_⟩
   obtain⟨_,p',g',k',rs',more',e1,e2,e3,e4,_⟩:=hc.mp z
   have:=hb.mpr ⟨_,k',more',e1,e2,⟨p',g',rs',rfl,e3⟩,e4⟩
   rw [c1] at this
   cases this
  ·obtain⟨pd,k,more,rfl,f2,⟨p',g,rs,rfl,f3⟩,f4⟩:=hb.mp (by simpa using c1)
   obtain⟨a1,y1,rfl,t1,u1,r1,rfl,hv2,u2,r2,rfl,hk,hmr⟩:=hv
   obtain⟨a2,x1,x2,x3,rfl,t2,w1,w2,w3⟩:=yP hv2
   cases w1
   cases hk
   refine bC t1 gH (bC t2 gH ⟨p',rfl,?_⟩)
   refine aD (λc2=>?_) (λc2=>?_)
   ·refine q false ⟨λz=>(by cases z),λz=>?_⟩
    obtain⟨_,p2,g2,k2,rs2,more2,e1,e2,e3,e4,e5,_⟩:=hc.mp z
    cases e1
    omega
   ·have p9:=hb9 p' g k rs more (List.mem_of_getElem? hd)
    refine bC t1 gH (bC t2 gH (bC t1 tu ⟨l,p',k,rfl,by omega,l9,f3,p9,f4,λr hr' r0 r1=>⟨rfl,r,rfl,p',rfl,by omega,?_⟩⟩))
    rw [hc]
    constructor
    ·rintro⟨_,p2,g2,k2,rs2,more2,e1,e2,e3,e4,e5,r',e6,e7⟩
     cases e1
     rw [hr'.one f3 e6]
     exact e7
    ·intro z
     exact⟨by omega,p',g,k,rs,more,rfl,f2,f3,f4,by omega,r,hr',z⟩
 ·rintro σ' H' ⟨rfl,l,t,o,rfl,l9,hc⟩
  k_data
  rw [ht.length,List.drop_length] at hc
  refine q _ ?_
  rw [hc]
  exact decide_eq_true_iff
end
end K
namespace K
open PySem PySem.Spec PyProof.Rows L2
mutual
def mM:PyData->Prop
 | .int i=>i<=10^110
 | .tuple ds=>fc ds
 | .list ds=>fc ds
 | _=>True
def fc:List PyData->Prop
 | []=>True
 | d::ds=>mM d/\fc ds
end
mutual
def fH:PyData->Nat
 | .tuple ds=>1+bK ds
 | .list ds=>1+bK ds
 | _=>1
def bK:List PyData->Nat
 | []=>0
 | d::ds=>fH d+bK ds
end
theorem d9:∀{ds:List PyData} {d:PyData},fc ds->d∈ds->mM d
 | a::r,d,⟨h1,h2⟩,h=>by
  rcases List.mem_cons.mp h with z | z
  ·rw [z];exact h1
  ·exact d9 h2 z
theorem kW:∀{ds:List PyData},(∀ d∈ds,mM d)->fc ds
 | [],_=>True.intro
 | a::r,h=>⟨h a (by simp),kW λd hd=>h d (List.mem_cons_of_mem _ hd)⟩
theorem gB:∀(xs ys:List PyData),bK (xs++ys)=bK xs+bK ys
 | [],ys=>by simp [bK]
 | a::r,ys=>by
  show fH a+bK (r++ys)=fH a+bK r+bK ys
  rw [gB r ys]
  omega
theorem k9:∀ d:PyData,1<=fH d
 | .tuple _=>by simp [fH]
 | .list _=>by simp [fH]
 | .none=>Nat.le_refl _
 | .bool _=>Nat.le_refl _
 | .int _=>Nat.le_refl _
 | .str _=>Nat.le_refl _
 | .dict _=>by simp [fH]
theorem gC:∀ ds:List PyData,ds.length<=bK ds
 | []=>Nat.le_refl _
 | a::r=>by
  have:=k9 a
  have:=gC r
  show r.length+1<=fH a+bK r
  omega
def jv:PyData->PyData
 | .tuple (x::_)=>x
 | _=>.none
def qD:PyData->Int
 | .tuple (.tuple (.int q::_)::_)=>q
 | _=>0
def RA (d:PyData):Prop:=∃(p g:Int) (rows:List PyData),d=.tuple [.int p,.int g,.tuple rows]/\2<=p/\1<=g/\g<p/\CT 2 (p-1) 1 rows/\xK p g (p-1) (rows.map qD)
inductive PP:PyData->Prop
 | mk (p g:Int) (rows:List PyData):RA (.tuple [.int p,.int g,.tuple rows])->(∀ r∈rows,PP (jv r))->PP (.tuple [.int p,.int g,.tuple rows])
theorem fR {w:Nat}:∀{rows:List PyData} {l t:Int},CT w l t rows->∀ r∈rows,∃(p g k:Int) (rs more:List PyData),r=.tuple (.tuple [.int p,.int g,.tuple rs]::.int k::more)/\2<=p/\1<=k/\more.length+2=w
 | d::ds,l,t,⟨_,p,g,k,rs,more,e1,e2,e3,e4,e5,r',e6,e7⟩,r,hr=>by
  rcases List.mem_cons.mp hr with z | z
  ·rw [z];exact⟨p,g,k,rs,more,e1,e3,e4,e2⟩
  ·exact fR e7 r z
theorem v9 {w:Nat} {rows:List PyData} {l t:Int} (h:CT w l t rows):yJ rows (rows.map qD):=by
 refine⟨by rw [List.length_map],λi row hi=>?_⟩
 obtain⟨p,g,k,rs,more,e,_⟩:=fR h row (List.mem_of_getElem? hi)
 exact⟨p,by rw [List.getElem?_map,hi,e];rfl,[.int g,.tuple rs],.int k::more,e⟩
section
variable {P:Program} {w:World} {K:PySem.W.Frag} {mg:Str->Option Value} {base:Heap}
def yo (K:PySem.W.Frag):Sp:=λvs H Q _=>∃ d v,vs=[v]/\dv K H d v/\mM d/\fH d<=10^6/\∀ b H',(b=true↔RA d)->aB H H'->Q (.bl b) H'
theorem dH:ay ["thing","p","full","parts"] ["thing"] (aj (top 23)):=c5
theorem ye (D:av K mg "is_right_above" (top 23)) (c_is_paper_form:Callee P w K mg base aM 2 "is_paper_form" ["thing"] (xk K)) (c_come_to:Callee P w K mg base aM 4 "come_to" ["n","rows","width"] (ym K)) (c_is_least:Callee P w K mg base aM 5 "is_least" ["n","a","e","primes"] (fm K)) (c_primes_in:Callee P w K mg base aM 1 "primes_in" ["parts"] (cK K)):Callee P w K mg base aM 6 "is_right_above" ["thing"] (yo K):=by
 refine cO D dH (λf cdv A outer s H vs Q E hr h=>?_)
 obtain⟨d,v,rfl,hd,hs,hz,q⟩:=h
 have nd:=dH.nd
 refine⟨_,(ag (aL (dO (aP (bF c_is_paper_form hr aw (aa (pv 0) ae)) (λ_=>rfl))) (ai (ax cH)) az) (ag (eT (pv 0) (eF (n:=3) rfl (aJ (aE (i:=1) nd rfl (Or.inl rfl) (.inr rfl)) (aJ (aE (i:=2) nd rfl (Or.inl rfl) (.inr rfl)) (aJ (aE (i:=3) nd rfl (Or.inl rfl) (.inr rfl)) cE))))) (ai (ax (bh (mh ma cP af (pv 2) (pv 1)) (bh (bF c_come_to hr aw (aa (ao bD (pv 1) af) (aa (pv 3) (aa af ae)))) (bX (bF c_is_least hr aw (aa (pv 1) (aa (pv 2) (aa (ao bD (pv 1) af) (aa (bF c_primes_in hr aw (aa (pv 3) ae)) ae)))))))))))),?_⟩
 show bL _ _ _ [some v,none,none,none] H
 k_data
 refine⟨d,v,rfl,hd,λb hb=>⟨b,aG.mpr rfl,?_⟩⟩
 refine aD (λc=>?_) (λc=>?_)
 ·refine q false _ ⟨λz=>(by cases z),fun⟨p,g,rows,e,p2,_⟩=>?_⟩ (aB.refl _)
  have:=hb.mpr ⟨p,g,rows,e,p2⟩
  rw [c] at this
  cases this
 ·obtain⟨p,g,rows,rfl,p2⟩:=hb.mp (by simpa using c)
  obtain⟨pa,x1,x2,x3,rfl,hS,e1,e2,e3⟩:=yP hd
  cases e1
  cases e2
  refine⟨pa,_,rfl,hS,rfl,?_⟩
  k_data
  simp only [nR,qw,tC,qB,List.getElem?_cons_zero,List.getElem?_cons_succ,Option.some.injEq,exists_eq_left',V.int.injEq,exists_and_left,V.bl.injEq]
  obtain⟨hp9,hrows⟩:p<=10^110/\fc rows:=by
   simp only [mM,fc,and_true] at hs
   exact⟨hs.1,hs.2.2⟩
  have hzr:bK rows<=10^6:=by
   simp only [fH,bK] at hz
   omega
  have no:∀{b:Bool},b=false->¬RA (.tuple [.int p,.int g,.tuple rows])->(b=true↔RA (.tuple [.int p,.int g,.tuple rows])):=λe n=>⟨λz=>(by rw [e] at z;cases z),λz=>absurd z n⟩
  refine aD (λc1=>?_) (λc1=>?_)
  ·refine aD (λc2=>?_) (λc2=>?_)
   ·have g1:1<=g:=of_decide_eq_true c1
    have g2:g<p:=of_decide_eq_true c2
    refine⟨p-1,rows,x3,2,rfl,by decide,by omega,e3,λp' g' k' rs more hm=>?_,λb1 hb1=>⟨b1,rfl,?_⟩⟩
    ·have:=d9 hrows hm
     simp only [mM,fc] at this
     exact this.1.1
    refine aD (λc3=>?_) (λc3=>?_)
    ·have hct:=hb1.mp c3
     have hh:=v9 hct
     have rl:rows.length<=10^6:=Nat.le_trans (gC rows) hzr
     refine⟨x3,rows,rows.map qD,rfl,e3,hh,rl,λpq H1 s1 f1 h1=>?_⟩
     refine⟨p,g,p-1,pq,rows.map qD,rfl,by omega,by omega,by omega,by omega,aT.of h1,λy hy=>?_,by rw [List.length_map];exact rl,λb2 H2 hb2 s2=>?_⟩
     ·obtain⟨r,hr',rfl⟩:=List.mem_map.mp hy
      obtain⟨p',g',k',rs,more,e,h2,_⟩:=fR hct r hr'
      have:=d9 hrows hr'
      rw [e] at this ⊢
      simp only [mM,fc] at this
      show 0<p'/\p'<=_
      omega
     ·refine q b2 H2 (hb2.trans ⟨λz=>⟨p,g,rows,rfl,p2,g1,g2,hct,z⟩,fun⟨p',g',rows',e,_,_,_,_,z⟩=>?_⟩) (s1.trans s2)
      cases e
      exact z
    ·refine q false _ (no rfl fun⟨p',g',rows',e,_,_,_,z,_⟩=>?_) (aB.refl _)
     cases e
     exact c3 (hb1.mpr z)
   ·refine q false _ (no rfl fun⟨p',g',rows',e,_,_,z,_⟩=>?_) (aB.refl _)
    cases e
    exact c2 (decide_eq_true z)
  ·refine q false _ (no rfl fun⟨p',g',rows',e,_,z,_⟩=>?_) (aB.refl _)
   cases e
   exact c1 (decide_eq_true z)
theorem lF {H:Hp}:∀{ds:List PyData} {us:List V},aY K H ds us->ds≠[]->∃ ds' d us' u,ds=ds'++[d]/\us=us'++[u]/\aY K H ds' us'/\dv K H d u
 | [d],us,⟨x,r,e,h,t⟩,_=>by
  cases t
  exact⟨[],d,[],x,rfl,e,rfl,h⟩
 | d::d2::ds,us,⟨x,r,e,h,t⟩,_=>by
  obtain⟨ds',d',us',u,e1,e2,h1,h2⟩:=lF t (by simp)
  exact⟨d::ds',d',x::us',u,by rw [e1];rfl,by rw [e,e2];rfl,⟨x,us',rfl,h,h1⟩,h2⟩
theorem jk:∀ rows:List PyData,bK (rows.map jv)<=bK rows
 | []=>Nat.le_refl _
 | a::r=>by
  have h1:=jk r
  have h2:fH (jv a)<=fH a:=by
   match a with
   | .tuple (x::xs) =>
    show fH x<=1+(fH x+bK xs)
    omega
   | .tuple []=>exact Nat.le_refl _
   | .list ds=>exact k9 (.list ds)
   | .none=>exact Nat.le_refl _
   | .bool _=>exact Nat.le_refl _
   | .int _=>exact Nat.le_refl _
   | .str _=>exact Nat.le_refl _
   | .dict ds=>exact k9 (.dict ds)
  show fH (jv a)+bK (r.map jv)<=fH a+bK r
  omega
def vJ (K:PySem.W.Frag):Sp:=λvs H Q _=>∃(p:Addr) (ds:List PyData) (us:List V),vs=[.ref p]/\(aT K H p us∨aQ K H p us)/\aY K H ds us/\fc ds/\bK ds<=10^6/\∀ b H',(b=true↔∀ d∈ds,PP d)->aB H H'->Q (.bl b) H'
theorem cV:ay ["things","waiting","paper"] ["things"] (aj (top 22)):=c5
theorem wH (D:av K mg "are_prime_papers" (top 22)) (c_is_right_above:Callee P w K mg base aM 6 "is_right_above" ["thing"] (yo K)) (n_list:mg "list"=none):Callee P w K mg base aM 7 "are_prime_papers" ["things"] (vJ K):=by
 refine cO D cV (λf cdv A outer s H vs Q E hr h=>?_)
 obtain⟨p,ds0,us0,rfl,hS,hd0,hsm0,hsz0,q⟩:=h
 have nd:=cV.nd
 refine⟨_,(ag (bV (i:=1) nd (cJ fP rfl n_list L2.boot_list (aa (pv 0) ae))) (ag (ba PassesOwn.never (aP (pv 1) (λ_=>rfl)) (ag (bV (i:=2) nd (wR PySem.F.plainAttrs_list PySem.F.slot_list_pop PySem.F.type_list_pop wz (pv 1))) (ag (aL (dO (aP (bF c_is_right_above hr aw (aa (pv 2) ae)) (λ_=>rfl))) (ai (ax cH)) az) (ai (kQ (rG PySem.F.plainAttrs_list PySem.F.slot_list_extend PySem.F.type_list_extend pQ (pv 1) (aa (fC rfl (sQ (N':=["row"]) (js:=[none]) rfl rfl) (iS (aH aI (pv 2) af (λ_ _=>rfl))) (λ_ _ _ _=>(aE (i:=0) (show List.Nodup [("row":Str)] from by decide +kernel) rfl (Or.inl rfl) (.inr rfl))) (λ_ _ _ _=>dc) (λ_ _ _ _=>(aH (eB K rfl) (pv 0) af (λ_ _=>rfl)))) ae))))))) (ai (ax cH)))),?_⟩
 show bL _ _ _ [some (.ref p),none,none] H
 k_data
 refine⟨us0,hS,λpw hpw=>?_⟩
 refine bc (α:=List PyData × List V × Option V) (λx=>[some (.ref p),some (.ref pw),x.2.2]) (λx H1=>aB H H1/\H1 pw=some (.lst x.2.1)/\aY K H x.1 x.2.1/\fc x.1/\bK x.1<=10^6/\((∀ d∈ds0,PP d)↔∀ d∈x.1,PP d)) (λx=>bK x.1) (ds0,us0,none) rfl ⟨ak hpw,ah,hd0,hsm0,hsz0,Iff.rfl⟩ ?_
 rintro⟨ds,us,o⟩ H1 ⟨s1,h1,hd,hsm,hsz,hPP⟩
 replace h1:H1 pw=some (.lst us):=h1
 replace hd:aY K H ds us:=hd
 replace hsm:fc ds:=hsm
 replace hsz:bK ds<=10^6:=hsz
 replace hPP:(∀ d∈ds0,PP d)↔∀ d∈ds,PP d:=hPP
 k_data
 refine⟨!us.isEmpty,.inl ⟨us,aT.of h1,rfl⟩,?_⟩
 by_cases hne:ds=[]
 ·subst hne
  have hu:us=[]:=hd
  subst hu
  rw [if_neg (by simp)]
  exact q true H1 ⟨λ_=>hPP.mpr λd z=>by simp at z,λ_=>rfl⟩ s1
 obtain⟨ds',d,us',u,rfl,rfl,hd',hdu⟩:=lF hd hne
 rw [if_pos (by simp)]
 have smd:mM d:=d9 hsm (by simp)
 have szd:bK (ds'++[d])=bK ds'+fH d:=by
  rw [gB]
  show bK ds'+(fH d+0)=_
  omega
 refine⟨_,λ_ _ z=>z,.inl ⟨rfl,_,aT.of h1⟩,pw,us'++[u],u,rfl,rfl,h1,by simp,?_⟩
 rw [List.dropLast_concat]
 have S2:=s1.upd (o:=.lst us') hpw
 have e2:upd H1 pw (.lst us') pw=some (.lst us'):=ah
 generalize upd H1 pw _=H2 at *
 refine⟨d,u,rfl,dv.same S2 _ hdu,smd,by omega,λb H3 hb s3=>⟨b,aG.mpr rfl,?_⟩⟩
 have S3:=S2.trans s3
 have e3:=s3 _ _ e2
 refine aD (λc=>?_) (λc=>?_)
 ·refine q false H3 ⟨λz=>(by cases z),λz=>?_⟩ S3
  have hp:=hPP.mp z d (by simp)
  cases hp with
  | mk _ _ _ hra _ =>
   have:=hb.mpr hra
   rw [c] at this
   cases this
 ·have hra:=hb.mp (by simpa using c)
  obtain⟨p',g,rows,rfl,p2,g1,g2,hct,hlst⟩:=hra
  have hra:=hb.mp (by simpa using c)
  obtain⟨pa,x1,x2,x3,rfl,hSu,f1,f2,f3⟩:=yP hdu
  obtain⟨pr,xs,rfl,hSr,hdr⟩:=f3
  have xl:=hdr.length
  have szr:bK rows<fH (.tuple [.int p',.int g,.tuple rows]):=by
   simp only [fH,bK]
   omega
  have rl:=gC rows
  refine⟨.inl ⟨rfl,_,aT.of e3⟩,bC (hSu.same S3) rfl ⟨pr,rfl,⟨_,hSr.same S3⟩,?_⟩⟩
  refine gJ (xs:=xs) (λi zs H4=>H4=H3/\aY K H ((rows.take i).map jv) zs) ⟨rfl,rfl⟩ (Nat.le_trans (show xs.length<=10^6 by omega) (by decide)) (λi zs H4 hi ⟨z1,z2⟩=>⟨by rw [z1];exact hSr.same S3,by rw [z2.length,List.length_map,List.length_take];omega⟩) ?_ ?_
  ·rintro i x zs H4 hx ⟨rfl,hz⟩
   obtain⟨r,hr',hv⟩:=hdr.get hx
   obtain⟨p4,g4,k4,rs,more,rfl,_⟩:=fR hct r (List.mem_of_getElem? hr')
   obtain⟨a1,y1,rfl,t1,u1,r1,rfl,hv2,_⟩:=hv
   show dU 0 _ [none] _ _
   k_data
   refine⟨True.intro,bC (t1.same S3) gH ⟨rfl,?_⟩⟩
   rw [List.take_add_one,hr',List.map_append]
   exact aY.append hz (.one hv2)
  ·rintro zs H4 p4 ⟨rfl,hz⟩ hp4
   rw [show xs.length=rows.length by omega,List.take_length] at hz
   have zl:zs.length=rows.length:=by rw [hz.length,List.length_map]
   have s5:=ak (o:=.lst zs) hp4
   have e5:upd H4 p4 (.lst zs) p4=some (.lst zs):=ah
   have e6:=s5 _ _ e3
   have S5:=S3.trans s5
   generalize upd H4 p4 _=H5 at *
   have ul:=hd'.length
   have dl:=gC ds'
   refine⟨pw,p4,us',zs,rfl,rfl,e6,e5,Nat.le_trans (show us'.length+zs.length<=10^6 by omega) (by decide),(ds'++rows.map jv,us'++zs,some (.ref pa)),rfl,S5.upd hpw,ah,aY.append hd' hz,?_,?_,?_,?_⟩
   ·refine kW λx hx=>?_
    rcases List.mem_append.mp hx with z | z
    ·exact d9 hsm (List.mem_append.mpr (.inl z))
    ·obtain⟨r,hr',rfl⟩:=List.mem_map.mp z
     obtain⟨p4,g4,k4,rs,more,rfl,_⟩:=fR hct r hr'
     simp only [mM,fc] at smd
     have:=d9 smd.2.2.1 hr'
     simp only [mM,fc] at this
     simp only [jv,mM,fc]
     exact this.1
   ·show bK (ds'++rows.map jv)<=_
    rw [gB]
    have:=jk rows
    omega
   ·rw [hPP]
    constructor
    ·intro z x hx
     rcases List.mem_append.mp hx with y | y
     ·exact z x (List.mem_append.mpr (.inl y))
     ·obtain⟨r,hr',rfl⟩:=List.mem_map.mp y
      have hp:=z (.tuple [.int p',.int g,.tuple rows]) (by simp)
      cases hp with
      | mk _ _ _ _ h=>exact h r hr'
    ·intro z x hx
     rcases List.mem_append.mp hx with y | y
     ·exact z x (List.mem_append.mpr (.inl y))
     ·rw [List.mem_singleton.mp y]
      exact .mk p' g rows hra λr hr'=>z _ (List.mem_append.mpr (.inr (List.mem_map.mpr ⟨r,hr',rfl⟩)))
   ·show bK (ds'++rows.map jv)<_
    rw [gB,szd]
    have:=jk rows
    omega
def yn (K:PySem.W.Frag):Sp:=λvs H Q _=>∃ d v,vs=[v]/\dv K H d v/\mM d/\fH d<=10^6/\∀ b H',(b=true↔PP d)->aB H H'->Q (.bl b) H'
theorem dG:ay ["thing"] ["thing"] (aj (top 20)):=c5
theorem yd (D:av K mg "is_prime_paper" (top 20)) (c_are_prime_papers:Callee P w K mg base aM 7 "are_prime_papers" ["things"] (vJ K)):Callee P w K mg base aM 8 "is_prime_paper" ["thing"] (yn K):=by
 refine cO D dG (λf cdv A outer s H vs Q E hr h=>?_)
 obtain⟨d,v,rfl,hd,hs,hz,q⟩:=h
 have nd:=dG.nd
 refine⟨_,(ai (ax (bF c_are_prime_papers hr aw (aa (bW (aa (pv 0) ae)) ae)))),?_⟩
 show fy _ _ [some v] H
 k_data
 refine⟨by show 1<=sizeLine;decide,λpl hpl=>?_⟩
 have s1:=ak (o:=.lst [v]) hpl
 refine⟨pl,[d],[v],rfl,.inl (aT.of ah),.one (dv.same s1 _ hd),⟨hs,True.intro⟩,by show fH d+0<=_;omega,λb H' hb s2=>?_⟩
 exact q b H' (hb.trans ⟨λz=>z d (by simp),λz x hx=>by rw [List.mem_singleton.mp hx];exact z⟩) (s1.trans s2)
end
end K
namespace K
open PySem PySem.Spec PyProof.Rows L2
theorem dB {p:Int × Int} {ps:List (Int × Int)} {ds:Nat->PyData}:Num.rowsOf (p::ps) ds=.tuple [ds 0,.int p.2]::Num.rowsOf ps (λi=>ds (i+1)):=by
 unfold Num.rowsOf
 rw [List.length_cons,List.range_succ_eq_map,List.map_cons,List.map_map]
 rfl
theorem mi:∀{ps:List (Int × Int)},(∀ p∈ps,2<=p.1)->1<=Num.bf ps
 | [],_=>Int.le_refl _
 | p::ps,h=>by
  have h1:=mi (ps:=ps) λq hq=>h q (List.mem_cons_of_mem _ hq)
  have h2:=Num.bB (show 0<p.1 by have:=h p (by simp);omega) p.2.toNat
  have:=Int.mul_pos h2 (show 0<Num.bf ps by omega)
  show 1<=p.1^p.2.toNat*Num.bf ps
  omega
theorem u7:∀{ps:List (Int × Int)} {ds:Nat->PyData} {t:Int},(∀ p∈ps,2<=p.1/\1<=p.2/\t<p.1)->ps.Pairwise (λa b=>a.1<b.1)->(∀ i q k,ps[i]?=some (q,k)->∃ g rows,ds i=.tuple [.int q,.int g,.tuple rows])->CT 2 (Num.bf ps) t (Num.rowsOf ps ds)
 | [],_,_,_,_,_=>rfl
 | p::ps,ds,t,h,hw,hd=>by
  rw [dB]
  obtain⟨g,rows,e⟩:=hd 0 p.1 p.2 rfl
  obtain⟨p2,k1,tp⟩:=h p (by simp)
  obtain⟨w1,w2⟩:=List.pairwise_cons.mp hw
  refine⟨mi λq hq=>(h q hq).1,p.1,g,p.2,rows,[],by rw [e],rfl,p2,k1,tp,Num.bf ps,.inl ⟨⟨_,rfl⟩,rfl⟩,?_⟩
  exact u7 (λq hq=>⟨(h q (List.mem_cons_of_mem _ hq)).1,(h q (List.mem_cons_of_mem _ hq)).2.1,w1 q hq⟩) w2 λi q k hi=>hd (i+1) q k (by simpa using hi)
theorem uu {n:Int} {ps:List (Int × Int)} {ds:Nat->PyData} (h:Num.Part n ps) (hd:∀ i q k,ps[i]?=some (q,k)->Num.fN q (ds i)):CT 2 n 1 (Num.rowsOf ps ds):=by
 have:=u7 (t:=1) (ds:=ds) (λp hp=>⟨(h.ok p hp).1.two,(h.ok p hp).2.1,by have:=(h.ok p hp).1.two;omega⟩) h.rise λi q k hi=>(hd i q k hi).head
 rwa [h.prod] at this
theorem rV:∀{ps:List (Int × Int)} {ds:Nat->PyData},(∀ i q k,ps[i]?=some (q,k)->∃ g rows,ds i=.tuple [.int q,.int g,.tuple rows])->(Num.rowsOf ps ds).map qD=ps.map (·.1)
 | [],_,_=>rfl
 | p::ps,ds,hd=>by
  rw [dB]
  obtain⟨g,rows,e⟩:=hd 0 p.1 p.2 rfl
  rw [List.map_cons,List.map_cons,rV λi q k hi=>hd (i+1) q k (by simpa using hi),e]
  rfl
theorem i6 {ps:List (Int × Int)} {ds:Nat->PyData} {r:PyData} (h:r∈Num.rowsOf ps ds):∃ i q k,ps[i]?=some (q,k)/\r=.tuple [ds i,.int k]:=by
 unfold Num.rowsOf at h
 obtain⟨i,hi,e⟩:=List.mem_map.mp h
 have hi':=List.mem_range.mp hi
 have g:=List.getElem?_eq_getElem hi'
 refine⟨i,ps[i].1,ps[i].2,g,?_⟩
 rw [<- e,List.getD_eq_getElem?_getD,g]
 rfl
theorem rS {n a:Int} {ps:List (Int × Int)} {ds:Nat->PyData} (n2:2<=n) (h:Num.Part (n-1) ps) (hd:∀ i q k,ps[i]?=some (q,k)->Num.fN q (ds i)):RA (.tuple [.int n,.int a,.tuple (Num.rowsOf ps ds)])↔1<=a/\a<n/\Num.Ord n a (n-1).toNat:=by
 have hq:=rV (ps:=ps) (ds:=ds) λi q k hi=>(hd i q k hi).head
 constructor
 ·rintro⟨p,g,rows,e,p2,g1,g2,c,l⟩
  cases e
  rw [hq,kD n2 h (by omega)] at l
  exact⟨g1,g2,l⟩
 ·rintro⟨a1,a2,o⟩
  exact⟨n,a,_,rfl,n2,a1,a2,uu h hd,by rw [hq,kD n2 h (by omega)];exact o⟩
theorem wM {n:Int} {d:PyData} (h:Num.fN n d):PP d:=by
 induction h with
 | mk p g ps ds hp h9 hl hP hn hds ih =>
  refine .mk p g _ ((rS hp.two hP hds).mpr ⟨hl.one,hl.lt,hl.ord⟩) λr hr=>?_
  obtain⟨i,q,k,hi,rfl⟩:=i6 hr
  exact ih i q k hi
theorem wV {n a:Int} {ps:List (Int × Int)} {ds:Nat->PyData} (n2:2<=n) (h:Num.Part (n-1) ps) (hd:∀ i q k,ps[i]?=some (q,k)->Num.fN q (ds i)):PP (.tuple [.int n,.int a,.tuple (Num.rowsOf ps ds)])↔1<=a/\a<n/\Num.Ord n a (n-1).toNat:=by
 rw [<- rS n2 h hd]
 constructor
 ·intro z
  cases z with
  | mk _ _ _ h1 _=>exact h1
 ·intro z
  refine .mk n a _ z λr hr=>?_
  obtain⟨i,q,k,hi,rfl⟩:=i6 hr
  exact wM (hd i q k hi)
theorem wN {n:Int} {d:PyData} (h:Num.fN n d):mM d:=by
 induction h with
 | mk p g ps ds hp h9 hl hP hn hds ih =>
  have:=hl.lt
  simp only [mM,fc,and_true]
  refine⟨by omega,by omega,kW λr hr=>?_⟩
  obtain⟨i,q,k,hi,rfl⟩:=i6 hr
  have hk:=(hP.ok _ (List.mem_of_getElem? hi)).2.2
  simp only [mM,fc,and_true]
  exact⟨ih i q k hi,by show k<=_;have:k<=30:=hk;omega⟩
theorem oM:∀{ps:List (Int × Int)} {ds:Nat->PyData},(∀ p∈ps,2<=p.1/\1<=p.2)->(∀ i q k,ps[i]?=some (q,k)->2^(fH (ds i)+2)<=q.natAbs^12)->2^bK (Num.rowsOf ps ds)<=(Num.bf ps).natAbs^12
 | [],_,_,_=>by show 2^0<=1^12;decide
 | p::ps,ds,h,hd=>by
  rw [dB]
  have h1:=hd 0 p.1 p.2 rfl
  have h2:=oM (ps:=ps) (ds:=λi=>ds (i+1)) (λq hq=>h q (List.mem_cons_of_mem _ hq)) λi q k hi=>hd (i+1) q k (by simpa using hi)
  obtain⟨p2,k1⟩:=h p (by simp)
  have e:bK (.tuple [ds 0,.int p.2]::Num.rowsOf ps (λi=>ds (i+1)))=(fH (ds 0)+2)+bK (Num.rowsOf ps (λi=>ds (i+1))):=by
   simp only [bK,fH]
   omega
  rw [e,Nat.pow_add]
  have h3:=Nat.mul_le_mul h1 h2
  rw [<- Nat.mul_pow] at h3
  refine Nat.le_trans h3 (Nat.pow_le_pow_left ?_ 12)
  show _<=(p.1^p.2.toNat*Num.bf ps).natAbs
  rw [Int.natAbs_mul,Int.natAbs_pow]
  exact Nat.mul_le_mul_right _ (Nat.le_self_pow (by omega) _)
theorem wO {n:Int} {d:PyData} (h:Num.fN n d):2^(fH d+2)<=n.natAbs^12/\(n=2->fH d=4):=by
 induction h with
 | mk p g ps ds hp h9 hl hP hn hds ih =>
  have p2:=hp.two
  have esz:fH (.tuple [.int p,.int g,.tuple (Num.rowsOf ps ds)])=4+bK (Num.rowsOf ps ds):=by
   simp only [fH,bK]
   omega
  have nil2:p=2->ps=[]:=λe=>by
   cases ps with
   | nil=>rfl
   | cons x r =>
    exfalso
    obtain⟨o1,o2,_⟩:=hP.ok x (by simp)
    have:=Num.bP (ps:=x::r) (p:=x) (by simp) o2
    rw [hP.prod,e] at this
    have:=Int.le_of_dvd (by decide) this
    have:=o1.two
    omega
  refine⟨?_,λe=>by rw [esz,nil2 e];rfl⟩
  rw [esz]
  by_cases c:p=2
  ·rw [nil2 c,c]
   show 2^(4+0+2)<=2^12
   decide
  ·have podd:p%2=1:=by
    rcases (by omega:p%2=1∨p%2=0) with z | z
    ·exact z
    ·exact absurd (Int.dvd_of_emod_eq_zero z) (hp.no 2 (by decide) (by omega))
   have pm2:Num.Pm 2:=⟨by decide,λd d2 dn=>by omega⟩
   obtain⟨x,hx,ex⟩:=Num.bR pm2 (λx z=>(hP.ok x z).1) (by rw [hP.prod];exact⟨(p-1)/2,by omega⟩)
   cases ps with
   | nil=>simp at hx
   | cons y r =>
    have ey:y.1=2:=by
     have:=(hP.ok y (by simp)).1.two
     rcases List.mem_cons.mp hx with z | z
     ·rw [<- z];exact ex
     ·have:=(List.pairwise_cons.mp hP.rise).1 x z
      omega
    have s0:=(ih 0 y.1 y.2 rfl).2 ey
    have hr:=oM (ps:=r) (ds:=λi=>ds (i+1)) (λq hq=>⟨(hP.ok q (List.mem_cons_of_mem _ hq)).1.two,(hP.ok q (List.mem_cons_of_mem _ hq)).2.1⟩) λi q k hi=>(ih (i+1) q k (by simpa using hi)).1
    rw [dB]
    have e:4+bK (.tuple [ds 0,.int y.2]::Num.rowsOf r (λi=>ds (i+1)))+2=12+bK (Num.rowsOf r (λi=>ds (i+1))):=by
     simp only [bK,fH,s0]
     omega
    rw [e,Nat.pow_add]
    have h3:=Nat.mul_le_mul_left (2^12) hr
    rw [<- Nat.mul_pow] at h3
    refine Nat.le_trans h3 (Nat.pow_le_pow_left ?_ 12)
    have hpr:Num.bf (y::r)=p-1:=hP.prod
    have k1:=(hP.ok y (by simp)).2.1
    have:(Num.bf (y::r)).natAbs=2^y.2.toNat*(Num.bf r).natAbs:=by
     show (y.1^y.2.toNat*Num.bf r).natAbs=_
     rw [Int.natAbs_mul,Int.natAbs_pow,ey]
     rfl
    rw [hpr] at this
    have h5:2*(Num.bf r).natAbs<=2^y.2.toNat*(Num.bf r).natAbs:=Nat.mul_le_mul_right _ (Nat.le_self_pow (by omega) _)
    omega
theorem qa {n:Int} {d:PyData} (h:Num.fN n d):fH d<=358:=by
 have h1:=(wO h).1
 have h9:n<=10^9/\2<=n:=by
  cases h with
  | mk _ _ _ _ a b=>exact⟨b,a.two⟩
 have e30:(2:Nat)^30=1073741824:=by decide
 have h2:n.natAbs^12<=(2^30)^12:=Nat.pow_le_pow_left (show n.natAbs<=2^30 by omega) 12
 rw [<- Nat.pow_mul] at h2
 have:=(Nat.pow_le_pow_iff_right (by decide:1<2)).mp (Nat.le_trans h1 h2)
 omega
end K
namespace K
open PySem PySem.Spec PyProof.Rows L2
section
variable {P:Program} {w:World} {K:PySem.W.Frag} {mg:Str->Option Value} {base:Heap}
theorem sU {p a:Int} {e:Nat} (hp:Num.Pm p) (h:Num.Ord p a e):e∣(p-1).toNat:=by
 refine h.dv _ (Num.m7 hp λz=>?_)
 have h0:Num.Al p (a^e) 0:=by
  obtain⟨k,hk⟩:∃ k,e=k+1:=⟨e-1,by have:=h.pos;omega⟩
  rw [hk,Int.pow_succ]
  show p∣a^k*a-0
  rw [Int.sub_zero]
  exact Int.dvd_mul_of_dvd_right z
 exact hp.ua (h0.symm.trans h.one)
theorem q5 {p a e:Int} {ps:List (Int × Int)} (hp:Num.Pm p) (h:Num.Part (p-1) ps) (he:1<=e) (hd:e∣p-1):xK p a e ((ps.map (·.1)).filter λq=>decide (e%q=0))↔Num.Ord p a e.toNat:=by
 have p2:=hp.two
 constructor
 ·rintro⟨h1,h2⟩
  refine Num.nJ (by omega) ((cq p2).mp h1) λq hq hq' z=>?_
  have hd':(q:Int)∣e:=by
   have:=Int.natCast_dvd_natCast.mpr hq'
   rwa [show (e.toNat:Int)=e by omega] at this
  obtain⟨x,hx,ex⟩:=Num.bR (Num.rN hq) (λx z=>(h.ok x z).1) (by rw [h.prod];exact Int.dvd_trans hd' hd)
  refine h2 q (List.mem_filter.mpr ⟨List.mem_map.mpr ⟨x,hx,ex⟩,decide_eq_true (Int.emod_eq_zero_of_dvd hd')⟩) ((cq p2).mpr ?_)
  rwa [show (e/(q:Int)).toNat=e.toNat/q by
   have:e/(q:Int)=((e.toNat/q:Nat):Int):=by rw [Int.natCast_ediv];congr 1;omega
   rw [this,Int.toNat_natCast]]
 ·intro h1
  refine⟨(cq p2).mpr h1.one,λq hq z=>?_⟩
  obtain⟨m1,m2⟩:=List.mem_filter.mp hq
  obtain⟨x,hx,rfl⟩:=List.mem_map.mp m1
  obtain⟨o1,o2,_⟩:=h.ok x hx
  have d:x.1∣e:=Int.dvd_of_emod_eq_zero (of_decide_eq_true m2)
  have t:=o1.two
  refine h1.zR (Num.lR o1) (by
   have:(x.1.toNat:Int)∣(e.toNat:Int):=by rw [show (x.1.toNat:Int)=x.1 by omega,show (e.toNat:Int)=e by omega];exact d
   exact Int.natCast_dvd_natCast.mp this) ?_
  rw [show e.toNat/x.1.toNat=(e/x.1).toNat by
   have:e/x.1=((e.toNat/x.1.toNat:Nat):Int):=by rw [Int.natCast_ediv];congr 1<;>omega
   rw [this,Int.toNat_natCast]]
  exact (cq p2).mp z
def gP (K:PySem.W.Frag):Sp:=λvs H Q _=>∃(v:V) (p a e:Int) (g:PyData) (rows:List PyData) (ps:List (Int × Int)),vs=[v,.int a,.int e]/\dv K H (.tuple [.int p,g,.tuple rows]) v/\yJ rows (ps.map (·.1))/\Num.Pm p/\Num.Part (p-1) ps/\p<=10^100/\ps.length<=10^5 /\ -(10^100)<=e/\e<=10^100/\∀ b H',(b=true↔1<=e/\Num.Ord p a e.toNat)->aB H H'->Q (.bl b) H'
theorem ia:ay ["paper","a","e","p","full","parts"] ["paper","a","e"] (aj (top 21)):=c5
theorem nG (D:av K mg "is_order" (top 21)) (c_is_least:Callee P w K mg base aM 5 "is_least" ["n","a","e","primes"] (fm K)) (c_primes_in:Callee P w K mg base aM 1 "primes_in" ["parts"] (cK K)):Callee P w K mg base aM 6 "is_order" ["paper","a","e"] (gP K):=by
 refine cO D ia (λf cdv A outer s H vs Q E hr h=>?_)
 obtain⟨v,p,a,e,g,rows,ps,rfl,hd,hq,hp,hP,p1,hl,e0,e1,q⟩:=h
 have p2:=hp.two
 obtain⟨pa,xs,rfl,hS,x0,r0,rfl,d0,vg,r1,rfl,dg,vr,r2,rfl,dr,z⟩:=hd
 cases z
 cases d0
 have nd:=ia.nd
 refine⟨_,(ag (eT (pv 0) (eF (n:=3) rfl (aJ (aE (i:=3) nd rfl (Or.inl rfl) (.inr rfl)) (aJ (aE (i:=4) nd rfl (Or.inl rfl) (.inr rfl)) (aJ (aE (i:=5) nd rfl (Or.inl rfl) (.inr rfl)) cE))))) (ag (aL (PW.pt (iZ (aq cP (pv 2) af (ar _)) (gO (aq iQ (ao aK (ao bD (pv 3) af) (pv 2)) af (ar _))))) (ai (ax cH)) az) (ai (ax (bF c_is_least hr aw (aa (pv 3) (aa (pv 1) (aa (pv 2) (aa (fC rfl (sQ (N':=["prime","e"]) (js:=[none,some 2]) rfl rfl) (gi (bF c_primes_in hr aw (aa (pv 5) ae))) (λ_ _ _ _=>(aE (i:=0) (show List.Nodup [("prime":Str),("e":Str)] from by decide +kernel) rfl (Or.inl rfl) (.inr rfl))) (λ_ _ _ _=>(iT (aq aU (ao aK (pv 1) (pv 0)) af (ar _)))) (λ_ _ _ _=>(pv 0))) ae))))))))),?_⟩
 show bL _ _ _ [some (.ref pa),some (.int a),some (.int e),none,none,none] H
 k_data
 refine⟨pa,_,rfl,hS,rfl,?_⟩
 k_data
 refine aD (λc=>?_) (λc=>?_)
 ·exact q false _ ⟨λz=>(by cases z),λz=>absurd z.1 (by omega)⟩ (aB.refl _)
 refine⟨by omega,?_⟩
 refine aD (λc2=>?_) (λc2=>?_)
 ·refine q false _ ⟨λz=>(by cases z),λz=>?_⟩ (aB.refl _)
  have h1:=Int.natCast_dvd_natCast.mpr (sU hp z.2)
  rw [show (e.toNat:Int)=e by omega,show ((p-1).toNat:Int)=p-1 by omega] at h1
  exact absurd (Int.emod_eq_zero_of_dvd h1) (by simpa using c2)
 refine⟨vr,rows,ps.map (·.1),rfl,dr,hq,by rw [hq.1,List.length_map];omega,λpq H1 s1 f1 h1=>⟨pq,rfl,⟨_,aT.of h1⟩,?_⟩⟩
 have d0:e∣p-1:=Int.dvd_of_emod_eq_zero (by simpa using c2)
 refine c7 (xs:=(ps.map (·.1)).map V.int) (λi zs H3=>H3=H1/\zs=(((ps.map (·.1)).take i).filter λq=>decide (e%q=0)).map V.int) ⟨rfl,rfl⟩ (by rw [List.length_map,List.length_map];exact Nat.le_trans hl (by decide)) (λi zs H3 hi ⟨z1,z2⟩=>⟨by rw [z1];exact aT.of h1,by rw [z2,List.length_map];exact Nat.le_trans (List.length_filter_le _ _) (by rw [List.length_take];omega)⟩) ?_ ?_
 ·rintro i x zs H3 hx ⟨rfl,rfl⟩
  rw [List.getElem?_map] at hx
  obtain⟨y,hy,rfl⟩:=Option.map_eq_some_iff.mp hx
  have my:=kM hP (by omega) y (List.mem_of_getElem? hy)
  show dU 0 _ [none,some (.int e)] _ _
  k_data
  refine⟨⟨rfl,True.intro⟩,by omega,?_⟩
  rw [List.take_add_one,hy,List.filter_append]
  refine aD (λc3=>?_) (λc3=>?_)
  ·simp [c3]
  ·simp [c3]
 ·rintro zs H3 p3 ⟨rfl,rfl⟩ hp3
  rw [List.length_map,List.take_length]
  refine⟨p,a,e,p3,_,rfl,by omega,by omega,by omega,by omega,aT.of ah,λy hy=>?_,?_,λb H4 hb s4=>?_⟩
  ·have:=kM hP (by omega) y (List.mem_filter.mp hy).1
   omega
  ·exact Nat.le_trans (List.length_filter_le _ _) (by rw [List.length_map];omega)
  ·rw [q5 hp hP (by omega) d0] at hb
   exact q b H4 (hb.trans ⟨λz=>⟨by omega,z⟩,λz=>z.2⟩) ((s1.trans (ak hp3)).trans s4)
mutual
def rD:Nat->PyData->Prop
 | 0,_=>False
 | _+1,.int _=>True
 | _+1,.str x=>PyData.canLay0 (.str x)=true
 | L+1,.list ds=>ds.length<=10^6/\nP L ds
 | L+1,.tuple ds=>ds.length<=10^6/\nP L ds
 | _+1,_=>False
def nP:Nat->List PyData->Prop
 | _,[]=>True
 | L,d::ds=>rD L d/\nP L ds
end
theorem rR:∀{L:Nat} {ds:List PyData} {i:Nat} {d:PyData},nP L ds->ds[i]?=some d->rD L d
 | L,[],i,d,_,h=>by simp at h
 | L,e::ds,0,d,h,z=>by
  simp only [nP] at h
  cases z
  exact h.1
 | L,e::ds,i+1,d,h,z=>by
  simp only [nP] at h
  exact rR h.2 (by simpa using z)
theorem fg:∀{ds:List PyData} {i:Nat} {d:PyData},PyData.canLayAll0 ds=true->ds[i]?=some d->d.canLay0=true
 | [],i,d,_,h=>by simp at h
 | e::ds,0,d,h,z=>by
  cases z
  have h':e.canLay0=true/\PyData.canLayAll0 ds=true:=by simpa [PyData.canLayAll0] using h
  exact h'.1
 | e::ds,i+1,d,h,z=>by
  have h':e.canLay0=true/\PyData.canLayAll0 ds=true:=by simpa [PyData.canLayAll0] using h
  exact fg h'.2 (by simpa using z)
def gQ (K:PySem.W.Frag) (L:Nat):Sp:=λvs H Q _=>∃(u v:V) (d r:PyData),vs=[u,v]/\dv K H d u/\dv K H r v/\d.canLay0=true/\rD L r/\∀ b H',(b=true↔d=r)->aB H H'->Q (.bl b) H'
def oO (K:PySem.W.Frag) (L:Nat):Sp:=λvs H Q _=>∃(k:Sd) (a c:Addr) (us vs':List V) (ds rs:List PyData),vs=[.ref a,.ref c]/\iG k K H a us/\iG k K H c vs'/\aY K H ds us/\aY K H rs vs'/\PyData.canLayAll0 ds=true/\nP L rs/\rs.length<=10^6/\∀ b H',(b=true↔ds=rs)->aB H H'->Q (.bl b) H'
theorem jD {k:Sd} {H H':Hp} {a:Addr} {xs:List V} (h:iG k K H a xs) (s:aB H H'):iG k K H' a xs:=by
 cases k
 ·exact aT.same h s
 ·exact aQ.same h s
theorem x4 {k:Sd} {H:Hp} {a:Addr} {xs:List V} {Q:VK} (h:iG k K H a xs) (q:Q (.int xs.length) H):uD K [.ref a] H Q:=by
 cases k
 ·exact dz h q
 ·exact fk h q
theorem hW:ay ["things","rights"] ["things","rights"] (aj (top 14)):=c5
theorem rm {L:Nat} (D:av K mg "are_just" (top 14)) (c_is_just:Callee P w K mg base aM (2*L+1) "is_just" ["thing","right"] (gQ K L)) (n_len:mg "len"=none) (n_zip:mg "zip"=none) (n_all:mg "all"=none):Callee P w K mg base aM (2*L+2) "are_just" ["things","rights"] (oO K L):=by
 refine cO D hW (λf cdv A outer s H vs Q E hr h=>?_)
 obtain⟨k,a,c,us,vs',ds,rs,rfl,hS,hR,dd,dr,cl,hr',hl,q⟩:=h
 have nd:=hW.nd
 refine⟨_,(ai (ax (bh (bA aU (aC bj rfl n_len PySem.boot_len (aa (pv 0) ae)) (aC bj rfl n_len PySem.boot_len (aa (pv 1) ae)) (ar _)) (bX (aC (iI rfl) rfl n_all L2.boot_all (aa (fC rfl (sQ (N':=["thing","right"]) (js:=[none,none]) rfl rfl) (oH rfl n_zip (aa (pv 0) (aa (pv 1) ae))) (λ_ _ _ _=>(kO K rfl (n:=2) rfl (aJ (aE (i:=0) (show List.Nodup [("thing":Str),("right":Str)] from by decide +kernel) rfl (Or.inl rfl) (.inr rfl)) (aJ (aE (i:=1) (show List.Nodup [("thing":Str),("right":Str)] from by decide +kernel) rfl (Or.inl rfl) (.inr rfl)) cE)))) (λ_ _ _ _=>dc) (λ_ _ _ _=>(aA c_is_just (hr.mono (by omega)) rfl aw (aa (pv 0) (aa (pv 1) ae))))) ae)))))),?_⟩
 show fy _ _ [some (.ref a),some (.ref c)] H
 have ul:=dd.length
 have vl:=dr.length
 k_data
 refine x4 hS (x4 hR ⟨iC,?_⟩)
 by_cases ln:us.length=vs'.length
 ·rw [if_pos (by rw [ln])]
  refine⟨k,⟨_,hS⟩,k,⟨_,hR⟩,?_⟩
  refine jI (xs:=us) (ys:=vs') (λi zs H3=>aB H H3/\∃ bs:List Bool,zs=bs.map V.bl/\bs.length=i/\(bs.all id=true↔ds.take i=rs.take i)) ⟨aB.refl _,[],rfl,rfl,by simp⟩ (by omega) (Nat.le_trans (by omega) (show 10^6<=sizeLine by decide)) (λi zs H3 hi ⟨z1,bs,z2,z3,_⟩=>⟨jD hS z1,jD hR z1,by rw [z2,List.length_map,z3];exact Nat.le_refl _⟩) ?_ ?_
  ·rintro i x y zs H3 p3 hx hy ⟨s3,bs,rfl,bl,hb⟩ hp3
   obtain⟨d1,e1,v1⟩:=dd.get hx
   obtain⟨r1,e2,v2⟩:=dr.get hy
   have s4:=ak (o:=.tup [x,y]) hp3
   show pH K 2 _ _ [none,none] _ _
   refine⟨p3,_,rfl,aQ.of ah,rfl,?_⟩
   generalize upd H3 p3 _=H4 at *
   k_data
   refine⟨True.intro,x,y,d1,r1,rfl,dv.same (s3.trans s4) _ v1,dv.same (s3.trans s4) _ v2,fg cl e1,rR hr' e2,λb H5 hb1 s5=>⟨(s3.trans s4).trans s5,bs++[b],by rw [List.map_append];rfl,by rw [List.length_append,bl];rfl,?_⟩⟩
   rw [List.all_append,Bool.and_eq_true,hb,List.take_add_one,List.take_add_one,e1,e2]
   have l1:(ds.take i).length=(rs.take i).length:=by
    have:=(List.getElem?_eq_some_iff.mp e1).1
    have:=(List.getElem?_eq_some_iff.mp e2).1
    rw [List.length_take,List.length_take]
    omega
   constructor
   ·rintro⟨h1,h2⟩
    have:b=true:=by simpa using h2
    rw [h1,hb1.mp this]
   ·intro h
    obtain⟨h1,h2⟩:=List.append_inj h l1
    have:d1=r1:=by simpa using h2
    exact⟨h1,by simp [hb1.mpr this]⟩
  ·rintro zs H3 p3 ⟨s3,bs,rfl,bl,hb⟩ hp3
   refine mS (bs:=bs) (aT.of ah) ?_
   rw [show us.length=ds.length from ul,List.take_length,show ds.length=rs.length by omega,List.take_length] at hb
   exact q _ _ hb (s3.trans (ak hp3))
 ·rw [if_neg (by intro z;have:=V.int.inj z;omega)]
  exact q false H ⟨(λz=>by cases z),λz=>by rw [z] at ul;omega⟩ (aB.refl _)
theorem jL {d:PyData} {i:Int}:(PyData.eqv d (.int i)=true/\lL d=true)↔d=.int i:=by
 constructor
 ·rintro⟨h1,h2⟩
  cases d with
  | int j =>
   have:j=i:=by simpa [PyData.eqv] using h1
   rw [this]
  | _=>simp [lL] at h2
 ·rintro rfl
  exact⟨by simp [PyData.eqv],rfl⟩
theorem fJ:ay ["thing","right"] ["thing","right"] (aj (top 13)):=c5
theorem ri (D:av K mg "is_just" (top 13)):Callee P w K mg base aM 1 "is_just" ["thing","right"] (gQ K 0):=by
 refine cO D fJ (λf cdv A outer s H vs Q E hr h=>?_)
 obtain⟨u,v,d,r,rfl,hu,hv,cl,hs,q⟩:=h
 simp only [rD] at hs
theorem rj {L:Nat} (D:av K mg "is_just" (top 13)) (c_are_just:Callee P w K mg base aM (2*L+2) "are_just" ["things","rights"] (oO K L)) (c_is_whole:Callee P w K mg base aM 1 "is_whole" ["thing"] (xm K)) (n_isinstance:mg "isinstance"=none) (n_list:mg "list"=none) (n_tuple:mg "tuple"=none):Callee P w K mg base aM (2*L+3) "is_just" ["thing","right"] (gQ K (L+1)):=by
 refine cO D fJ (λf cdv A outer s H vs Q E hr h=>?_)
 obtain⟨u,v,d,r,rfl,hu,hv,cl,hs,q⟩:=h
 have nd:=fJ.nd
 refine⟨_,(ag (aL (aP (aC aO rfl n_isinstance PyProof.Rows.boot_isinstance (aa (pv 1) (aa (bz (v:=.ty "tuple") rfl n_tuple L2.boot_tuple rfl) ae))) (λ_=>rfl)) (ai (ax (bh (aC aO rfl n_isinstance PyProof.Rows.boot_isinstance (aa (pv 0) (aa (bz (v:=.ty "tuple") rfl n_tuple L2.boot_tuple rfl) ae))) (bX (aA c_are_just (hr.mono (by omega)) rfl aw (aa (pv 0) (aa (pv 1) ae))))))) az) (ag (aL (aP (aC aO rfl n_isinstance PyProof.Rows.boot_isinstance (aa (pv 1) (aa (bz (v:=.ty "list") rfl n_list L2.boot_list rfl) ae))) (λ_=>rfl)) (ai (ax (bh (aC aO rfl n_isinstance PyProof.Rows.boot_isinstance (aa (pv 0) (aa (bz (v:=.ty "list") rfl n_list L2.boot_list rfl) ae))) (bX (aA c_are_just (hr.mono (by omega)) rfl aw (aa (pv 0) (aa (pv 1) ae))))))) az) (ai (ax (bh (bA (nI hr.units) (pv 0) (pv 1) (ar _)) (bX (bA aU (aA c_is_whole (hr.mono (by omega)) rfl aw (aa (pv 0) ae)) (aA c_is_whole (hr.mono (by omega)) rfl aw (aa (pv 1) ae)) (ar _)))))))),?_⟩
 show bL _ _ _ [some u,some v] H
 k_data
 cases r with
 | tuple rs =>
  simp only [rD] at hs
  refine bp hv ⟨true,aG.mpr rfl,?_⟩
  rw [if_pos rfl]
  refine bp hu ⟨_,rfl,?_⟩
  cases d with
  | tuple ds =>
   rw [if_pos (show xZ (.tuple ds)=true from rfl)]
   obtain⟨a,us,rfl,hS,dd⟩:=hu
   obtain⟨c,vs',rfl,hR,dr⟩:=hv
   exact⟨.t,a,c,us,vs',ds,rs,rfl,hS,hR,dd,dr,cl,hs.2,hs.1,λb H' hb s'=>q b H' (hb.trans (by rw [PyData.tuple.injEq])) s'⟩
  | _ =>
   rw [if_neg (by simp [xZ])]
   exact q false H ⟨(λz=>by cases z),λz=>by cases z⟩ (aB.refl _)
 | list rs =>
  simp only [rD] at hs
  refine bp hv ⟨false,aG.mpr rfl,?_⟩
  rw [if_neg (by decide)]
  refine bN hv ⟨true,aG.mpr rfl,?_⟩
  rw [if_pos rfl]
  refine bN hu ⟨_,rfl,?_⟩
  cases d with
  | list ds =>
   rw [if_pos (show yQ (.list ds)=true from rfl)]
   obtain⟨a,us,rfl,hS,dd⟩:=hu
   obtain⟨c,vs',rfl,hR,dr⟩:=hv
   exact⟨.l,a,c,us,vs',ds,rs,rfl,hS,hR,dd,dr,cl,hs.2,hs.1,λb H' hb s'=>q b H' (hb.trans (by rw [PyData.list.injEq])) s'⟩
  | _ =>
   rw [if_neg (by simp [yQ])]
   exact q false H ⟨(λz=>by cases z),λz=>by cases z⟩ (aB.refl _)
 | int i =>
  refine bp hv ⟨false,aG.mpr rfl,?_⟩
  rw [if_neg (by decide)]
  refine bN hv ⟨false,aG.mpr rfl,?_⟩
  rw [if_neg (by decide)]
  refine⟨d,.int i,hu,hv,cl,rfl,by simp [PyData.depth],⟨_,rfl,?_⟩⟩
  refine aD (λc=>?_) (λc=>?_)
  ·refine⟨d,u,rfl,hu,⟨.int i,v,rfl,hv,⟨rfl,?_⟩⟩⟩
   refine q _ H ?_ (aB.refl _)
   rw [<- jL]
   have c':PyData.eqv d (.int i)=true:=by simpa using c
   rw [c']
   cases hw:lL d<;>simp [lL]
  ·refine q false H ⟨(λz=>by cases z),λz=>?_⟩ (aB.refl _)
   have:=(jL.mpr z).1
   exact absurd this (by simpa using c)
 | str z =>
  refine bp hv ⟨false,aG.mpr rfl,?_⟩
  rw [if_neg (by decide)]
  refine bN hv ⟨false,aG.mpr rfl,?_⟩
  rw [if_neg (by decide)]
  simp only [rD] at hs
  refine⟨d,.str z,hu,hv,cl,hs,by simp [PyData.depth],⟨_,rfl,?_⟩⟩
  have es:PyData.eqv d (.str z)=true↔d=.str z:=by cases d<;>simp [PyData.eqv]
  refine aD (λc=>?_) (λc=>?_)
  ·refine⟨d,u,rfl,hu,⟨.str z,v,rfl,hv,⟨rfl,?_⟩⟩⟩
   refine q _ H ?_ (aB.refl _)
   have c':d=.str z:=es.mp (by simpa using c)
   rw [c']
   simp
  ·exact q false H ⟨(λz=>by cases z),λz=>absurd (es.mpr z) (by simpa using c)⟩ (aB.refl _)
 | _=>simp only [rD] at hs
theorem oC {fi:Addr} (D:av K mg "is_just" (top 13)) (D2:av K mg "are_just" (top 14)) (c_is_whole:Callee P w K mg base aM 1 "is_whole" ["thing"] (xm K)) (n_isinstance:mg "isinstance"=none) (n_list:mg "list"=none) (n_tuple:mg "tuple"=none) (n_len:mg "len"=none) (n_zip:mg "zip"=none) (n_all:mg "all"=none):∀ L:Nat,Callee P w K mg base aM (2*L+1) "is_just" ["thing","right"] (gQ K L)
 | 0=>ri D
 | L+1=>rj D (rm D2 (oC (fi:=fi) D D2 c_is_whole n_isinstance n_list n_tuple n_len n_zip n_all L) n_len n_zip n_all) c_is_whole n_isinstance n_list n_tuple
theorem vD {n d:Int} (hn:1<n) (d2:2<=d) (no:∀ k,2<=k->k<d->¬k∣n) (h:n<d*d):Num.Pm n:=⟨by omega,λe e2 en hd=>by
 rcases (by omega:e<d∨d<=e) with z | z
 ·exact no e e2 z hd
 ·obtain⟨c,hc⟩:=hd
  have c2:2<=c:=by
   rcases (by omega:c<=0∨c=1∨2<=c) with y | y | y
   ·have:=Int.mul_nonpos_of_nonneg_of_nonpos (show 0<=e by omega) y
    omega
   ·rw [y] at hc
    omega
   ·exact y
  have cd:c<d:=by
   rcases (by omega:c<d∨d<=c) with y | y
   ·exact y
   ·have:=Int.mul_le_mul z y (by omega) (by omega)
    omega
  exact no c c2 cd ⟨e,by rw [hc,Int.mul_comm]⟩⟩
def zr (n:Nat):Bool:=(List.range 126).all λi=>(List.range 126).all λj=>!decide (n%(2*(126*i+j)+3)=0)
theorem dN {n:Nat} (h:zr n=true) (n1:3<=n) (n2:n%2=1) (n9:n<31625*31625):Num.Pm (n:Int):=by
 refine vD (d:=31625) (by omega) (by decide) (λk k2 kd hd=>?_) (by omega)
 have hd':k.toNat∣n:=Int.natCast_dvd_natCast.mp (by rw [show ((k.toNat:Nat):Int)=k by omega];exact hd)
 rcases (by omega:k%2=0∨k%2=1) with z | z
 ·have:=Nat.mod_eq_zero_of_dvd (Nat.dvd_trans (show 2∣k.toNat by omega) hd')
  omega
 ·have hk:((k.toNat-3)/2/126)<126:=by omega
  have h1:=List.all_eq_true.mp h ((k.toNat-3)/2/126) (List.mem_range.mpr hk)
  have h2:=List.all_eq_true.mp h1 ((k.toNat-3)/2%126) (List.mem_range.mpr (Nat.mod_lt _ (by decide)))
  have e:2*(126*((k.toNat-3)/2/126)+(k.toNat-3)/2%126)+3=k.toNat:=by omega
  rw [e,Nat.mod_eq_zero_of_dvd hd'] at h2
  simp at h2
theorem jY:Num.Pm 100003:=dN (n:=100003) (by decide +kernel) (by decide) (by decide) (by decide)
def j8:Sp:=λvs H Q _=>∃ n:Int,vs=[.int n]/\0<=n/\n<=10^60/\∀ b:Bool,(b=true↔Num.Pm n)->Q (.bl b) H
theorem dZ:ay ["_law_n","_law_d"] ["_law_n"] (aj (top 47)):=c5
theorem pT (D:av K mg "_law_is_prime" (top 47)) (n_int:mg "int"=none):Callee P w K mg base aM 1 "_law_is_prime" ["_law_n"] j8:=by
 refine cO D dZ (λf cdv A outer s H vs Q E hr h=>?_)
 obtain⟨n,rfl,n0,hn,q⟩:=h
 have nd:=dZ.nd
 refine⟨_,(ag (bV (i:=1) nd af) (ag (ba PassesOwn.never (aq ma (ao aW (pv 1) (pv 1)) (pv 0) (ar _)) (ag (aL (aq aU (ao aK (pv 0) (pv 1)) af (ar _)) (ai (ax cH)) az) (ai (bV (i:=1) nd (ao aX (ao aX (pv 1) af) (cJ pA rfl n_int L2.boot_int (aa (bA c8 (pv 1) af (ar _)) ae))))))) (ai (ax (bA c8 (pv 0) af (ar _)))))),?_⟩
 show bL _ _ _ [some (.int n),none] H
 k_data
 refine bc (α:=Int) (λx=>[some (.int n),some (.int x)]) (λx H1=>H1=H/\2<=x/\x<=10^60+3/\(x=2∨x%2=1)/\∀ k,2<=k->k<x->¬k∣n) (λx=>(n+3-x).toNat) 2 rfl ⟨rfl,by decide,by decide,.inl rfl,λk k1 (k2:k<2) hk=>by omega⟩ ?_
 rintro x H1 ⟨rfl,x2,x9,xo,no⟩
 replace x2:2<=x:=x2
 replace x9:x<=10^60+3:=x9
 replace xo:x=2∨x%2=1:=xo
 replace no:∀ k,2<=k->k<x->¬k∣n:=no
 k_data
 refine⟨Bd.of (by omega) (by omega),Bd.of (by omega) (by omega),aD (λc=>?_) (λc=>?_)⟩
 ·have xx:x*2<=x*x:=Int.mul_le_mul_of_nonneg_left x2 (by omega)
  refine⟨_,λ_ _ z=>z,by omega,aD (λc1=>?_) (λc1=>?_)⟩
  ·refine q false ⟨λz=>(by cases z),λz=>absurd (Int.dvd_of_emod_eq_zero c1) (z.no x x2 (by omega))⟩
  ·have nx:¬x∣n:=λz=>c1 (Int.emod_eq_zero_of_dvd z)
   rcases xo with rfl | xo
   ·refine⟨3,rfl,rfl,by decide,by decide,.inr (by decide),λk k2 (k3:k<3)=>?_,by omega⟩
    rw [show k=2 by omega]
    exact nx
   ·have x3:2<x:=by omega
    rw [if_pos x3]
    refine⟨x+2,by rw [Int.add_assoc];rfl,rfl,by omega,by omega,.inr (by omega),λk k2 k3=>?_,by omega⟩
    rcases (by omega:k<x∨k=x∨k=x+1) with z | z | z
    ·exact no k k2 z
    ·rw [z];exact nx
    ·intro hk
     exact no 2 (by decide) x3 (Int.dvd_trans (show (2:Int)∣k by omega) hk)
 ·refine q _ ?_
  rw [decide_eq_true_iff]
  exact⟨λz=>vD z x2 no (by omega),λz=>by have:=z.two;omega⟩
def mB:Sp:=λvs H Q _=>∃ n p0:Int,vs=[.int n]/\0<=n/\n<=p0/\Num.Pm p0/\p0<=10^60/\∀ r,Num.Pm r->n<=r->r<=p0->(∀ k,n<=k->k<r->¬Num.Pm k)->Q (.int r) H
theorem fE:ay ["_law_n"] ["_law_n"] (aj (top 48)):=c5
theorem pW (D:av K mg "_law_prime" (top 48)) (c__law_is_prime:Callee P w K mg base aM 1 "_law_is_prime" ["_law_n"] j8):Callee P w K mg base aM 2 "_law_prime" ["_law_n"] mB:=by
 refine cO D fE (λf cdv A outer s H vs Q E hr h=>?_)
 obtain⟨n,p0,rfl,n0,np,pm,p9,q⟩:=h
 have nd:=fE.nd
 refine⟨_,(ag (ba PassesOwn.never (dO (aP (bF c__law_is_prime hr aw (aa (pv 0) ae)) (λ_=>rfl))) (ai (bV (i:=0) nd (ao aX (pv 0) af)))) (ai (ax (pv 0)))),?_⟩
 show bL _ _ _ [some (.int n)] H
 k_data
 refine bc (α:=Int) (λx=>[some (.int x)]) (λx H1=>H1=H/\n<=x/\x<=p0/\∀ k,n<=k->k<x->¬Num.Pm k) (λx=>(p0-x).toNat) n rfl ⟨rfl,Int.le_refl _,np,λk k1 k2=>by omega⟩ ?_
 rintro x H1 ⟨rfl,x1,x2,no⟩
 replace x1:n<=x:=x1
 replace x2:x<=p0:=x2
 replace no:∀ k,n<=k->k<x->¬Num.Pm k:=no
 k_data
 refine⟨x,rfl,by omega,by omega,λb hb=>⟨b,aG.mpr rfl,?_⟩⟩
 cases b with
 | true=>exact q x (hb.mp rfl) x1 x2 no
 | false =>
  have nx:¬Num.Pm x:=λz=>by cases hb.mpr z
  have ne:x≠p0:=λz=>nx (z▸pm)
  refine⟨_,λ_ _ z=>z,x+1,rfl,rfl,by omega,by omega,λk k1 k2=>?_,by omega⟩
  rcases (by omega:k<x∨k=x) with z | z
  ·exact no k k1 z
  ·rw [z];exact nx
theorem Tp.more {p:Addr} {n m:Nat} {H:Hp} (h:Tp p n H) (l:n<=m):Tp p m H:=by
 obtain⟨l',i,j,ns,a,b,c,d,e⟩:=h
 exact⟨l',i,j,ns,a,b,c,d,by omega⟩
def kX:Sp:=λvs H Q _=>∃(p:Addr) (m:Int) (n:Nat),vs=[.ref p,.int m]/\Tp p n H/\n<=10^50/\0<m/\∀ r H',0<=r->r<m->Off p H H'->Tp p (n+2) H'->Q (.int r) H'
theorem hG:ay ["_law_tape_here","_law_many"] ["_law_tape_here","_law_many"] (aj (top 46)):=c5
theorem ug (D:av K mg "_law_far" (top 46)) (c__law_draw:Callee P w K mg base aM 1 "_law_draw" ["_law_tape_here","_law_many"] eJ):Callee P w K mg base aM 2 "_law_far" ["_law_tape_here","_law_many"] kX:=by
 refine cO D hG (λf cdv A outer s H vs Q E hr h=>?_)
 obtain⟨p,m,n,rfl,tp,n9,m0,q⟩:=h
 have nd:=hG.nd
 refine⟨_,(ai (ax (ao aK (ao aX (ao aW (bF c__law_draw hr aw (aa (pv 0) (aa af ae))) af) (bF c__law_draw hr aw (aa (pv 0) (aa af ae)))) (pv 1)))),?_⟩
 show fy _ _ [some (.ref p),some (.int m)] H
 k_data
 refine⟨p,31623,n,rfl,tp,by omega,by decide,by decide,λr1 H1 r10 r11 o1 t1=>⟨_,rfl,Bd.of (by omega) (by omega),qA (by decide),p,31623,n+1,rfl,t1,by omega,by decide,by decide,λr2 H2 r20 r21 o2 t2=>⟨_,rfl,m0,?_⟩⟩⟩
 exact q _ _ (Int.emod_nonneg _ (by omega)) (Int.emod_lt_of_pos _ m0) (o1.trans o2) t2
def mw:Sp:=λvs H Q _=>∃ a b:Nat,vs=[.int a,.int b]/\Q (.int (Nat.gcd a b:Nat)) H
theorem eW:ay ["_law_one","_law_other"] ["_law_one","_law_other"] (aj (top 50)):=c5
theorem pS (D:av K mg "_law_common" (top 50)):Callee P w K mg base aM 1 "_law_common" ["_law_one","_law_other"] mw:=by
 refine cO D eW (λf cdv A outer s H vs Q E hr h=>?_)
 obtain⟨a,b,rfl,q⟩:=h
 have nd:=eW.nd
 refine⟨_,(ag (ba PassesOwn.never (aq c8 (pv 1) af (ar _)) (ai (iY (i:=0) (j:=1) rfl nd rfl rfl (by decide) rfl rfl (aa (pv 1) (aa (ao aK (pv 0) (pv 1)) ae)) rfl))) (ai (ax (pv 0)))),?_⟩
 show bL _ _ _ [some (.int (a:Int)),some (.int (b:Int))] H
 k_data
 refine bc (α:=Nat × Nat) (λx=>[some (.int (x.1:Int)),some (.int (x.2:Int))]) (λx H'=>H'=H/\Nat.gcd x.1 x.2=Nat.gcd a b) (λx=>x.2) (a,b) rfl ⟨rfl,rfl⟩ ?_
 rintro⟨x,y⟩ H1 ⟨rfl,hg⟩
 replace hg:Nat.gcd x y=Nat.gcd a b:=hg
 k_data
 refine aD (λc=>?_) (λc=>?_)
 ·have y0:0<y:=by omega
  refine⟨_,λ_ _ z=>z,by omega,(y,x%y),by rw [Int.natCast_emod],rfl,?_,Nat.mod_lt _ y0⟩
  show Nat.gcd y (x%y)=_
  rw [<- hg,Nat.gcd_comm x y,Nat.gcd_rec y x,Nat.gcd_comm]
 ·have y0:y=0:=by omega
  subst y0
  rw [Nat.gcd_zero_right] at hg
  rw [hg]
  exact q
def kZ:Sp:=λvs H Q _=>∃(n a:Int) (e:Int),vs=[.int n,.int a,.int e]/\0<n/\n<=10^100 /\ -(10^100)<=a/\a<=10^100/\0<=e/\Q (.int (a^e.toNat%n)) H
theorem fD:ay ["_law_n","_law_a","_law_e","_law_found"] ["_law_n","_law_a","_law_e"] (aj (top 51)):=c5
theorem ui (D:av K mg "_law_power" (top 51)):Callee P w K mg base aM 1 "_law_power" ["_law_n","_law_a","_law_e"] kZ:=by
 refine cO D fD (λf cdv A outer s H vs Q E hr h=>?_)
 obtain⟨n,a,e,rfl,hn,hn1,a0,a1,he,q⟩:=h
 have nd:=fD.nd
 refine⟨_,(ag (bV (i:=3) nd (ao aK af (pv 0))) (ag (ba PassesOwn.never (aq c8 (pv 2) af (ar _)) (ag (bT (aL (aq aU (ao aK (pv 2) af) af (ar _)) (ai (bV (i:=3) nd (ao aK (ao aW (pv 3) (pv 1)) (pv 0)))) az)) (ag (bV (i:=1) nd (ao aK (ao aW (pv 1) (pv 1)) (pv 0))) (ai (bV (i:=2) nd (ao bJ (pv 2) af)))))) (ai (ax (pv 3))))),?_⟩
 show bL _ _ _ [some (.int n),some (.int a),some (.int e),none] H
 k_data
 refine⟨hn,?_⟩
 have r0:=λx:Int=>Int.emod_nonneg x (show n≠0 by omega)
 have r1:=λx:Int=>Int.emod_lt_of_pos x hn
 refine bc (α:=Nat × Int × Int) (λx=>[some (.int n),some (.int x.2.2),some (.int (x.1:Int)),some (.int x.2.1)]) (λx H1=>H1=H /\ -(10^100)<=x.2.2/\x.2.2<=10^100/\0<=x.2.1/\x.2.1<n/\x.2.1*x.2.2^x.1%n=a^e.toNat%n) (λx=>x.1) (e.toNat,1%n,a) (by rw [show ((e.toNat:Nat):Int)=e by omega]) ⟨rfl,a0,a1,r0 1,r1 1,?_⟩ ?_
 ·show 1%n*a^e.toNat%n=_
  rw [Pw.vz,Int.one_mul]
 rintro⟨l,r,b⟩ H1 ⟨rfl,h1,h2,h3,h4,h5⟩
 replace h1:-(10^100)<=b:=h1
 replace h2:b<=10^100:=h2
 replace h3:0<=r:=h3
 replace h4:r<n:=h4
 replace h5:r*b^l%n=a^e.toNat%n:=h5
 k_data
 refine aD (λc=>?_) (λc=>?_)
 ·refine⟨_,λ_ _ z=>z,λσ' H2=>H2=H1/\σ'=[some (.int n),some (.int b),some (.int (l:Int)),some (.int (if l%2=1 then r*b%n else r))],?_,?_⟩
  ·k_data
   refine aD (λc=>?_) (λc=>?_)
   ·exact⟨Bd.of (by omega) (by omega),Bd.of (by omega) (by omega),hn,by rw [if_pos (by omega)]⟩
   ·rw [if_neg (by omega)]
  rintro σ' H2 ⟨rfl,rfl⟩
  k_data
  have z0:0<=(if l%2=1 then r*b%n else r)/\(if l%2=1 then r*b%n else r)<n:=by
   split
   ·exact⟨r0 _,r1 _⟩
   ·exact⟨h3,h4⟩
  have b0:=r0 (b*b)
  have b1:=r1 (b*b)
  refine⟨Bd.of (by omega) (by omega),Bd.of (by omega) (by omega),hn,qA (by decide),(l/2,(if l%2=1 then r*b%n else r),b*b%n),rfl,(by show (l:Int)/2=((l/2:Nat):Int);omega),rfl,by show -(10^100)<=b*b%n;omega,by show b*b%n<=10^100;omega,z0.1,z0.2,?_,?_⟩
  ·show (if l%2=1 then r*b%n else r)*(b*b%n)^(l/2)%n=_
   rw [Pw.step]
   exact h5
  ·show l/2<l
   omega
 ·have l0:l=0:=by omega
  subst l0
  rw [Int.pow_zero,Int.mul_one,Int.emod_eq_of_lt h3 h4] at h5
  rw [h5]
  exact q
end
end K
namespace K
open PySem PySem.Spec PyProof.Rows L2
section
variable {P:Program} {w:World} {K:PySem.W.Frag} {mg:Str->Option Value} {base:Heap} {C:Addr}
theorem oK {H:Hp} {ps:List (Int × Int)} {ds:Nat->PyData} {xs:List V} (hd:aY K H (Num.rowsOf ps ds) xs) {i:Nat} {x:V} (hx:xs[i]?=some x):∃ q k pt u,ps[i]?=some (q,k)/\x=.ref pt/\aQ K H pt [u,.int k]/\dv K H (ds i) u:=by
 obtain⟨d,hd',hv⟩:=hd.get hx
 have hi:=(List.getElem?_eq_some_iff.mp hd').1
 rw [Num.bU] at hi
 have hg:=List.getElem?_eq_getElem hi
 rw [Num.i5 hg] at hd'
 cases hd'
 obtain⟨pt,ys,rfl,h1,x1,r1,rfl,e1,x2,r2,rfl,e2,z⟩:=hv
 cases z
 cases e2
 exact⟨ps[i].1,ps[i].2,pt,x1,hg,rfl,h1,e1⟩
end
end K
namespace K
open PySem PySem.Spec PyProof.Rows L2
section
variable {P:Program} {w:World} {K:PySem.W.Frag} {mg:Str->Option Value} {base:Heap}
structure OB (p b:Int) (ps:List (Int × Int)) (i e:Nat):Prop where
 dv:e∣(p-1).toNat
 pos:0<e
 one:Num.Al p (b^e) 1
 no:∀(j:Nat) (q k:Int),j<i->ps[j]?=some (q,k)->q.toNat∣e->¬Num.Al p (b^(e/q.toNat)) 1
theorem OB.down {p b:Int} {ps:List (Int × Int)} {i e q:Nat} (h:OB p b ps i e) (q2:2<=q) (hd:q∣e) (ho:Num.Al p (b^(e/q)) 1):OB p b ps i (e/q):=by
 obtain⟨c,hc⟩:=hd
 have ec:e/q=c:=by rw [hc];exact Nat.mul_div_cancel_left c (by omega)
 have e0:=h.pos
 have c0:0<c:=by rcases Nat.eq_zero_or_pos c with z | z;rw [z,Nat.mul_zero] at hc;omega;exact z
 rw [ec] at ho ⊢
 refine⟨Nat.dvd_trans ⟨q,by rw [hc,Nat.mul_comm]⟩ h.dv,c0,ho,λj q' k hj hy hd' ho'=>?_⟩
 obtain⟨d,hd2⟩:=hd'
 have q0:0<q'.toNat:=by rcases Nat.eq_zero_or_pos q'.toNat with z | z;rw [z,Nat.zero_mul] at hd2;omega;exact z
 have e1:c/q'.toNat=d:=by rw [hd2];exact Nat.mul_div_cancel_left d q0
 have e2:e/q'.toNat=d*q:=by rw [hc,hd2,Nat.mul_comm q,Nat.mul_assoc];exact Nat.mul_div_cancel_left (d*q) q0
 rw [e1] at ho'
 refine h.no j q' k hj hy ⟨d*q,by rw [hc,hd2,Nat.mul_comm q,Nat.mul_assoc]⟩ ?_
 rw [e2]
 exact Num.aV ho'
theorem OB.next {p b:Int} {ps:List (Int × Int)} {i e:Nat} {q k:Int} (h:OB p b ps i e) (hy:ps[i]?=some (q,k)) (ho:q.toNat∣e->¬Num.Al p (b^(e/q.toNat)) 1):OB p b ps (i+1) e :=
 ⟨h.dv,h.pos,h.one,λj q' k' hj hy' hd=>by
  rcases (by omega:j<i∨j=i) with z | z
  ·exact h.no j q' k' z hy' hd
  ·rw [z,hy] at hy'
   cases hy'
   exact ho hd⟩
theorem OB.ord {p b:Int} {ps:List (Int × Int)} {e:Nat} (hp:2<=p) (h:OB p b ps ps.length e) (hP:Num.Part (p-1) ps):Num.Ord p b e:=by
 refine Num.nJ h.pos h.one λq hq hd=>?_
 have hq':=Num.rN hq
 have hd2:(q:Int)∣Num.bf ps:=by
  rw [hP.prod]
  have:=Int.natCast_dvd_natCast.mpr (Nat.dvd_trans hd h.dv)
  rwa [show (((p-1).toNat:Nat):Int)=p-1 by omega] at this
 obtain⟨y,hy,ey⟩:=Num.bR hq' (λz hz=>(hP.ok z hz).1) hd2
 obtain⟨j,hj⟩:=List.mem_iff_getElem?.mp hy
 have jl:=(List.getElem?_eq_some_iff.mp hj).1
 have:=h.no j y.1 y.2 jl hj
 rw [ey,Int.toNat_natCast] at this
 exact this hd
def gR (K:PySem.W.Frag):Sp:=λvs H Q _=>∃(v:V) (p b g:Int) (rows:PyData),vs=[v,.int b]/\dv K H (.tuple [.int p,.int g,rows]) v/\Num.fN p (.tuple [.int p,.int g,rows]) /\ -(10^60)<=b/\b<=10^60/\¬p∣b/\∀ e:Nat,Num.Ord p b e->(e:Int)<p->Q (.int e) H
theorem d4:ay ["_law_paper","_law_b","_law_e","_law_part"] ["_law_paper","_law_b"] (aj (top 52)):=c5
theorem nH (D:av K mg "_law_order_by" (top 52)) (c__law_power:Callee P w K mg base aM 1 "_law_power" ["_law_n","_law_a","_law_e"] kZ):Callee P w K mg base aM 2 "_law_order_by" ["_law_paper","_law_b"] (gR K):=by
 refine cO D d4 (λf cdv A outer s H vs Q E hr h=>?_)
 obtain⟨v,p,b,g,rows,rfl,hd,hp,b0,b1,nb,q⟩:=h
 obtain⟨pm,p9⟩:=vC hp
 have p2:=pm.two
 have nd:=d4.nd
 refine⟨_,(ag (bV (i:=2) nd (ao bD (aH aI (pv 0) af (λ_ _=>rfl)) af)) (ag (nO PassesOwn.never rfl (iS (aH aI (pv 0) af (λ_ _=>rfl))) (aE (i:=3) nd rfl (Or.inl rfl) (.inr rfl)) (ai (ba PassesOwn.never (PW.pt (cn (aq aU (ao aK (pv 2) (aH aI (aH aI (pv 3) af (λ_ _=>rfl)) af (λ_ _=>rfl))) af (ar _)) (cf (aq aU (bF c__law_power hr aw (aa (aH aI (pv 0) af (λ_ _=>rfl)) (aa (pv 1) (aa (ao bJ (pv 2) (aH aI (aH aI (pv 3) af (λ_ _=>rfl)) af (λ_ _=>rfl))) ae)))) af (ar _))))) (ai (bV (i:=2) nd (ao bJ (pv 2) (aH aI (aH aI (pv 3) af (λ_ _=>rfl)) af (λ_ _=>rfl)))))))) (ai (ax (pv 2))))),?_⟩
 show bL _ _ _ [some v,some (.int b),none,none] H
 obtain⟨g',ps,ds,eq,hg,hP,hl29,hds⟩:=oE hp
 cases eq
 obtain⟨pp,y1,y2,vr,rfl,tS,e0,eg,dr⟩:=iK hd
 cases e0
 cases eg
 obtain⟨pr,xs,rfl,hSr,hxs⟩:=dr
 k_data
 have xl:xs.length=ps.length:=by rw [hxs.length,Num.bU]
 refine bC tS gH ⟨p,rfl,bC tS rfl ⟨pr,rfl,⟨_,hSr⟩,?_⟩⟩
 refine lO (xs:=xs) (λi σ' H'=>H'=H/\∃(e:Nat) (o3:Option V),σ'=[some (.ref pp),some (.int b),some (.int (e:Int)),o3]/\OB p b ps i e) ⟨rfl,(p-1).toNat,none,by rw [show (((p-1).toNat:Nat):Int)=p-1 by omega],Nat.dvd_refl _,by omega,Num.m7 pm nb,λj _ _ hj=>absurd hj (by omega)⟩ (λi σ' H' _ h=>by rw [h.1];exact hSr) ?_ ?_
 ·rintro i x σ' H' hx ⟨rfl,e,o3,rfl,ob⟩
  obtain⟨q',k',pt,u,hy,rfl,t1,du⟩:=oK hxs hx
  obtain⟨g2,rr,eg⟩:=(hds i q' k' hy).head
  rw [eg] at du
  obtain⟨pq,zs,rfl,t2,y3,r3,rfl,f3,_⟩:=du
  cases f3
  have pq:=(hP.ok _ (List.mem_of_getElem? hy)).1
  have q2:2<=q':=pq.two
  have qp:q'<=p-1:=Int.le_of_dvd (by omega) (by rw [<- hP.prod];exact Num.bP (List.mem_of_getElem? hy) (hP.ok _ (List.mem_of_getElem? hy)).2.1)
  obtain⟨qn,rfl⟩:∃ n:Nat,q'=n:=⟨q'.toNat,by omega⟩
  k_data
  refine bc (α:=Nat) (λe=>[some (.ref pp),some (.int b),some (.int (e:Int)),some (.ref pt)]) (λe H1=>H1=H'/\OB p b ps i e) (λe=>e) e rfl ⟨rfl,ob⟩ ?_
  rintro e1 H1 ⟨rfl,ob1⟩
  replace ob1:OB p b ps i e1:=ob1
  k_data
  refine bC t1 gH (bC t2 gH ⟨_,rfl,by omega,aD (λc=>?_) (λc=>?_)⟩)
  ·have hd:qn∣e1:=Nat.dvd_of_mod_eq_zero (by omega)
   refine bC tS gH (bC t1 gH (bC t2 gH ⟨_,rfl,by omega,Bd.of (by omega) (by omega),p,b,_,rfl,by omega,by omega,by omega,by omega,Int.ediv_nonneg (by omega) (by omega),rfl,?_⟩))
   rw [show ((e1:Int)/(qn:Int)).toNat=e1/qn by rw [<- Int.natCast_ediv];rfl]
   refine aD (λc1=>?_) (λc1=>?_)
   ·have al:=(cq p2).mp (V.int.inj c1)
    refine⟨_,λ_ _ z=>z,bC t1 gH (bC t2 gH ⟨_,rfl,by omega,Bd.of (by omega) (by omega),e1/qn,by rw [Int.natCast_ediv],rfl,ob1.down (by omega) hd al,Nat.div_lt_self ob1.pos (by omega)⟩)⟩
   ·exact⟨rfl,e1,rfl,ob1.next hy λ_ z=>c1 (congrArg V.int (by rw [Int.toNat_natCast] at z;exact (cq p2).mpr z))⟩
  ·exact⟨rfl,e1,rfl,ob1.next hy λz=>absurd (show (e1:Int)%(qn:Int)=0 by rw [Int.toNat_natCast] at z;rw [<- Int.natCast_emod,Nat.mod_eq_zero_of_dvd z];rfl) c⟩
 ·rintro σ' H' ⟨rfl,e,o3,rfl,ob⟩
  rw [xl] at ob
  k_data
  refine q e (ob.ord p2 hP) ?_
  have:=Nat.le_of_dvd (by omega) ob.dv
  omega
end
end K
namespace K
open PySem PySem.Spec PyProof.Rows L2
section
variable {P:Program} {w:World} {K:PySem.W.Frag} {mg:Str->Option Value} {base:Heap} {C:Addr}
theorem rL:Num.Pm 999999937:=dN (n:=999999937) (by decide +kernel) (by decide) (by decide) (by decide)
def jf:Sp:=λvs H Q _=>∃(p:Addr) (n:Nat),vs=[.ref p]/\Tp p n H/\n<=10^40/\∀ r H',Num.Pm r->r<=10^9->Off p H H'->Tp p (n+3) H'->Q (.int r) H'
theorem dC:ay ["_law_tape_here","_law_way"] ["_law_tape_here"] (aj (top 49)):=c5
theorem lU (D:av K mg "_law_any_prime" (top 49)) (c__law_draw:Callee P w K mg base aM 1 "_law_draw" ["_law_tape_here","_law_many"] eJ) (c__law_far:Callee P w K mg base aM 2 "_law_far" ["_law_tape_here","_law_many"] kX) (c__law_prime:Callee P w K mg base aM 2 "_law_prime" ["_law_n"] mB):Callee P w K mg base aM 3 "_law_any_prime" ["_law_tape_here"] jf:=by
 refine cO D dC (λf cdv A outer s H vs Q E hr h=>?_)
 obtain⟨p,n,rfl,tp,n9,q⟩:=h
 have nd:=dC.nd
 refine⟨_,(ag (bV (i:=1) nd (bF c__law_draw hr aw (aa (pv 0) (aa af ae)))) (ag (aL (aq cP (pv 1) af (ar _)) (ai (ax (bF c__law_prime hr aw (aa (ao aX af (bF c__law_draw hr aw (aa (pv 0) (aa af ae)))) ae)))) az) (ag (aL (aq cP (pv 1) af (ar _)) (ai (ax (bF c__law_prime hr aw (aa (ao aX af (bF c__law_draw hr aw (aa (pv 0) (aa af ae)))) ae)))) az) (ai (ax (bF c__law_prime hr aw (aa (ao aX af (bF c__law_far hr aw (aa (pv 0) (aa af ae)))) ae))))))),?_⟩
 show bL _ _ _ [some (.ref p),none] H
 k_data
 refine⟨p,16,n,rfl,tp,by omega,by decide,by decide,λw0 H1 w00 w01 o1 t1=>⟨_,rfl,aD (λc=>?_) (λc=>⟨_,rfl,aD (λc1=>?_) (λc1=>?_)⟩)⟩⟩
 ·refine⟨p,998,n+1,rfl,t1,by omega,by decide,by decide,λr H2 r0 r1 o2 t2=>⟨_,rfl,2+r,100003,rfl,by omega,by omega,jY,by decide,λx px xn x9 _=>?_⟩⟩
  exact q x H2 px (by omega) (o1.trans o2) (t2.more (by omega))
 ·refine⟨p,99000,n+1,rfl,t1,by omega,by decide,by decide,λr H2 r0 r1 o2 t2=>⟨_,rfl,1000+r,100003,rfl,by omega,by omega,jY,by decide,λx px xn x9 _=>?_⟩⟩
  exact q x H2 px (by omega) (o1.trans o2) (t2.more (by omega))
 ·refine⟨p,999999936,n+1,rfl,t1,by omega,by decide,λr H2 r0 r1 o2 t2=>⟨_,rfl,2+r,999999937,rfl,by omega,by omega,rL,by decide,λx px xn x9 _=>?_⟩⟩
  exact q x H2 px (Int.le_trans x9 (by decide)) (o1.trans o2) t2
end
end K
namespace K
open PySem PySem.Spec PyProof.Rows L2
section
variable {P:Program} {w:World} {K:PySem.W.Frag} {mg:Str->Option Value} {base:Heap}
theorem mq:∀{l m:List Int},l.Pairwise (·<·)->m.Pairwise (·<·)->(∀ a,a∈l↔a∈m)->l=m
 | [],[],_,_,_=>rfl
 | [],y::m,_,_,h=>by cases (h y).mpr (List.mem_cons_self ..)
 | x::l,[],_,_,h=>by cases (h x).mp (List.mem_cons_self ..)
 | x::l,y::m,h1,h2,h=>by
  obtain⟨a1,a2⟩:=List.pairwise_cons.mp h1
  obtain⟨b1,b2⟩:=List.pairwise_cons.mp h2
  have e:x=y:=by
   rcases List.mem_cons.mp ((h x).mp (List.mem_cons_self ..)) with z | z
   ·exact z
   ·rcases List.mem_cons.mp ((h y).mpr (List.mem_cons_self ..)) with z' | z'
    ·exact z'.symm
    ·have:=b1 x z;have:=a1 y z';omega
  subst e
  rw [mq a2 b2 λa=>?_]
  constructor
  ·intro z
   rcases List.mem_cons.mp ((h a).mp (List.mem_cons_of_mem _ z)) with y | y
   ·have:=a1 a z;omega
   ·exact y
  ·intro z
   rcases List.mem_cons.mp ((h a).mpr (List.mem_cons_of_mem _ z)) with y | y
   ·have:=b1 a z;omega
   ·exact y
def dP (ps:List (Int × Int)) (e:Nat):List Int:=(ps.map (·.1)).filter λq=>decide ((e:Int)%q=0)
theorem j4 {n:Int} {e:Nat} {ps pl:List (Int × Int)} (h:Num.Part n ps) (h':Num.Part e pl) (hd:(e:Int)∣n):dP ps e=pl.map (·.1):=by
 refine mq ?_ ?_ λa=>?_
 ·exact List.Pairwise.sublist List.filter_sublist (List.pairwise_map.mpr h.rise)
 ·exact List.pairwise_map.mpr h'.rise
 ·unfold dP
  rw [List.mem_filter]
  constructor
  ·rintro⟨h1,h2⟩
   obtain⟨y,hy,rfl⟩:=List.mem_map.mp h1
   obtain⟨z,hz,ez⟩:=Num.bR (h.ok y hy).1 (λz hz=>(h'.ok z hz).1) (by rw [h'.prod];exact Int.dvd_of_emod_eq_zero (of_decide_eq_true h2))
   exact List.mem_map.mpr ⟨z,hz,ez⟩
  ·intro h1
   obtain⟨y,hy,rfl⟩:=List.mem_map.mp h1
   have d1:y.1∣(e:Int):=by rw [<- h'.prod];exact Num.bP hy (h'.ok y hy).2.1
   obtain⟨z,hz,ez⟩:=Num.bR (h'.ok y hy).1 (λz hz=>(h.ok z hz).1) (by rw [h.prod];exact Int.dvd_trans d1 hd)
   exact⟨List.mem_map.mpr ⟨z,hz,ez⟩,decide_eq_true (Int.emod_eq_zero_of_dvd d1)⟩
def fL (K:PySem.W.Frag):Sp:=λvs H Q _=>∃(v:V) (p g:Int) (ps:List (Int × Int)) (ds:Nat->PyData) (e:Nat),vs=[v,.int e]/\dv K H (.tuple [.int p,.int g,.tuple (Num.rowsOf ps ds)]) v/\Num.Part (p-1) ps/\ps.length<=29/\(∀ i q k,ps[i]?=some (q,k)->Num.fN q (ds i))/\∀ l H',aB H H'->H l=none->H' l=some (.lst ((dP ps e).map V.int))->Q (.ref l) H'
theorem dF:ay ["_law_paper","_law_e"] ["_law_paper","_law_e"] (aj (top 53)):=c5
theorem lW (D:av K mg "_law_primes_by" (top 53)):Callee P w K mg base aM 1 "_law_primes_by" ["_law_paper","_law_e"] (fL K):=by
 refine cO D dF (λf cdv A outer s H vs Q E hr h=>?_)
 obtain⟨v,p,g,ps,ds,e,rfl,hd,hP,hl29,hds,q⟩:=h
 have nd:=dF.nd
 refine⟨_,(ai (ax (fC rfl (sQ (N':=["_law_part","_law_e"]) (js:=[none,some 1]) rfl rfl) (iS (aH aI (pv 0) af (λ_ _=>rfl))) (λ_ _ _ _=>(aE (i:=0) (show List.Nodup [("_law_part":Str),("_law_e":Str)] from by decide +kernel) rfl (Or.inl rfl) (.inr rfl))) (λ_ _ _ _=>(iT (aq aU (ao aK (pv 1) (aH (eB K rfl) (aH (eB K rfl) (pv 0) af (λ_ _=>rfl)) af (λ_ _=>rfl))) af (ar _)))) (λ_ _ _ _=>(aH (eB K rfl) (aH (eB K rfl) (pv 0) af (λ_ _=>rfl)) af (λ_ _=>rfl)))))),?_⟩
 show fy _ _ [some v,some (.int (e:Int))] H
 obtain⟨pp,y1,y2,vr,rfl,tS,e0,eg,dr⟩:=iK hd
 cases e0
 cases eg
 obtain⟨pr,xs,rfl,hSr,hxs⟩:=dr
 have xl:xs.length=ps.length:=by rw [hxs.length,Num.bU]
 k_data
 refine bC tS rfl ⟨pr,rfl,⟨_,hSr⟩,?_⟩
 refine gJ (xs:=xs) (λi zs H3=>H3=H/\zs=(dP (ps.take i) e).map V.int) ⟨rfl,rfl⟩ (Nat.le_trans (show xs.length<=29 by omega) (by decide)) (λi zs H3 hi ⟨z1,z2⟩=>⟨by rw [z1];exact hSr,by rw [z2,List.length_map];unfold dP;exact Nat.le_trans (List.length_filter_le _ _) (by rw [List.length_map,List.length_take];omega)⟩) ?_ ?_
 ·rintro i x zs H3 hx ⟨rfl,rfl⟩
  obtain⟨q',k',pt,u,hy,rfl,t1,du⟩:=oK hxs hx
  obtain⟨g2,rr,eg⟩:=(hds i q' k' hy).head
  rw [eg] at du
  obtain⟨pq,zs',rfl,t2,y3,r3,rfl,f3,_⟩:=du
  cases f3
  have q2:=(hP.ok _ (List.mem_of_getElem? hy)).1.two
  show dU 0 _ [none,some (.int (e:Int))] _ _
  k_data
  have e1:ps.take (i+1)=ps.take i++[(q',k')]:=by rw [List.take_add_one,hy];rfl
  refine⟨⟨rfl,True.intro⟩,bC t1 gH (bC t2 gH ⟨_,rfl,by omega,aD (λc=>?_) (λc=>?_)⟩)⟩
  ·refine bC t1 gH (bC t2 gH ⟨rfl,?_⟩)
   rw [e1]
   unfold dP
   rw [List.map_append,List.filter_append,List.map_append (f:=V.int)]
   simp [c]
  ·refine⟨rfl,?_⟩
   rw [e1]
   unfold dP
   rw [List.map_append,List.filter_append,List.map_append (f:=V.int)]
   simp [c]
 ·rintro zs H3 p3 ⟨rfl,rfl⟩ hp3
  rw [show xs.length=ps.length from xl,List.take_length]
  exact q p3 _ (ak hp3) hp3 ah
end
end K
namespace Num
theorem iU {p:Int} (hp:2<=p):∀{k l:Nat} {R T:Int},¬p∣R->¬p∣T->p^k*R=p^l*T->k=l/\R=T
 | 0,0,R,T,_,_,e=>by rw [Int.pow_zero,Int.one_mul,Int.one_mul] at e;exact⟨rfl,e⟩
 | 0,l+1,R,T,h,_,e=>by
  rw [Int.pow_zero,Int.one_mul,Int.pow_succ,Int.mul_comm (p^l),Int.mul_assoc] at e
  exact absurd ⟨_,e⟩ h
 | k+1,0,R,T,_,h,e=>by
  rw [Int.pow_zero,Int.one_mul,Int.pow_succ,Int.mul_comm (p^k),Int.mul_assoc] at e
  exact absurd ⟨_,e.symm⟩ h
 | k+1,l+1,R,T,h,h',e=>by
  rw [Int.pow_succ,Int.pow_succ,Int.mul_comm (p^k),Int.mul_comm (p^l),Int.mul_assoc,Int.mul_assoc] at e
  obtain⟨e1,e2⟩:=iU hp h h' (Int.eq_of_mul_eq_mul_left (by omega) e)
  exact⟨by rw [e1],e2⟩
theorem Part.tail {n:Int} {x:Int × Int} {r:List (Int × Int)} (h:Part n (x::r)):Part (bf r) r:=⟨λp hp=>h.ok p (List.mem_cons_of_mem _ hp),(List.pairwise_cons.mp h.rise).2,rfl⟩
theorem Part.nd {n:Int} {x:Int × Int} {r:List (Int × Int)} (h:Part n (x::r)):¬x.1∣bf r:=λz=>by
 obtain⟨y,hy,e⟩:=bR (h.ok x (List.mem_cons_self ..)).1 (λp hp=>(h.ok p (List.mem_cons_of_mem _ hp)).1) z
 have:=(List.pairwise_cons.mp h.rise).1 y hy
 omega
theorem Part.hd {n:Int} {x:Int × Int} {r:List (Int × Int)} (h:Part n (x::r)) {q:Int} (hq:Pm q) (hd:q∣n):x.1<=q:=by
 obtain⟨y,hy,e⟩:=bR hq (λp hp=>(h.ok p hp).1) (h.prod▸hd)
 rcases List.mem_cons.mp hy with rfl | hy
 ·omega
 ·have:=(List.pairwise_cons.mp h.rise).1 y hy
  omega
theorem Part.dv {n:Int} {ps:List (Int × Int)} (h:Part n ps) {x:Int × Int} (hx:x∈ps):x.1∣n:=h.prod▸bP hx (h.ok x hx).2.1
theorem Part.one:∀{ps qs:List (Int × Int)} {n:Int},Part n ps->Part n qs->ps=qs
 | [],[],_,_,_=>rfl
 | [],y::t,n,h,h'=>by
  exfalso
  have e:n=1:=h.prod.symm
  have:=(h'.ok y (List.mem_cons_self ..)).1.two
  have:=Int.le_of_dvd (by decide) (e▸h'.dv (List.mem_cons_self ..))
  omega
 | x::r,[],n,h,h'=>by
  exfalso
  have e:n=1:=h'.prod.symm
  have:=(h.ok x (List.mem_cons_self ..)).1.two
  have:=Int.le_of_dvd (by decide) (e▸h.dv (List.mem_cons_self ..))
  omega
 | (p,k)::r,(q,l)::t,n,h,h'=>by
  have hp:=h.ok _ (List.mem_cons_self ..)
  have hq:=h'.ok _ (List.mem_cons_self ..)
  have e1:p<=q:=h.hd hq.1 (h'.dv (List.mem_cons_self ..))
  have e2:q<=p:=h'.hd hp.1 (h.dv (List.mem_cons_self ..))
  obtain rfl:p=q:=by omega
  obtain⟨a,b⟩:=iU hp.1.two h.nd h'.nd (h.prod.trans h'.prod.symm)
  have:k=l:=by have:=hp.2.1;have:=hq.2.1;simp only at *;omega
  subst this
  rw [Part.one h.tail (b▸h'.tail)]
end Num
namespace Num
theorem j9 {r:Int} (r2:2<=r):∀(f:Nat) (n:Int),1<=n->n.toNat<=f->∃(k:Nat) (m:Int),n=r^k*m/\1<=m/\¬r∣m/\m<=n
 | 0,n,h,hf=>by omega
 | f+1,n,h,hf=>by
  rcases Classical.em (r∣n) with⟨c,hc⟩ | z
  ·have c1:1<=c:=by
    rcases (by omega:c<=0∨1<=c) with z | z
    ·have:=Int.mul_nonpos_of_nonneg_of_nonpos (show 0<=r by omega) z
     omega
    ·exact z
   have cl:c<n:=by
    have:=Int.mul_le_mul_of_nonneg_right r2 (show 0<=c by omega)
    omega
   obtain⟨k,m,e,m1,nd,ml⟩:=j9 r2 f c c1 (by omega)
   exact⟨k+1,m,by rw [hc,e,Int.pow_succ,Int.mul_comm (r^k) r,Int.mul_assoc],m1,nd,by omega⟩
  ·exact⟨0,n,by rw [Int.pow_zero,Int.one_mul],h,z,Int.le_refl _⟩
theorem mK {n:Int} (hn:n<=10^9):∀(f:Nat) (ps:List (Int × Int)) (left prime:Int),Way n ps left prime->left.toNat<=f->∃ qs,Part n qs
 | 0,ps,left,prime,w,hf=>by have:=w.pos;omega
 | f+1,ps,left,prime,w,hf=>by
  have l1:=w.pos
  rcases (by omega:left=1∨1<left) with z | z
  ·subst z
   exact⟨ps,w.done⟩
  ·obtain⟨m,⟨m2,md⟩,no⟩:=dW (P:=λd=>2<=d/\d∣left.toNat) left.toNat ⟨by omega,Nat.dvd_refl _⟩
   have hL:Ld.eK left (m:Int):=by
    refine⟨by omega,?_,λd d2 dm hd=>?_⟩
    ·have:=Int.natCast_dvd_natCast.mpr md
     rwa [show ((left.toNat:Nat):Int)=left by omega] at this
    ·refine no d.toNat (by omega) ⟨by omega,?_⟩
     refine Int.natCast_dvd_natCast.mp ?_
     rwa [show ((left.toNat:Nat):Int)=left by omega,show ((d.toNat:Nat):Int)=d by omega]
   obtain⟨k,lf,e,lf1,nd,lfl⟩:=j9 (r:=(m:Int)) (by omega) left.toNat left l1 (Nat.le_refl _)
   have k1:1<=k:=by
    cases k with
    | zero=>rw [Int.pow_zero,Int.one_mul] at e;exact absurd (e▸hL.dv) nd
    | succ k=>omega
   have lt:lf<left:=by
    rcases (by omega:lf<left∨lf=left) with y | y
    ·exact y
    ·exact absurd (y▸hL.dv) nd
   exact mK hn f _ lf _ (w.step hn z hL e lf1 k1 nd) (by omega)
theorem oF {n:Int} (h:1<=n) (hn:n<=10^9):∃ ps,Part n ps:=mK hn n.toNat [] n 2 (.start h) (Nat.le_refl _)
end Num
namespace K
open PySem PySem.Spec PyProof.Rows L2
section
variable {P:Program} {w:World} {K:PySem.W.Frag} {mg:Str->Option Value} {base:Heap} {C:Addr}
theorem mX:∀{ps:List (Int × Int)} {y:Int × Int},y∈ps->y.1.toNat^y.2.toNat∣Num.eN ps
 | p::r,y,h=>by
  show _∣p.1.toNat^p.2.toNat*Num.eN r
  rcases List.mem_cons.mp h with rfl | h
  ·exact Nat.dvd_mul_right _ _
  ·exact Nat.dvd_trans (mX h) (Nat.dvd_mul_left _ _)
theorem iR:∀{ps:List (Int × Int)} {y:Int × Int},(∀ z∈ps,Num.Pm z.1)->ps.Pairwise (λa b=>a.1<b.1)->y∈ps->¬y.1.toNat^(y.2.toNat+1)∣Num.eN ps
 | p::r,y,hp,hr,hy,hd=>by
  obtain⟨r1,r2⟩:=List.pairwise_cons.mp hr
  have q2:=(hp y hy).two
  replace hd:y.1.toNat^(y.2.toNat+1)∣p.1.toNat^p.2.toNat*Num.eN r:=hd
  rcases List.mem_cons.mp hy with rfl | hy'
  ·have nd:¬y.1.toNat∣Num.eN r:=Num.va (hp y hy) (λz hz=>hp z (List.mem_cons_of_mem _ hz)) λz hz=>by have:=r1 z hz;omega
   rw [Nat.pow_succ] at hd
   exact nd (Nat.dvd_of_mul_dvd_mul_left (Nat.pow_pos (by omega)) hd)
  ·have co:=Num.qS (b:=[y]) (λz hz=>by rw [List.mem_singleton.mp hz];exact hp y hy) [p] (λz hz=>by rw [List.mem_singleton.mp hz];exact hp p (List.mem_cons_self ..)) λx hx z hz=>by
    rw [List.mem_singleton.mp hx,List.mem_singleton.mp hz]
    have:=r1 y hy'
    omega
   have e1:Num.eN [p]=p.1.toNat^p.2.toNat:=Nat.mul_one _
   have nq:=Num.lR (hp y hy)
   have co2:Nat.Coprime (y.1.toNat^(y.2.toNat+1)) (p.1.toNat^p.2.toNat):=by
    refine Num.qK nq (λz=>?_) _
    have h3:(y.1:Int)∣p.1^p.2.toNat:=by
     have:=Int.natCast_dvd_natCast.mpr z
     rwa [Int.natCast_pow,show ((y.1.toNat:Nat):Int)=y.1 by omega,show ((p.1.toNat:Nat):Int)=p.1 by have:=(hp p (List.mem_cons_self ..)).two;omega] at this
    have:=Num.nN (hp p (List.mem_cons_self ..)) (hp y hy) _ h3
    have:=r1 y hy'
    omega
   exact iR (λz hz=>hp z (List.mem_cons_of_mem _ hz)) r2 hy' (co2.dvd_of_dvd_mul_left hd)
def dQ (x:Nat) (y:Int × Int):PyData:=.tuple [.int y.1,.tuple (((Num.eA x y.1.toNat y.2.toNat).map λd:Nat=>(d:Int)).map PyData.int)]
def qj (x e:Nat) (ps:List (Int × Int)):PyData:=.tuple [.int x,.tuple [.str "is",.int e,.tuple (ps.map (dQ x))]]
def asc:Nat->Nat->Nat
 | _,0=>1
 | lo,n+1=>lo*asc (lo+1) n
theorem mf:∀{ps:List (Int × Int)} {lo:Nat},(∀ y∈ps,(lo:Int)<=y.1/\2<=y.1/\1<=y.2)->ps.Pairwise (λa b=>a.1<b.1)->asc lo ps.length<=Num.eN ps
 | [],_,_,_=>Nat.le_refl _
 | p::r,lo,h,hr=>by
  obtain⟨h1,h2,h3⟩:=h p (List.mem_cons_self ..)
  obtain⟨r1,r2⟩:=List.pairwise_cons.mp hr
  show lo*asc (lo+1) r.length<=p.1.toNat^p.2.toNat*Num.eN r
  refine Nat.mul_le_mul ?_ (mf (λy hy=>?_) r2)
  ·exact Nat.le_trans (show lo<=p.1.toNat by omega) (Nat.le_self_pow (by omega) _)
  ·have:=h y (List.mem_cons_of_mem _ hy)
   have:=r1 y hy
   omega
theorem lx:∀(n:Nat) {m lo:Nat},0<lo->n<=m->asc lo n<=asc lo m
 | 0,m,lo,l0,_=>by
  have:∀(m lo:Nat),0<lo->1<=asc lo m:=by
   intro m
   induction m with
   | zero=>intro _ _;exact Nat.le_refl _
   | succ m ih=>intro lo l0;exact Nat.mul_pos l0 (ih (lo+1) (by omega))
  exact this m lo l0
 | n+1,0,_,_,h=>absurd h (by omega)
 | n+1,m+1,lo,l0,h=>Nat.mul_le_mul_left lo (lx n (by omega) (by omega))
theorem fZ {e:Nat} {ps:List (Int × Int)} (h:Num.Part e ps) (e9:e<=10^9):ps.length<=12:=by
 have h1:=mf (lo:=2) (λy hy=>⟨(h.ok y hy).1.two,(h.ok y hy).1.two,(h.ok y hy).2.1⟩) h.rise
 have h2:Num.eN ps=e:=by
  have:=Num.fS ps λy hy=>(h.ok y hy).1
  rw [h.prod] at this
  omega
 rcases Nat.lt_or_ge 12 ps.length with z | z
 ·have h3:asc 2 13<=asc 2 ps.length:=lx 13 (by decide) z
  exact absurd (Nat.le_trans h3 (Nat.le_trans h1 (by rw [h2];exact e9))) (by decide)
 ·exact z
def oA (e:Nat) (r:Int):PyData:=.tuple [.none,.tuple [.str "none",.int e,.int r]]
theorem rC {p b:Int} {e:Nat} (pm:Num.Pm p) (o:Num.Ord p b e):(e:Int)∣p-1/\(e:Int)<p:=by
 have p2:=pm.two
 have h:=o.dv _ (Num.m7 pm (pm.unit o.co))
 have h1:(e:Int)∣p-1:=by
  have:=Int.natCast_dvd_natCast.mpr h
  rwa [show (((p-1).toNat:Nat):Int)=p-1 by omega] at this
 exact⟨h1,by have:=Int.le_of_dvd (by omega) h1;omega⟩
structure oW (p g:Int) (ps:List (Int × Int)) (ds:Nat->PyData):Prop where
 pm:Num.Pm p
 p9:p<=10^9
 hP:Num.Part (p-1) ps
 l29:ps.length<=29
 hds:∀ i q k,ps[i]?=some (q,k)->Num.fN q (ds i)
 g1:1<=g
 gp:g<p
 o:Num.Ord p g (p-1).toNat
 sm:mM (.tuple [.int p,.int g,.tuple (Num.rowsOf ps ds)])
 sz:fH (.tuple [.int p,.int g,.tuple (Num.rowsOf ps ds)])<=10^6
def rZ (K:PySem.W.Frag):Sp:=λvs H Q _=>∃ x q e t:Nat,vs=[.int e,.int q,.int x]/\2<=q/\q<=10^60/\1<=e/\q^t∣e/\¬q^(t+1)∣e/\t<=1000/\∀ p H',aB H H'->aQ K H' p ((Num.eA x q t).map λd=>V.int (d:Nat))->Q (.ref p) H'
theorem gq:ay ["e","q","x","found","left","number"] ["e","q","x"] (aj (top 33)):=c5
theorem ud (D:av K mg "digits_by" (top 33)) (n_tuple:mg "tuple"=none):Callee P w K mg base aM 1 "digits_by" ["e","q","x"] (rZ K):=by
 refine cO D gq (λf cdv A outer s H vs Q E hr h=>?_)
 obtain⟨x,q',e,t,rfl,q2,q9,e1,dt,nt,t9,q⟩:=h
 have nd:=gq.nd
 refine⟨_,(ag (bV (i:=3) nd (bW ae)) (ag (bV (i:=4) nd (pv 0)) (ag (bV (i:=5) nd (pv 2)) (ag (ba PassesOwn.never (aq aU (ao aK (pv 4) (pv 1)) af (ar _)) (ag (kQ (rG PySem.F.plainAttrs_list PySem.F.slot_list_append PySem.F.type_list_append jR (pv 3) (aa (ao aK (pv 5) (pv 1)) ae))) (ag (eG (i:=4) nd rfl (Or.inl rfl) (pv 1) (fX eR)) (ai (eG (i:=5) nd rfl (Or.inl rfl) (pv 1) (fX eR)))))) (ai (ax (cJ cL rfl n_tuple L2.boot_tuple (aa (pv 3) ae)))))))),?_⟩
 show bL _ _ _ [some (.int (e:Int)),some (.int (q':Int)),some (.int (x:Int)),none,none,none] H
 k_data
 refine⟨by decide,λp0 hp0=>?_⟩
 refine bc (α:=Nat) (λi=>[some (.int (e:Int)),some (.int (q':Int)),some (.int (x:Int)),some (.ref p0),some (.int ((e/q'^i:Nat):Int)),some (.int ((x/q'^i:Nat):Int))]) (λi H1=>aB H H1/\i<=t/\H1 p0=some (.lst ((Num.eA x q' i).map λd:Nat=>V.int (d:Int)))) (λi=>t+1-i) 0 (by rw [Nat.pow_zero,Nat.div_one,Nat.div_one]) ⟨ak hp0,Nat.zero_le _,ah⟩ ?_
 rintro i H1 ⟨s1,it,ha⟩
 replace it:i<=t:=it
 k_data
 have di:q'^i∣e:=Nat.dvd_trans (Nat.pow_dvd_pow q' it) dt
 obtain⟨f0,hf⟩:=di
 have qi:0<q'^i:=Nat.pow_pos (by omega)
 have ef:e/q'^i=f0:=by rw [hf];exact Nat.mul_div_cancel_left f0 qi
 have key:(((e/q'^i:Nat):Int)%(q':Int)=0)↔i<t:=by
  rw [<- Int.natCast_emod,ef]
  constructor
  ·intro z
   have z':f0%q'=0:=by omega
   rcases (by omega:i<t∨i=t) with h | h
   ·exact h
   ·subst h
    obtain⟨c,hc⟩:=Nat.dvd_of_mod_eq_zero z'
    exact absurd ⟨c,by rw [Nat.pow_succ,hf,hc,Nat.mul_assoc]⟩ nt
  ·intro h
   obtain⟨c,hc⟩:=Nat.dvd_trans (Nat.pow_dvd_pow q' h) dt
   have:f0=q'*c:=by
    rw [hf,Nat.pow_succ,Nat.mul_assoc] at hc
    exact Nat.eq_of_mul_eq_mul_left qi hc
   rw [this,Nat.mul_mod_right]
   rfl
 have dl:=Num.dS (x:=x) (q:=q') (n:=i)
 refine⟨by omega,aD (λc=>?_) (λc=>?_)⟩
 ·have lt:=key.mp c
  refine⟨_,λ_ _ z=>z,.inl ⟨rfl,_,aT.of ha⟩,by omega,p0,_,_,rfl,rfl,ha,by rw [List.length_map,dl];exact Nat.lt_of_le_of_lt (show i<=1000 by omega) (by decide),by omega,Bd.of (by omega) (by omega),by omega,Bd.of (by omega) (by omega),i+1,?_,s1.upd hp0,lt,?_,by show t+1-(i+1)<t+1-i;omega⟩
  ·show _=[_,_,_,_,some (V.int ((e/q'^(i+1):Nat):Int)),some (V.int ((x/q'^(i+1):Nat):Int))]
   rw [Nat.pow_succ,<- Nat.div_div_eq_div_mul,<- Nat.div_div_eq_div_mul,Int.natCast_ediv (x/q'^i),Int.natCast_ediv (e/q'^i)]
  ·rw [ah,Num.jJ,List.map_append,<- Int.natCast_emod]
   rfl
 ·have:i=t:=by have:=mt key.mpr c;omega
  subst this
  refine⟨_,.inl ⟨aT.of ha,λp1 hp1=>?_⟩⟩
  exact q p1 _ (s1.trans (ak hp1)) (aQ.of ah)
def tq (pl:List (Int × Int)) (q:Int):Int:=((pl.find? λy=>decide (y.1=q)).map (·.2)).getD 0
theorem sG:∀{pl:List (Int × Int)} {y:Int × Int},pl.Pairwise (λa b=>a.1<b.1)->y∈pl->tq pl y.1=y.2
 | z::r,y,h,hy=>by
  obtain⟨h1,h2⟩:=List.pairwise_cons.mp h
  rcases List.mem_cons.mp hy with rfl | hy'
  ·unfold tq
   rw [List.find?_cons_of_pos (by simp)]
   rfl
  ·have:=h1 y hy'
   have e:tq (z::r) y.1=tq r y.1:=by
    unfold tq
    rw [List.find?_cons_of_neg (by simp;omega)]
   rw [e]
   exact sG h2 hy'
theorem uE {pl:List (Int × Int)} {x:Nat} (h:pl.Pairwise (λa b=>a.1<b.1)):pl.map (dQ x)=(pl.map (·.1)).map λq=>dQ x (q,tq pl q):=by
 rw [List.map_map]
 refine List.map_congr_left λy hy=>?_
 show dQ x y=dQ x (y.1,tq pl y.1)
 rw [sG h hy]
def si (K:PySem.W.Frag):Sp:=λvs H Q _=>∃(v:V) (p g:Int) (ps pl:List (Int × Int)) (ds:Nat->PyData) (x e:Nat),vs=[v,.int e,.int x]/\dv K H (.tuple [.int p,.int g,.tuple (Num.rowsOf ps ds)]) v/\oW p g ps ds/\1<=e/\(e:Int)∣p-1/\e<=10^9/\Num.Part e pl/\pl.length<=12/\∀ u H',aB H H'->dv K H' (.tuple (pl.map (dQ x))) u->Q u H'
theorem fF:ay ["paper","e","x"] ["paper","e","x"] (aj (top 32)):=c5
theorem ue (D:av K mg "digit_rows" (top 32)) (c_digits_by:Callee P w K mg base aM 1 "digits_by" ["e","q","x"] (rZ K)) (c_primes_in:Callee P w K mg base aM 1 "primes_in" ["parts"] (cK K)) (n_tuple:mg "tuple"=none):Callee P w K mg base aM 2 "digit_rows" ["paper","e","x"] (si K):=by
 refine cO D fF (λf cdv A outer s H vs Q E hr h=>?_)
 obtain⟨v,p,g,ps,pl,ds,x,e,rfl,hd,R,e1,ed,e9,hpl,few,q⟩:=h
 have nd:=fF.nd
 refine⟨_,(ai (ax (cJ cL rfl n_tuple L2.boot_tuple (aa (fC rfl (sQ (N':=["q","e","x"]) (js:=[none,some 1,some 2]) rfl rfl) (gi (bF c_primes_in hr aw (aa (aH aI (pv 0) af (λ_ _=>rfl)) ae))) (λ_ _ _ _=>(aE (i:=0) (show List.Nodup [("q":Str),("e":Str),("x":Str)] from by decide +kernel) rfl (Or.inl rfl) (.inr rfl))) (λ_ _ _ _=>(iT (aq aU (ao aK (pv 1) (pv 0)) af (ar _)))) (λ_ _ _ _=>(aF (aa (pv 0) (aa (bF c_digits_by hr aw (aa (pv 1) (aa (pv 0) (aa (pv 2) ae)))) ae))))) ae)))),?_⟩
 show fy _ _ [some v,some (.int (e:Int)),some (.int (x:Int))] H
 obtain⟨pp,y1,y2,vr,rfl,tS,e0,eg,dr⟩:=iK hd
 cases e0
 cases eg
 k_data
 refine bC tS rfl ⟨_,_,ps.map (·.1),rfl,dr,fW R.hds,by rw [Num.bU];exact Nat.le_trans R.l29 (by decide),λl H1 s1 fl el=>⟨l,rfl,⟨_,aT.of el⟩,?_⟩⟩
 have eE:Num.eN pl=e:=by
  have:=Num.fS pl λy hy=>(hpl.ok y hy).1
  rw [hpl.prod] at this
  omega
 have qlen:∀ i,(dP (ps.take i) e).length<=i:=λi=>by
  unfold dP
  exact Nat.le_trans (List.length_filter_le _ _) (by rw [List.length_map,List.length_take];omega)
 refine c7 (xs:=(ps.map (·.1)).map V.int) (λi zs H5=>aB H1 H5/\aY K H5 ((dP (ps.take i) e).map λq=>dQ x (q,tq pl q)) zs) ⟨aB.refl _,rfl⟩ (by rw [List.length_map,List.length_map];exact Nat.le_trans R.l29 (by decide)) (λi zs H5 hi ⟨z1,z2⟩=>⟨aT.of (z1 _ _ el),by rw [z2.length,List.length_map];exact qlen i⟩) ?_ ?_
 ·rintro i w' zs H5 hx ⟨s5,hz⟩
  rw [List.getElem?_map,List.getElem?_map] at hx
  obtain⟨q',hx1,rfl⟩:=Option.map_eq_some_iff.mp hx
  obtain⟨⟨q'',k'⟩,hy,rfl⟩:=Option.map_eq_some_iff.mp hx1
  have pq:=(R.hP.ok _ (List.mem_of_getElem? hy)).1
  replace pq:Num.Pm q'':=pq
  have q2:=pq.two
  have et:ps.take (i+1)=ps.take i++[(q'',k')]:=by rw [List.take_add_one,hy];rfl
  show dU 0 _ [none,some (.int (e:Int)),some (.int (x:Int))] _ _
  k_data
  refine⟨⟨rfl,rfl,True.intro⟩,by omega,aD (λc=>?_) (λc=>?_)⟩
  ·obtain⟨y,hy1,ey⟩:=Num.bR pq (λz hz=>(hpl.ok z hz).1) (by rw [hpl.prod];exact Int.dvd_of_emod_eq_zero c)
   obtain⟨_,t1,t9⟩:=hpl.ok y hy1
   have dE:=mX hy1
   have nE:=iR (λz hz=>(hpl.ok z hz).1) hpl.rise hy1
   have qe:=Int.le_of_dvd (by omega) (Int.dvd_of_emod_eq_zero c)
   rw [eE,ey] at dE nE
   have tt:=sG hpl.rise hy1
   rw [ey] at tt
   obtain⟨qn,rfl⟩:∃ n:Nat,q''=n:=⟨q''.toNat,by omega⟩
   obtain⟨tn,htn⟩:∃ n:Nat,y.2=n:=⟨y.2.toNat,by omega⟩
   rw [htn] at dE nE tt t9
   replace dE:qn^tn∣e:=dE
   replace nE:¬qn^(tn+1)∣e:=nE
   refine⟨x,qn,e,tn,rfl,by omega,by omega,by omega,dE,nE,by omega,λpd H6 s6 hSd=>⟨by show 2<=sizeLine;decide,λp7 hp7=>?_⟩⟩
   have s7:=ak (o:=.tup [V.int (qn:Int),V.ref pd]) hp7
   refine⟨(s5.trans s6).trans s7,?_⟩
   have eq1:dP (ps.take (i+1)) e=dP (ps.take i) e++[(qn:Int)]:=by
    rw [et]
    unfold dP
    rw [List.map_append,List.filter_append]
    simp [c]
   rw [eq1,List.map_append]
   refine aY.append (aY.same (s6.trans s7) _ hz) (.one ?_)
   show dv K _ (dQ x ((qn:Int),tq pl (qn:Int))) _
   rw [tt]
   refine dv.tup ah ⟨_,_,rfl,rfl,.one ⟨pd,_,rfl,hSd.same s7,?_⟩⟩
   have:=aY.ints (K:=K) (H:=upd H6 p7 (.tup [V.int (qn:Int),V.ref pd])) ((Num.eA x qn tn).map λd:Nat=>(d:Int))
   rw [List.map_map (f:=λd:Nat=>(d:Int)) (g:=V.int)] at this
   exact this
  ·refine⟨s5,?_⟩
   have eq1:dP (ps.take (i+1)) e=dP (ps.take i) e:=by
    rw [et]
    unfold dP
    rw [List.map_append,List.filter_append]
    simp [c]
   rw [eq1]
   exact hz
 ·rintro zs H5 p5 ⟨s5,hz⟩ hp5
  rw [List.length_map,List.length_map,List.take_length,j4 R.hP hpl ed,<- uE hpl.rise] at hz
  have s6:=ak (o:=.lst zs) hp5
  refine⟨p5,rfl,zs,.inl ⟨aT.of ah,λpt hpt=>?_⟩⟩
  have s7:=ak (o:=.tup zs) hpt
  exact q _ _ (s1.trans (s5.trans (s6.trans s7))) (dv.tup ah (aY.same (s6.trans s7) _ hz))
theorem kS:∀{L:Nat} {ds:List PyData},(∀ d∈ds,rD L d)->nP L ds
 | L,[],_=>by simp only [nP]
 | L,d::ds,h=>by
  simp only [nP]
  exact⟨h d (List.mem_cons_self ..),kS λe z=>h e (List.mem_cons_of_mem _ z)⟩
theorem yj {x e:Nat} {pl:List (Int × Int)} (hpl:Num.Part e pl) (few:pl.length<=12):rD 7 (.tuple [.str "is",.int e,.tuple (pl.map (dQ x))]):=by
 have cs:PyData.canLay0 (.str "is")=true:=by decide +kernel
 have hrow:nP 5 (pl.map (dQ x)):=kS λd hd=>by
  obtain⟨y,hy,rfl⟩:=List.mem_map.mp hd
  have t30:=(hpl.ok y hy).2.2
  have hin:nP 3 (((Num.eA x y.1.toNat y.2.toNat).map λd:Nat=>(d:Int)).map PyData.int):=kS λd hd=>by
   obtain⟨i,_,rfl⟩:=List.mem_map.mp hd
   simp [rD]
  have hl:(Num.eA x y.1.toNat y.2.toNat).length<=10^6:=by rw [Num.dS];omega
  simp only [dQ,rD,nP,List.length_cons,List.length_nil,List.length_map,and_true,true_and]
  exact⟨by decide,hl,hin⟩
 simp only [rD,nP,List.length_cons,List.length_nil,List.length_map,and_true,true_and]
 exact⟨by decide,cs,by omega,hrow⟩
def bI (d:PyData):Prop:=∀ i:Int,d=.int i -> -(10^99)<=i/\i<=10^99
def oP (K:PySem.W.Frag):Sp:=λvs H Q _=>∃(t:Addr) (x1 x2:V) (d1 d2:PyData),vs=[.ref t]/\aQ K H t [x1,x2]/\dv K H d1 x1/\dv K H d2 x2/\Q (.bl (lL d1 && lL d2)) H
theorem jc:ay ["thing"] ["thing"] (aj (top 12)):=c5
theorem rq (D:av K mg "is_pair" (top 12)) (c_is_tuple_of:Callee P w K mg base aM 1 "is_tuple_of" ["thing","many"] (mD K)) (c_is_whole:Callee P w K mg base aM 1 "is_whole" ["thing"] (xm K)):Callee P w K mg base aM 2 "is_pair" ["thing"] (oP K):=by
 refine cO D jc (λf cdv A outer s H vs Q E hr h=>?_)
 obtain⟨t,x1,x2,d1,d2,rfl,hS,h1,h2,q⟩:=h
 have nd:=jc.nd
 refine⟨_,(ai (ax (bh (bF c_is_tuple_of hr aw (aa (pv 0) (aa af ae))) (bh (bF c_is_whole hr aw (aa (aH aI (pv 0) af (λ_ _=>rfl)) ae)) (bX (bF c_is_whole hr aw (aa (aH aI (pv 0) af (λ_ _=>rfl)) ae))))))),?_⟩
 show fy _ _ [some (.ref t)] H
 k_data
 refine⟨.tuple [d1,d2],_,2,rfl,⟨t,_,rfl,hS,_,_,rfl,h1,.one h2⟩,⟨true,rfl,?_⟩⟩
 rw [if_pos rfl]
 refine bC hS gH ⟨d1,_,rfl,h1,_,rfl,?_⟩
 cases c:lL d1 with
 | false =>
  rw [c] at q
  rw [if_neg (by decide)]
  exact q
 | true =>
  rw [c] at q
  rw [if_pos rfl]
  exact bC hS tu ⟨d2,_,rfl,h2,q⟩
def jg (K:PySem.W.Frag):Sp:=λvs H Q _=>∃(v:V) (t:Addr) (x1 x2:V) (d1 d2:PyData) (p g b a:Int) (ps:List (Int × Int)) (ds:Nat->PyData),vs=[v,.int b,.int a,.ref t]/\dv K H (.tuple [.int p,.int g,.tuple (Num.rowsOf ps ds)]) v/\oW p g ps ds/\aQ K H t [x1,x2]/\dv K H d1 x1/\dv K H d2 x2/\bI d1/\bI d2 /\
 ∀ bb H',(bb=true↔∃ e x:Nat,d1=.int e/\d2=.int x/\Num.Ord p b e/\x<e/\Num.Al p a (b^x))->aB H H'->Q (.bl bb) H'
theorem ic:ay ["paper","b","a","place","p","e","x"] ["paper","b","a","place"] (aj (top 31)):=c5
theorem lV {C0:Addr} (D:av K mg "is_which" (top 31)) (c_is_pair:Callee P w K mg base aM 2 "is_pair" ["thing"] (oP K)) (c_is_order:Callee P w K mg base aM 6 "is_order" ["paper","a","e"] (gP K)) (c_power:Callee P w K mg base (fu P w) 4 "power" ["n","a","e"] (iD C0)):Callee P w K mg base aM 7 "is_which" ["paper","b","a","place"] (jg K):=by
 refine cO D ic (λf cdv A outer s H vs Q E hr h=>?_)
 obtain⟨v,t,x1,x2,d1,d2,p,g,b,a,ps,ds,rfl,hd,R,hS,h1,h2,i1,i2,q⟩:=h
 have p2:=R.pm.two
 have p9:=R.p9
 have nd:=ic.nd
 refine⟨_,(ag (aL (dO (PW.pt (cn (aP (bF c_is_pair hr aw (aa (pv 3) ae)) (λ_=>rfl)) (cf (aP (bF c_is_order hr aw (aa (pv 0) (aa (pv 1) (aa (aH aI (pv 3) af (λ_ _=>rfl)) ae)))) (λ_=>rfl)))))) (ai (ax cH)) az) (ag (bV (i:=4) nd (aH aI (pv 0) af (λ_ _=>rfl))) (ag (eT (pv 3) (eF (n:=2) rfl (aJ (aE (i:=5) nd rfl (Or.inl rfl) (.inr rfl)) (aJ (aE (i:=6) nd rfl (Or.inl rfl) (.inr rfl)) cE)))) (ai (ax (bh (mh ma cP af (pv 6) (pv 5)) (bX (bA aU (bF c_power hr bS (aa (pv 4) (aa (pv 1) (aa (pv 6) ae)))) (ao aK (pv 2) (pv 4)) (ar _))))))))),?_⟩
 show bL _ _ _ [some v,some (.int b),some (.int a),some (.ref t),none,none,none] H
 obtain⟨pp,y1,y2,vr,rfl,tS,e0,eg,dr⟩:=iK hd
 cases e0
 cases eg
 k_data
 refine⟨t,_,_,_,_,rfl,hS,h1,h2,_,aG.mpr rfl,?_⟩
 cases c:lL d1 && lL d2 with
 | false =>
  rw [if_neg (by decide)]
  refine q false H ⟨nofun,fun⟨e,x,z1,z2,_⟩=>?_⟩ (aB.refl _)
  rw [z1,z2] at c
  cases c
 | true =>
  rw [if_pos rfl]
  obtain⟨c1,c2⟩:=Bool.and_eq_true_iff.mp c
  obtain⟨e,rfl⟩:=fh c1
  obtain⟨x,rfl⟩:=fh c2
  cases h1
  cases h2
  obtain⟨e0,e1⟩:=i1 e rfl
  obtain⟨x0,x1⟩:=i2 x rfl
  refine bC hS gH ⟨.ref pp,p,b,e,.int g,_,ps,rfl,hd,fW R.hds,R.pm,R.hP,by omega,Nat.le_trans R.l29 (by decide),by omega,by omega,λbb H1 hb s1=>⟨_,aG.mpr rfl,?_⟩⟩
  cases bb with
  | false =>
   rw [if_pos (by rfl)]
   refine q false H1 ⟨nofun,fun⟨e',x',z1,z2,o,_⟩=>?_⟩ s1
   cases z1
   have:=hb.mpr ⟨by have:=o.pos;omega,by rw [Int.toNat_natCast];exact o⟩
   cases this
  | true =>
   rw [if_neg (by decide)]
   obtain⟨e1',o⟩:=hb.mp rfl
   obtain⟨en,rfl⟩:∃ n:Nat,e=n:=⟨e.toNat,by omega⟩
   rw [Int.toNat_natCast] at o
   refine bC (tS.same s1) gH ⟨t,_,rfl,hS.same s1,rfl,?_⟩
   k_data
   unfold nR
   k_data
   by_cases c3:0<=x
   ·rw [if_pos c3]
    by_cases c4:x<en
    ·rw [if_pos c4]
     obtain⟨xn,rfl⟩:∃ n:Nat,x=n:=⟨x.toNat,by omega⟩
     refine⟨p,b,_,rfl,by omega,by omega,λ_ H2 s2=>⟨by omega,rfl,?_⟩,λz=>absurd z (by omega)⟩
     rw [Int.toNat_natCast]
     refine q _ H2 ?_ (s1.trans s2)
     rw [decide_eq_true_iff]
     constructor
     ·intro z
      exact⟨en,xn,rfl,rfl,o,by omega,(Num.Al.iff.mpr (V.int.inj z)).symm⟩
     ·rintro⟨e',x',z1,z2,o',_,al⟩
      have z2':xn=x':=by injection z2 with h;omega
      subst z2'
      exact congrArg V.int (Num.Al.iff.mp al.symm)
    ·rw [if_neg c4]
     refine q false H1 ⟨nofun,fun⟨e',x',z1,z2,_,xe,_⟩=>?_⟩ s1
     injection z1 with z1
     injection z2 with z2
     omega
   ·rw [if_neg c3]
    refine q false H1 ⟨nofun,fun⟨e',x',z1,z2,_,xe,_⟩=>?_⟩ s1
    injection z2 with z2
    omega
def jC (p b a:Int) (d:PyData):Prop:=∃ e:Nat,Num.Ord p b e/\((¬Num.Al p (a^e) 1/\d=oA e (a^e%p))∨∃ x pl,x<e/\Num.Al p a (b^x)/\Num.Part e pl/\d=qj x e pl)
def ji (K:PySem.W.Frag):Sp:=λvs H Q _=>∃(v u:V) (s0 de s2:PyData) (p g b a:Int) (ps:List (Int × Int)) (ds:Nat->PyData),vs=[v,.int b,.int a,u]/\dv K H (.tuple [.int p,.int g,.tuple (Num.rowsOf ps ds)]) v/\oW p g ps ds/\dv K H (.tuple [s0,de,s2]) u/\PyData.canLay0 (.tuple [s0,de,s2])=true/\bI de/\¬p∣a /\
 ∀ bb H',(bb=true↔∃ e:Nat,Num.Ord p b e/\¬Num.Al p (a^e) 1/\PyData.tuple [s0,de,s2]=.tuple [.str "none",.int e,.int (a^e%p)])->aB H H'->Q (.bl bb) H'
theorem dI:ay ["paper","b","a","shown","p","e","rest"] ["paper","b","a","shown"] (aj (top 30)):=c5
theorem lZ {C0:Addr} (D:av K mg "shows_no_power" (top 30)) (c_is_whole:Callee P w K mg base aM 1 "is_whole" ["thing"] (xm K)) (c_is_order:Callee P w K mg base aM 6 "is_order" ["paper","a","e"] (gP K)) (c_power:Callee P w K mg base (fu P w) 4 "power" ["n","a","e"] (iD C0)) (c_is_just:Callee P w K mg base aM 15 "is_just" ["thing","right"] (gQ K 7)):Callee P w K mg base aM 16 "shows_no_power" ["paper","b","a","shown"] (ji K):=by
 refine cO D dI (λf cdv A outer s H vs Q E hr h=>?_)
 obtain⟨v,u,s0,de,s2,p,g,b,a,ps,ds,rfl,hd,R,hu,lay,ie,na,q⟩:=h
 have p2:=R.pm.two
 have p9:=R.p9
 have nd:=dI.nd
 refine⟨_,(ag (bV (i:=4) nd (aH aI (pv 0) af (λ_ _=>rfl))) (ag (bV (i:=5) nd (aH aI (pv 3) af (λ_ _=>rfl))) (ag (aL (PW.pt (iZ (aq aU (ao aK (pv 2) (pv 4)) af (ar _)) (gO (dO (PW.pt (cn (aP (bF c_is_whole hr aw (aa (pv 5) ae)) (λ_=>rfl)) (cf (aP (bF c_is_order hr aw (aa (pv 0) (aa (pv 1) (aa (pv 5) ae)))) (λ_=>rfl))))))))) (ai (ax cH)) az) (ag (bV (i:=6) nd (bF c_power hr bS (aa (pv 4) (aa (pv 2) (aa (pv 5) ae))))) (ai (ax (bh (bA iQ (pv 6) af (ar _)) (bX (bF c_is_just hr aw (aa (pv 3) (aa (aF (aa a9 (aa (pv 5) (aa (pv 6) ae)))) ae))))))))))),?_⟩
 show bL _ _ _ [some v,some (.int b),some (.int a),some u,none,none,none] H
 obtain⟨pp,y1,y2,vr,rfl,tS,e0,eg,dr⟩:=iK hd
 cases e0
 cases eg
 obtain⟨pu,z1,z2,z3,rfl,tU,u0,u1,u2⟩:=iK hu
 k_data
 refine bC tS gH (bC tU tu ⟨p,rfl,by omega,?_⟩)
 rw [if_neg (λz=>na (Int.dvd_of_emod_eq_zero z))]
 refine⟨de,_,rfl,u1,_,aG.mpr rfl,?_⟩
 cases c:lL de with
 | false =>
  rw [if_neg (by decide)]
  refine q false H ⟨nofun,fun⟨e,_,_,z⟩=>?_⟩ (aB.refl _)
  injection z with z
  injection z with _ z
  injection z with z
  rw [z] at c
  cases c
 | true =>
  rw [if_pos rfl]
  obtain⟨e,rfl⟩:=fh c
  cases u1
  obtain⟨e0,e1⟩:=ie e rfl
  refine⟨.ref pp,p,b,e,.int g,_,ps,rfl,hd,fW R.hds,R.pm,R.hP,by omega,Nat.le_trans R.l29 (by decide),by omega,by omega,λbb H1 hb s1=>⟨_,aG.mpr rfl,?_⟩⟩
  cases bb with
  | false =>
   rw [if_pos (by rfl)]
   refine q false H1 ⟨nofun,fun⟨e',o,_,z⟩=>?_⟩ s1
   injection z with z
   injection z with _ z
   injection z with z
   injection z with z
   have:=hb.mpr ⟨by have:=o.pos;omega,by rw [z,Int.toNat_natCast];exact o⟩
   cases this
  | true =>
   rw [if_neg (by decide)]
   obtain⟨e1',o⟩:=hb.mp rfl
   obtain⟨en,rfl⟩:∃ n:Nat,e=n:=⟨e.toNat,by omega⟩
   rw [Int.toNat_natCast] at o
   refine⟨p,a,_,rfl,by omega,by omega,λ_ H2 s2'=>?_,λz=>absurd z (by omega)⟩
   rw [Int.toNat_natCast]
   refine⟨rfl,aD (λc1=>?_) (λc1=>?_)⟩
   ·have n1:¬Num.Al p (a^en) 1:=λz=>c1 (congrArg V.int ((cq p2).mpr z))
    refine⟨by show 3<=sizeLine;decide,λp3 hp3=>?_⟩
    have s3:=ak (o:=.tup [V.str "none",V.int (en:Int),V.int (a^en%p)]) hp3
    refine⟨_,_,.tuple [s0,.int en,s2],.tuple [.str "none",.int en,.int (a^en%p)],rfl,dv.same (s1.trans (s2'.trans s3)) _ hu,dv.tup ah ⟨_,_,rfl,rfl,_,_,rfl,rfl,.one rfl⟩,lay,?_,λb' H' hb' s'=>?_⟩
    ·simp only [rD,nP,List.length_cons,List.length_nil,and_true]
     exact⟨by decide,by decide +kernel⟩
    ·refine q b' H' ?_ ((s1.trans (s2'.trans s3)).trans s')
     rw [hb']
     constructor
     ·intro z
      exact⟨en,o,n1,z⟩
     ·rintro⟨e',o',_,z⟩
      rw [z,o.gM o']
   ·have a1:Num.Al p (a^en) 1:=(cq p2).mp (V.int.inj (Classical.not_not.mp c1))
    refine q false H2 ⟨nofun,fun⟨e',o',n1,_⟩=>?_⟩ (s1.trans s2')
    rw [o'.gM o] at n1
    exact absurd a1 n1
theorem wa {H:Hp} {d1 d2:PyData} {v:V} (h:dv K H (.tuple [d1,d2]) v):∃ p x1 x2,v=.ref p/\aQ K H p [x1,x2]/\dv K H d1 x1/\dv K H d2 x2:=by
 obtain⟨p,xs,rfl,h1,x1,r1,rfl,e1,x2,r2,rfl,e2,z⟩:=h
 cases z
 exact⟨p,x1,x2,rfl,h1,e1,e2⟩
theorem wb {H:Hp} {d:PyData} (h:dv K H d .bo):d=.none:=by
 cases d with
 | none=>rfl
 | tuple ds=>obtain⟨p,xs,z,_⟩:=h;cases z
 | list ds=>obtain⟨p,xs,z,_⟩:=h;cases z
 | dict ds=>exact h.elim
 | _=>cases h
theorem jK {p b a:Int} {d:PyData} (h:jC p b a d):∃ dx s0 de s2,d=.tuple [dx,.tuple [s0,de,s2]]:=by
 obtain⟨e,_,⟨_,rfl⟩|⟨x,pl,_,_,_,rfl⟩⟩:=h
 ·exact⟨_,_,_,_,rfl⟩
 ·exact⟨_,_,_,_,rfl⟩
theorem zL {d:PyData} (h:cU d 2=true):∃ d1 d2,d=.tuple [d1,d2]:=by
 cases d with
 | tuple ds =>
  match ds,h with
  | [d1,d2],_=>exact⟨d1,d2,rfl⟩
  | [],h=>exact absurd h (by decide)
  | [_],h=>exact absurd h (by simp [cU])
  | _::_::_::_,h=>exact absurd h (by simp [cU])
 | _=>cases h
theorem zM {d:PyData} (h:cU d 3=true):∃ d1 d2 d3,d=.tuple [d1,d2,d3]:=by
 cases d with
 | tuple ds =>
  match ds,h with
  | [d1,d2,d3],_=>exact⟨d1,d2,d3,rfl⟩
  | [],h=>exact absurd h (by decide)
  | [_],h=>exact absurd h (by simp [cU])
  | [_,_],h=>exact absurd h (by simp [cU])
  | _::_::_::_::_,h=>exact absurd h (by simp [cU])
 | _=>cases h
def mC (K:PySem.W.Frag):Sp:=λvs H Q _=>∃(v u:V) (d:PyData) (p g b a:Int) (ps:List (Int × Int)) (ds:Nat->PyData),vs=[v,.int b,.int a,u]/\dv K H (.tuple [.int p,.int g,.tuple (Num.rowsOf ps ds)]) v/\oW p g ps ds/\¬p∣a/\dv K H d u/\d.canLay0=true/\(∀ dx s0 de s2,d=.tuple [dx,.tuple [s0,de,s2]]->bI dx/\bI de)/\∀ bb H',(bb=true↔jC p b a d)->aB H H'->Q (.bl bb) H'
theorem fb:ay ["paper","b","a","thing","x","shown","e"] ["paper","b","a","thing"] (aj (top 29)):=c5
theorem pZ (D:av K mg "shows_which" (top 29)) (c_is_prime_paper:Callee P w K mg base aM 8 "is_prime_paper" ["thing"] (yn K)) (c_is_tuple_of:Callee P w K mg base aM 1 "is_tuple_of" ["thing","many"] (mD K)) (c_shows_no_power:Callee P w K mg base aM 16 "shows_no_power" ["paper","b","a","shown"] (ji K)) (c_is_which:Callee P w K mg base aM 7 "is_which" ["paper","b","a","place"] (jg K)) (c_is_just:Callee P w K mg base aM 15 "is_just" ["thing","right"] (gQ K 7)) (c_digit_rows:Callee P w K mg base aM 2 "digit_rows" ["paper","e","x"] (si K)):Callee P w K mg base aM 17 "shows_which" ["paper","b","a","thing"] (mC K):=by
 refine cO D fb (λf cdv A outer s H vs Q E hr h=>?_)
 obtain⟨v,u,d,p,g,b,a,ps,ds,rfl,hd,R,na,hu,lay,hB,q⟩:=h
 have p2:=R.pm.two
 have p9:=R.p9
 have nd:=fb.nd
 refine⟨_,(ag (aL (dO (PW.pt (cn (aP (bF c_is_prime_paper hr aw (aa (pv 0) ae)) (λ_=>rfl)) (cn (aP (bF c_is_tuple_of hr aw (aa (pv 3) (aa af ae))) (λ_=>rfl)) (cf (aP (bF c_is_tuple_of hr aw (aa (aH aI (pv 3) af (λ_ _=>rfl)) (aa af ae))) (λ_=>rfl))))))) (ai (ax cH)) az) (ag (eT (pv 3) (eF (n:=2) rfl (aJ (aE (i:=4) nd rfl (Or.inl rfl) (.inr rfl)) (aJ (aE (i:=5) nd rfl (Or.inl rfl) (.inr rfl)) cE)))) (ag (bV (i:=6) nd (aH aI (pv 5) af (λ_ _=>rfl))) (ag (aL (aq rA (pv 4) c9 (ar _)) (ai (ax (bF c_shows_no_power hr aw (aa (pv 0) (aa (pv 1) (aa (pv 2) (aa (pv 5) ae))))))) az) (ai (ax (bh (bF c_is_which hr aw (aa (pv 0) (aa (pv 1) (aa (pv 2) (aa (aF (aa (pv 6) (aa (pv 4) ae))) ae))))) (bX (bF c_is_just hr aw (aa (pv 5) (aa (aF (aa a9 (aa (pv 6) (aa (bF c_digit_rows hr aw (aa (pv 0) (aa (pv 6) (aa (pv 4) ae)))) ae)))) ae))))))))))),?_⟩
 show bL _ _ _ [some v,some (.int b),some (.int a),some u,none,none,none] H
 k_data
 have pp:=(wV p2 R.hP R.hds).mpr ⟨R.g1,R.gp,R.o⟩
 refine⟨_,v,rfl,hd,R.sm,R.sz,λbb H1 hb s1=>?_⟩
 have hbb:bb=true:=hb.mpr pp
 subst hbb
 refine⟨true,aG.mpr rfl,?_⟩
 rw [if_pos rfl]
 have hd1:=dv.same s1 _ hd
 have hu1:=dv.same s1 _ hu
 refine⟨d,u,2,rfl,hu1,_,aG.mpr rfl,?_⟩
 cases c:cU d 2 with
 | false =>
  rw [if_neg (by decide)]
  refine q false H1 ⟨nofun,λz=>?_⟩ s1
  obtain⟨_,_,_,_,rfl⟩:=jK z
  cases c
 | true =>
  rw [if_pos rfl]
  obtain⟨dx,dsh,rfl⟩:=zL c
  obtain⟨pf,v1,v2,rfl,hSf,hf1,hf2⟩:=wa hu1
  refine bC hSf tu ⟨dsh,_,3,rfl,hf2,_,aG.mpr rfl,?_⟩
  cases c2:cU dsh 3 with
  | false =>
   rw [if_pos (by rfl)]
   refine q false H1 ⟨nofun,λz=>?_⟩ s1
   obtain⟨_,_,_,_,z⟩:=jK z
   cases z
   cases c2
  | true =>
   rw [if_neg (by decide)]
   obtain⟨s0,de,s2,rfl⟩:=zM c2
   obtain⟨bx,be⟩:=hB _ _ _ _ rfl
   obtain⟨pg,w1,w2,w3,rfl,tG,u0,u1,u2⟩:=iK hf2
   have lay2:PyData.canLay0 (.tuple [s0,de,s2])=true:=by
    simp only [PyData.canLay0,PyData.canLayAll0,Bool.and_true,Bool.and_eq_true] at lay ⊢
    exact lay.2
   refine⟨pf,_,rfl,hSf,rfl,?_⟩
   k_data
   refine bC tG tu ?_
   k_data
   refine aD (λc3=>?_) (λc3=>?_)
   ·subst c3
    obtain rfl:=wb hf1
    refine⟨v,_,s0,de,s2,p,g,b,a,ps,ds,rfl,hd1,R,hf2,lay2,be,na,λbb H' hb' s'=>q bb H' ?_ (s1.trans s')⟩
    rw [hb']
    constructor
    ·rintro⟨e,o,n1,z⟩
     exact⟨e,o,.inl ⟨n1,by rw [z];rfl⟩⟩
    ·rintro⟨e,o,⟨n1,z⟩|⟨x,pl,_,_,_,z⟩⟩
     ·refine⟨e,o,n1,?_⟩
      unfold oA at z
      injection z with z
      injection z with _ z
      injection z with z
     ·unfold qj at z
      injection z with z
      injection z with z
      cases z
   ·have ndx:dx≠.none:=λz=>by subst z;exact c3 hf1
    refine⟨by show 2<=sizeLine;decide,λt ht=>?_⟩
    have s2':=ak (o:=.tup [w2,v1]) ht
    refine⟨v,t,w2,v1,de,dx,p,g,b,a,ps,ds,rfl,dv.same s2' _ hd1,R,aQ.of ah,dv.same s2' _ u1,dv.same s2' _ hf1,be,bx,λbb H3 hb3 s3=>⟨_,rfl,?_⟩⟩
    generalize upd H1 t _=H2 at *
    have S3:=s2'.trans s3
    cases bb with
    | false =>
     rw [if_neg (by decide)]
     refine q false H3 ⟨nofun,?_⟩ (s1.trans S3)
     rintro⟨e,o,⟨n1,z⟩|⟨x,pl,xe,al,_,z⟩⟩
     ·unfold oA at z
      injection z with z
      injection z with z
      exact absurd z ndx
     ·unfold qj at z
      injection z with z
      injection z with z1 z
      injection z with z
      injection z with z
      injection z with _ z
      injection z with z2
      exact hb3.mpr ⟨e,x,z2,z1,o,xe,al⟩
    | true =>
     rw [if_pos rfl]
     obtain⟨e,x,rfl,rfl,o,xe,al⟩:=hb3.mp rfl
     cases u1
     cases hf1
     obtain⟨ed,ep⟩:=rC R.pm o
     have e0':=o.pos
     obtain⟨pl,hpl⟩:=Num.oF (n:=(e:Int)) (by omega) (by omega)
     have few:=fZ hpl (by omega)
     refine⟨v,p,g,ps,pl,ds,x,e,rfl,dv.same S3 _ hd1,R,by omega,ed,by omega,hpl,few,λw' H4 s4 hw=>⟨by show 3<=sizeLine;decide,λp5 hp5=>?_⟩⟩
     have s5:=ak (o:=.tup [V.str "is",V.int (e:Int),w']) hp5
     have S5:=S3.trans (s4.trans s5)
     refine⟨_,_,.tuple [s0,.int e,s2],.tuple [.str "is",.int e,.tuple (pl.map (dQ x))],rfl,dv.same S5 _ hf2,dv.tup ah ⟨_,_,rfl,rfl,_,_,rfl,rfl,.one (dv.same s5 _ hw)⟩,lay2,yj hpl few,λb' H' hb' s'=>q b' H' ?_ (s1.trans (S5.trans s'))⟩
     rw [hb']
     constructor
     ·intro z
      exact⟨e,o,.inr ⟨x,pl,xe,al,hpl,by rw [z];rfl⟩⟩
     ·rintro⟨e',o',⟨_,z⟩|⟨x',pl',xe',al',hpl',z⟩⟩
      ·unfold oA at z
       injection z with z
       injection z with z
       cases z
      ·obtain rfl:=o.gM o'
       obtain rfl:=Num.jZ o xe xe' al al'
       obtain rfl:=hpl.one hpl'
       unfold qj at z
       injection z with z
       injection z with _ z
       injection z with z
end
end K
namespace K
open PySem PySem.Spec PyProof.Rows L2
section
variable {P:Program} {w:World} {K:PySem.W.Frag} {mg:Str->Option Value} {base:Heap}
mutual
def sT:Nat->PyData->Prop
 | 0,_=>False
 | _+1,.none=>True
 | _+1,.bool _=>True
 | _+1,.int _=>True
 | _+1,.str _=>True
 | L+1,.list ds=>ds.length<=10^6/\qr L ds
 | L+1,.tuple ds=>ds.length<=10^6/\qr L ds
 | _+1,_=>False
def qr:Nat->List PyData->Prop
 | _,[]=>True
 | L,d::ds=>sT L d/\qr L ds
end
theorem rW:∀{L:Nat} {ds:List PyData} {i:Nat} {d:PyData},qr L ds->ds[i]?=some d->sT L d
 | L,[],i,d,_,h=>by simp at h
 | L,e::ds,0,d,h,z=>by
  simp only [qr] at h
  cases z
  exact h.1
 | L,e::ds,i+1,d,h,z=>by
  simp only [qr] at h
  exact rW h.2 (by simpa using z)
theorem kT:∀{L:Nat} {ds:List PyData},(∀ d∈ds,sT L d)->qr L ds
 | L,[],_=>by simp only [qr]
 | L,d::ds,h=>by
  simp only [qr]
  exact⟨h d (List.mem_cons_self ..),kT λe z=>h e (List.mem_cons_of_mem _ z)⟩
theorem lu {k:Sd} {H H':Hp} {a:Addr} {xs:List V} (h:iG k K H a xs) (s:aB H H'):iG k K H' a xs:=by
 cases k
 ·exact aT.same h s
 ·exact aQ.same h s
def zS:PyData->Prop
 | .none=>True
 | .bool _=>True
 | .int _=>True
 | .str _=>True
 | _=>False
theorem qT {d r:PyData} (hr:zS r):(tP d=tP r/\PyData.eqv d r=true)↔d=r:=by
 cases r with
 | none=>cases d<;>simp [PyData.eqv,tP]
 | bool x=>cases d<;>simp [PyData.eqv,tP]
 | int x=>cases d<;>simp [PyData.eqv,tP]
 | str x=>cases d<;>simp [PyData.eqv,tP]
 | _=>cases hr
theorem tQ {d:PyData} (h:yQ d=true):∃ ds,d=.list ds:=by cases d<;>first | exact⟨_,rfl⟩ | cases h
def ft (K:PySem.W.Frag) (L:Nat):Sp:=λvs H Q _=>∃(u v:V) (d r:PyData),vs=[u,v]/\dv K H d u/\dv K H r v/\d.canLay0=true/\r.canLay0=true/\sT L r/\∀ b H',(b=true↔d=r)->aB H H'->Q (.bl b) H'
theorem eI:ay ["_law_found","_law_due"] ["_law_found","_law_due"] (aj (top 55)):=c5
theorem pX (D:av K mg "_law_same" (top 55)):Callee P w K mg base aM 1 "_law_same" ["_law_found","_law_due"] (ft K 0):=by
 refine cO D eI (λf cdv A outer s H vs Q E hr h=>?_)
 obtain⟨u,v,d,r,rfl,hu,hv,_,_,hs,q⟩:=h
 simp only [sT] at hs
theorem pY {L:Nat} (D:av K mg "_law_same" (top 55)) (c__law_same:Callee P w K mg base aM (L+1) "_law_same" ["_law_found","_law_due"] (ft K L)) (n_isinstance:mg "isinstance"=none) (n_bool:mg "bool"=none) (n_list:mg "list"=none) (n_tuple:mg "tuple"=none) (n_len:mg "len"=none) (n_zip:mg "zip"=none) (n_all:mg "all"=none):Callee P w K mg base aM (L+2) "_law_same" ["_law_found","_law_due"] (ft K (L+1)):=by
 refine cO D eI (λf cdv A outer s H vs Q E hr h=>?_)
 obtain⟨u,v,d,r,rfl,hu,hv,ld,lr,hs,q⟩:=h
 have nd:=eI.nd
 refine⟨_,(ag (aL (PW.pt (iZ (aP (aC aO rfl n_isinstance PyProof.Rows.boot_isinstance (aa (pv 1) (aa (bz (v:=.ty "tuple") rfl n_tuple L2.boot_tuple rfl) ae))) (λ_=>rfl)) (gO (aP (aC aO rfl n_isinstance PyProof.Rows.boot_isinstance (aa (pv 1) (aa (bz (v:=.ty "list") rfl n_list L2.boot_list rfl) ae))) (λ_=>rfl))))) (ag (aL (PW.pt (iZ (aq iQ (aC aO rfl n_isinstance PyProof.Rows.boot_isinstance (aa (pv 0) (aa (bz (v:=.ty "tuple") rfl n_tuple L2.boot_tuple rfl) ae))) (aC aO rfl n_isinstance PyProof.Rows.boot_isinstance (aa (pv 1) (aa (bz (v:=.ty "tuple") rfl n_tuple L2.boot_tuple rfl) ae))) (ar _)) (gO (aq iQ (aC aO rfl n_isinstance PyProof.Rows.boot_isinstance (aa (pv 0) (aa (bz (v:=.ty "list") rfl n_list L2.boot_list rfl) ae))) (aC aO rfl n_isinstance PyProof.Rows.boot_isinstance (aa (pv 1) (aa (bz (v:=.ty "list") rfl n_list L2.boot_list rfl) ae))) (ar _))))) (ai (ax cH)) az) (ai (ax (bh (bA aU (aC bj rfl n_len PySem.boot_len (aa (pv 0) ae)) (aC bj rfl n_len PySem.boot_len (aa (pv 1) ae)) (ar _)) (bX (aC (iI rfl) rfl n_all L2.boot_all (aa (fC rfl (sQ (N':=["_law_one","_law_other"]) (js:=[none,none]) rfl rfl) (oH rfl n_zip (aa (pv 0) (aa (pv 1) ae))) (λ_ _ _ _=>(kO K rfl (n:=2) rfl (aJ (aE (i:=0) (show List.Nodup [("_law_one":Str),("_law_other":Str)] from by decide +kernel) rfl (Or.inl rfl) (.inr rfl)) (aJ (aE (i:=1) (show List.Nodup [("_law_one":Str),("_law_other":Str)] from by decide +kernel) rfl (Or.inl rfl) (.inr rfl)) cE)))) (λ_ _ _ _=>dc) (λ_ _ _ _=>(aA c__law_same (hr.mono (by omega)) rfl aw (aa (pv 0) (aa (pv 1) ae))))) ae))))))) az) (ai (ax (bh (bA aU (aC aO rfl n_isinstance PyProof.Rows.boot_isinstance (aa (pv 0) (aa (bz (v:=.ty "bool") rfl n_bool L2.boot_bool rfl) ae))) (aC aO rfl n_isinstance PyProof.Rows.boot_isinstance (aa (pv 1) (aa (bz (v:=.ty "bool") rfl n_bool L2.boot_bool rfl) ae))) (ar _)) (bX (bA (nI hr.units) (pv 0) (pv 1) (ar _))))))),?_⟩
 show bL _ _ _ [some u,some v] H
 have sq:∀(k:Sd) (a b:Addr) (us vs:List V) (ds rs:List PyData),iG k K H a us->iG k K H b vs->aY K H ds us->aY K H rs vs->PyData.canLayAll0 ds=true->PyData.canLayAll0 rs=true->qr L rs->rs.length<=10^6->us.length=vs.length->(∀ b H',(b=true↔ds=rs)->aB H H'->Q (.bl b) H') ->
   lj (xJ k k K a b) [none,none] (pH K 2 (ot (dU 0) (ot (dU 1) wd))) su (mE (ft K L) [] E0 (mF (qw 0) (mF (qw 1) uT))) [some (.ref a),some (.ref b)] (λx H1=>wX K [x] H1 Q) H:=by
  intro k a b us vs ds rs ha hb dd dr cl cr hs hl ln q
  have ul:=dd.length
  have vl:=dr.length
  refine jI (xs:=us) (ys:=vs) (λi zs H3=>aB H H3/\∃ bs:List Bool,zs=bs.map V.bl/\bs.length=i/\(bs.all id=true↔ds.take i=rs.take i)) ⟨aB.refl _,[],rfl,rfl,by simp⟩ (by omega) (Nat.le_trans (by omega) (show 10^6<=sizeLine by decide)) (λi zs H3 hi ⟨z1,bs,z2,z3,_⟩=>⟨lu ha z1,lu hb z1,by rw [z2,List.length_map,z3];exact Nat.le_refl _⟩) ?_ ?_
  ·rintro i x y zs H3 p3 hx hy ⟨s3,bs,rfl,bl,hbb⟩ hp3
   obtain⟨d1,e1,v1⟩:=dd.get hx
   obtain⟨r1,e2,v2⟩:=dr.get hy
   have s4:=ak (o:=.tup [x,y]) hp3
   show pH K 2 _ _ [none,none] _ _
   refine⟨p3,_,rfl,aQ.of ah,rfl,?_⟩
   generalize upd H3 p3 _=H4 at *
   k_data
   refine⟨True.intro,x,y,d1,r1,rfl,dv.same (s3.trans s4) _ v1,dv.same (s3.trans s4) _ v2,fg cl e1,fg cr e2,rW hs e2,λb H5 hb1 s5=>⟨(s3.trans s4).trans s5,bs++[b],by rw [List.map_append];rfl,by rw [List.length_append,bl];rfl,?_⟩⟩
   rw [List.all_append,Bool.and_eq_true,hbb,List.take_add_one,List.take_add_one,e1,e2]
   have l1:(ds.take i).length=(rs.take i).length:=by
    have:=(List.getElem?_eq_some_iff.mp e1).1
    have:=(List.getElem?_eq_some_iff.mp e2).1
    rw [List.length_take,List.length_take]
    omega
   constructor
   ·rintro⟨h1,h2⟩
    have:b=true:=by simpa using h2
    rw [h1,hb1.mp this]
   ·intro h
    obtain⟨h1,h2⟩:=List.append_inj h l1
    have:d1=r1:=by simpa using h2
    exact⟨h1,by simp [hb1.mpr this]⟩
  ·rintro zs H3 p3 ⟨s3,bs,rfl,bl,hbb⟩ hp3
   refine mS (bs:=bs) (aT.of ah) ?_
   rw [show us.length=ds.length from ul,List.take_length,show ds.length=rs.length by omega,List.take_length] at hbb
   exact q _ _ hbb (s3.trans (ak hp3))
 have flat:zS r->r.depth<=60->(i3 K [u,V.ty "bool"] H λx H1=>i3 K [v,V.ty "bool"] H1 λy H2=>jy x y=true/\if x=y then wY K false u v H2 Q else Q (V.bl false) H2):=by
  intro hf dp
  refine iM hu (iM hv ⟨rfl,?_⟩)
  have ef:=qT (d:=d) hf
  refine aD (λc=>?_) (λc=>?_)
  ·refine⟨d,r,hu,hv,ld,lr,Nat.le_trans (Nat.min_le_right _ _) dp,q _ H ?_ (aB.refl _)⟩
   rw [if_neg (by decide),<- ef]
   exact⟨λz=>⟨V.bl.inj c,z⟩,λz=>z.2⟩
  ·exact q false H ⟨nofun,λz=>absurd (by rw [z]) c⟩ (aB.refl _)
 k_data
 cases r with
 | none =>
  refine bp hv ⟨false,aG.mpr rfl,?_⟩
  rw [if_neg (by decide)]
  refine bN hv ⟨false,aG.mpr rfl,?_⟩
  rw [if_neg (by decide)]
  exact flat True.intro (by simp [PyData.depth])
 | bool y =>
  refine bp hv ⟨false,aG.mpr rfl,?_⟩
  rw [if_neg (by decide)]
  refine bN hv ⟨false,aG.mpr rfl,?_⟩
  rw [if_neg (by decide)]
  exact flat True.intro (by simp [PyData.depth])
 | int y =>
  refine bp hv ⟨false,aG.mpr rfl,?_⟩
  rw [if_neg (by decide)]
  refine bN hv ⟨false,aG.mpr rfl,?_⟩
  rw [if_neg (by decide)]
  exact flat True.intro (by simp [PyData.depth])
 | str y =>
  refine bp hv ⟨false,aG.mpr rfl,?_⟩
  rw [if_neg (by decide)]
  refine bN hv ⟨false,aG.mpr rfl,?_⟩
  rw [if_neg (by decide)]
  exact flat True.intro (by simp [PyData.depth])
 | list rs =>
  simp only [sT] at hs
  refine bp hv ⟨false,aG.mpr rfl,?_⟩
  rw [if_neg (by decide)]
  refine bN hv ⟨true,aG.mpr rfl,?_⟩
  rw [if_pos rfl]
  refine bp hu (bp hv ⟨rfl,?_⟩)
  refine aD (λc=>?_) (λc=>?_)
  ·exact q false H ⟨nofun,λz=>absurd (by rw [z]) c⟩ (aB.refl _)
  refine bN hu (bN hv ⟨rfl,?_⟩)
  refine aD (λc'=>?_) (λc'=>?_)
  ·exact q false H ⟨nofun,λz=>absurd (by rw [z]) c'⟩ (aB.refl _)
  obtain⟨ds,rfl⟩:=tQ (V.bl.inj (Classical.not_not.mp c'))
  obtain⟨pa,us,rfl,hSu,du⟩:=hu
  obtain⟨pb,vs,rfl,hSv,dw⟩:=hv
  have ul:=du.length
  have vl:=dw.length
  refine dz hSu (dz hSv ⟨rfl,?_⟩)
  refine aD (λc2=>?_) (λc2=>?_)
  ·have ln:us.length=vs.length:=by have:=V.int.inj c2;omega
   exact⟨pa,rfl,pb,rfl,.l,⟨_,hSu⟩,.l,⟨_,hSv⟩,sq .l pa pb us vs ds rs hSu hSv du dw (by simpa [PyData.canLay0] using ld) (by simpa [PyData.canLay0] using lr) hs.2 hs.1 ln λb H' hb s'=>q b H' (by rw [hb];exact⟨λz=>by rw [z],λz=>by injection z⟩) s'⟩
  ·refine q false H ⟨nofun,λz=>absurd ?_ c2⟩ (aB.refl _)
   injection z with z
   rw [ul,vl,z]
 | tuple rs =>
  simp only [sT] at hs
  refine bp hv ⟨true,aG.mpr rfl,?_⟩
  rw [if_pos rfl]
  refine bp hu (bp hv ⟨rfl,?_⟩)
  refine aD (λc=>?_) (λc=>?_)
  ·exact q false H ⟨nofun,λz=>absurd (by rw [z]) c⟩ (aB.refl _)
  refine bN hu (bN hv ⟨rfl,?_⟩)
  refine aD (λc'=>?_) (λc'=>?_)
  ·exact q false H ⟨nofun,λz=>absurd (by rw [z]) c'⟩ (aB.refl _)
  obtain⟨ds,rfl⟩:=ow (V.bl.inj (Classical.not_not.mp c))
  obtain⟨pa,us,rfl,hSu,du⟩:=hu
  obtain⟨pb,vs,rfl,hSv,dw⟩:=hv
  have ul:=du.length
  have vl:=dw.length
  refine fk hSu (fk hSv ⟨rfl,?_⟩)
  refine aD (λc2=>?_) (λc2=>?_)
  ·have ln:us.length=vs.length:=by have:=V.int.inj c2;omega
   exact⟨pa,rfl,pb,rfl,.t,⟨_,hSu⟩,.t,⟨_,hSv⟩,sq .t pa pb us vs ds rs hSu hSv du dw (by simpa [PyData.canLay0] using ld) (by simpa [PyData.canLay0] using lr) hs.2 hs.1 ln λb H' hb s'=>q b H' (by rw [hb];exact⟨λz=>by rw [z],λz=>by injection z⟩) s'⟩
  ·refine q false H ⟨nofun,λz=>absurd ?_ c2⟩ (aB.refl _)
   injection z with z
   rw [ul,vl,z]
 | _=>simp only [sT] at hs
theorem lY (D:av K mg "_law_same" (top 55)) (n_isinstance:mg "isinstance"=none) (n_bool:mg "bool"=none) (n_list:mg "list"=none) (n_tuple:mg "tuple"=none) (n_len:mg "len"=none) (n_zip:mg "zip"=none) (n_all:mg "all"=none):∀ L:Nat,Callee P w K mg base aM (L+1) "_law_same" ["_law_found","_law_due"] (ft K L)
 | 0=>pX D
 | L+1=>pY D (lY D n_isinstance n_bool n_list n_tuple n_len n_zip n_all L) n_isinstance n_bool n_list n_tuple n_len n_zip n_all
end
end K
namespace K
open PySem PySem.Spec PyProof.Rows L2
section
variable {P:Program} {w:World} {K:PySem.W.Frag} {mg:Str->Option Value} {base:Heap} {C:Addr}
theorem cj.kt {p:Addr} {n:Nat} {H H':Hp} (h:cj p H H') (t:Tp p n H):∀ a xs,aQ K H a xs->aQ K H' a xs:=by
 intro a xs z
 rcases z with (z | ⟨o,z⟩) | z
 ·exact .inl (.inl (h _ _ (t.ne z (by intro kvs c;cases c)) z))
 ·exact .inl (.inr ⟨o,h _ _ (t.ne z (by intro kvs c;cases c)) z⟩)
 ·exact .inr z
theorem cj.kl {p:Addr} {n:Nat} {H H':Hp} (h:cj p H H') (t:Tp p n H):∀ a xs,aT K H a xs->aT K H' a xs:=by
 intro a xs z
 rcases z with (z | ⟨o,z⟩) | z
 ·exact .inl (.inl (h _ _ (t.ne z (by intro kvs c;cases c)) z))
 ·exact .inl (.inr ⟨o,h _ _ (t.ne z (by intro kvs c;cases c)) z⟩)
 ·exact .inr z
theorem GV.bY {p:Addr} {n:Nat} {H H':Hp} {x:V} (g:GV K H x) (h:cj p H H') (t:Tp p n H):GV K H' x:=g.keep (h.kt t) (h.kl t)
theorem bG.bY {p:Addr} {n:Nat} {H H':Hp} {x:List V} (g:bG K H x) (h:cj p H H') (t:Tp p n H):bG K H' x:=g.keep (h.kt t) (h.kl t)
def vI (K:PySem.W.Frag):Sp:=λvs H Q _=>∃(p:Addr) (n:Nat),vs=[.ref p]/\Tp p n H/\n<=10^50/\∀ x H',cj p H H'->Tp p (n+1) H'->GV K H' x->Q x H'
theorem hJ:ay ["_law_tape_here","_law_some"] ["_law_tape_here"] (aj (top 56)):=c5
theorem wG (D:av K mg "_law_odd" (top 56)) (c__law_draw:Callee P w K mg base aM 1 "_law_draw" ["_law_tape_here","_law_many"] eJ) (n_len:mg "len"=none):Callee P w K mg base aM 2 "_law_odd" ["_law_tape_here"] (vI K):=by
 refine cO D hJ (λf cdv A outer s H vs Q E hr h=>?_)
 obtain⟨p,n,rfl,t,n9,q⟩:=h
 have nd:=hJ.nd
 refine⟨_,(@ag _ _ _ _ _ (@cT _ _ 1 _ _ _ _ nd rfl (Or.inl rfl) (@bW _ _ _ _ (@aa _ _ _ _ _ c9 (@aa _ _ _ _ _ cH (@aa _ _ _ _ _ cH (@aa _ _ _ _ _ af (@aa _ _ _ _ _ af (@aa _ _ _ _ _ (jX gT af) (@aa _ _ _ _ _ (@ao _ _ _ _ _ _ _ _ wK af af) (@aa _ _ _ _ _ a9 (@aa _ _ _ _ _ a9 (@aa _ _ _ _ _ (@aF _ _ _ _ _ ae) (@aa _ _ _ _ _ (@bW _ _ _ _ ae) (@aa _ _ _ _ _ (@aF _ _ _ _ _ (@aa _ _ _ _ _ af ae (by rfl))) (@aa _ _ _ _ _ (@bW _ _ _ _ (@aa _ _ _ _ _ af ae (by rfl))) (@aa _ _ _ _ _ (@aF _ _ _ _ _ (@aa _ _ _ _ _ a9 ae (by rfl))) (@aa _ _ _ _ _ (@aF _ _ _ _ _ (@aa _ _ _ _ _ (@aF _ _ _ _ _ ae) (@aa _ _ _ _ _ (@aF _ _ _ _ _ ae) ae (by rfl)) (by rfl))) (@aa _ _ _ _ _ (@aF _ _ _ _ _ (@aa _ _ _ _ _ af (@aa _ _ _ _ _ af ae (by rfl)) (by rfl))) ae (by rfl)) (by rfl)) (by rfl)) (by rfl)) (by rfl)) (by rfl)) (by rfl)) (by rfl)) (by rfl)) (by rfl)) (by rfl)) (by rfl)) (by rfl)) (by rfl)) (by rfl)) (by rfl))) (by rfl) (by first | exact .inl rfl | exact .inr rfl | assumption)) (@ai _ _ _ (@ax _ _ _ _ (@aH _ _ _ _ _ _ _ cw (pv 1) (@aA _ _ _ _ _ _ _ _ _ _ _ _ c__law_draw (hr.mono (by decide)) rfl aw (@aa _ _ _ _ _ (pv 0) (@aa _ _ _ _ _ (@aC _ _ _ _ _ _ _ _ _ bj rfl n_len PySem.boot_len (@aa _ _ _ _ _ (pv 1) ae (by rfl)) (by decide) (by decide) (by rfl) (by rfl)) ae (by rfl)) (by rfl)) (by decide) (by rfl) (by rfl)) (λ_ _=>rfl))))),?_⟩
 show bL _ _ _ [some (.ref p),none] H
 k_data
 refine⟨by show 0<=sizeLine;decide,λp1 hp1=>?_⟩
 have s1:=ak (o:=.tup []) hp1
 have g1:GV K (upd H p1 (.tup [])) (.ref p1):=GV.tup (aQ.of ah) bG.nil
 have S:=s1
 generalize upd H p1 _=H1 at *
 refine⟨by show 0<=sizeLine;decide,λp2 hp2=>?_⟩
 have s2:=ak (o:=.lst []) hp2
 have g2:GV K (upd H1 p2 (.lst [])) (.ref p2):=GV.lst (aT.of ah) bG.nil
 replace g1:=g1.same s2
 replace S:=S.trans s2
 generalize upd H1 p2 _=H2 at *
 refine⟨by show 1<=sizeLine;decide,λp3 hp3=>?_⟩
 have s3:=ak (o:=.tup [V.int 1]) hp3
 have g3:GV K (upd H2 p3 (.tup [V.int 1])) (.ref p3):=GV.tup (aQ.of ah) (bG.cons (GV.int (by decide) (by decide)) bG.nil)
 replace g1:=g1.same s3
 replace g2:=g2.same s3
 replace S:=S.trans s3
 generalize upd H2 p3 _=H3 at *
 refine⟨by show 1<=sizeLine;decide,λp4 hp4=>?_⟩
 have s4:=ak (o:=.lst [V.int 0]) hp4
 have g4:GV K (upd H3 p4 (.lst [V.int 0])) (.ref p4):=GV.lst (aT.of ah) (bG.cons (GV.int (by decide) (by decide)) bG.nil)
 replace g1:=g1.same s4
 replace g2:=g2.same s4
 replace g3:=g3.same s4
 replace S:=S.trans s4
 generalize upd H3 p4 _=H4 at *
 refine⟨by show 1<=sizeLine;decide,λp5 hp5=>?_⟩
 have s5:=ak (o:=.tup [V.str "nought"]) hp5
 have g5:GV K (upd H4 p5 (.tup [V.str "nought"])) (.ref p5):=GV.tup (aQ.of ah) (bG.cons (GV.str (by decide +kernel)) bG.nil)
 replace g1:=g1.same s5
 replace g2:=g2.same s5
 replace g3:=g3.same s5
 replace g4:=g4.same s5
 replace S:=S.trans s5
 generalize upd H4 p5 _=H5 at *
 refine⟨by show 0<=sizeLine;decide,λp6 hp6=>?_⟩
 have s6:=ak (o:=.tup []) hp6
 have g6:GV K (upd H5 p6 (.tup [])) (.ref p6):=GV.tup (aQ.of ah) bG.nil
 replace g1:=g1.same s6
 replace g2:=g2.same s6
 replace g3:=g3.same s6
 replace g4:=g4.same s6
 replace g5:=g5.same s6
 replace S:=S.trans s6
 generalize upd H5 p6 _=H6 at *
 refine⟨by show 0<=sizeLine;decide,λp7 hp7=>?_⟩
 have s7:=ak (o:=.tup []) hp7
 have g7:GV K (upd H6 p7 (.tup [])) (.ref p7):=GV.tup (aQ.of ah) bG.nil
 replace g1:=g1.same s7
 replace g2:=g2.same s7
 replace g3:=g3.same s7
 replace g4:=g4.same s7
 replace g5:=g5.same s7
 replace g6:=g6.same s7
 replace S:=S.trans s7
 generalize upd H6 p7 _=H7 at *
 refine⟨by show 2<=sizeLine;decide,λp8 hp8=>?_⟩
 have s8:=ak (o:=.tup [V.ref p6,V.ref p7]) hp8
 have g8:GV K (upd H7 p8 (.tup [V.ref p6,V.ref p7])) (.ref p8):=GV.tup (aQ.of ah) (bG.cons (g6.same s8) (bG.cons (g7.same s8) bG.nil))
 replace g1:=g1.same s8
 replace g2:=g2.same s8
 replace g3:=g3.same s8
 replace g4:=g4.same s8
 replace g5:=g5.same s8
 replace g6:=g6.same s8
 replace g7:=g7.same s8
 replace S:=S.trans s8
 generalize upd H7 p8 _=H8 at *
 refine⟨by show 2<=sizeLine;decide,λp9 hp9=>?_⟩
 have s9:=ak (o:=.tup [V.int 0,V.int 0]) hp9
 have g9:GV K (upd H8 p9 (.tup [V.int 0,V.int 0])) (.ref p9):=GV.tup (aQ.of ah) (bG.cons (GV.int (by decide) (by decide)) (bG.cons (GV.int (by decide) (by decide)) bG.nil))
 replace g1:=g1.same s9
 replace g2:=g2.same s9
 replace g3:=g3.same s9
 replace g4:=g4.same s9
 replace g5:=g5.same s9
 replace g6:=g6.same s9
 replace g7:=g7.same s9
 replace g8:=g8.same s9
 replace S:=S.trans s9
 generalize upd H8 p9 _=H9 at *
 refine⟨by show 16<=sizeLine;decide,λpa hpa=>?_⟩
 have gl:bG K H9 [V.bo,V.bl true,V.bl false,V.int 0,V.int 1,V.int (-1),V.int 100000000000000000000000000000000000000000000000000000000000,V.str "none",V.str "",V.ref p1,V.ref p2,V.ref p3,V.ref p4,V.ref p5,V.ref p8,V.ref p9]:=.cons .bo (.cons .bl (.cons .bl (.cons (.int (by decide) (by decide)) (.cons (.int (by decide) (by decide)) (.cons (.int (by decide) (by decide)) (.cons (.int (by decide) (by decide)) (.cons (.str (by decide +kernel)) (.cons (.str (by decide +kernel)) (.cons g1 (.cons g2 (.cons g3 (.cons g4 (.cons g5 (.cons g8 (.cons g9 .nil)))))))))))))))
 have sa:=ak (o:=.lst [V.bo,V.bl true,V.bl false,V.int 0,V.int 1,V.int (-1),V.int 100000000000000000000000000000000000000000000000000000000000,V.str "none",V.str "",V.ref p1,V.ref p2,V.ref p3,V.ref p4,V.ref p5,V.ref p8,V.ref p9]) hpa
 have ea:upd H9 pa (.lst [V.bo,V.bl true,V.bl false,V.int 0,V.int 1,V.int (-1),V.int 100000000000000000000000000000000000000000000000000000000000,V.str "none",V.str "",V.ref p1,V.ref p2,V.ref p3,V.ref p4,V.ref p5,V.ref p8,V.ref p9]) pa=some (.lst [V.bo,V.bl true,V.bl false,V.int 0,V.int 1,V.int (-1),V.int 100000000000000000000000000000000000000000000000000000000000,V.str "none",V.str "",V.ref p1,V.ref p2,V.ref p3,V.ref p4,V.ref p5,V.ref p8,V.ref p9]):=ah
 have ln:([V.bo,V.bl true,V.bl false,V.int 0,V.int 1,V.int (-1),V.int 100000000000000000000000000000000000000000000000000000000000,V.str "none",V.str "",V.ref p1,V.ref p2,V.ref p3,V.ref p4,V.ref p5,V.ref p8,V.ref p9]).length=16:=rfl
 generalize [V.bo,V.bl true,V.bl false,V.int 0,V.int 1,V.int (-1),V.int 100000000000000000000000000000000000000000000000000000000000,V.str "none",V.str "",V.ref p1,V.ref p2,V.ref p3,V.ref p4,V.ref p5,V.ref p8,V.ref p9]=L at *
 replace gl:=gl.same sa
 have Sa:=S.trans sa
 generalize upd H9 pa _=Ha at *
 k_data
 refine dz (aT.of ea) ?_
 rw [ln]
 have ta:=t.same Sa
 refine⟨p,16,n,rfl,ta,by omega,by decide,by decide,λr Hb r0 r1 ob tb=>?_⟩
 have npa:pa≠p:=ta.ne ea (by intro kvs c;cases c)
 have eb:Hb pa=some (.lst L):=by rw [ob pa npa];exact ea
 exact cD (aT.of eb) r0 (by rw [ln];exact r1) λv hv=>q v Hb ((cj.of Sa).trans ob.bY) tb ((bG.bY gl ob.bY ta).all v hv)
def eh (K:PySem.W.Frag):Sp:=λvs H Q _=>∃(p pr:Addr) (n:Nat) (us:List V),vs=[.ref p,.ref pr]/\Tp p n H/\n<=10^49/\aQ K H pr us/\bG K H us/\us.length<=1000/\∀ x H',cj p H H'->Tp p (n+5) H'->GV K H' x->Q x H'
theorem qF {H8:Hp} {pr:Addr} {us:List V} {x:V} {at' lo:Int} {Q:VK} (hS8:aQ K H8 pr us) (g8:bG K H8 us) (gx8:GV K H8 x) (ul:us.length<=1000) (q:∀ y H',aB H8 H'->GV K H' y->Q y H'):w6 K (V.ref pr) none (some at') H8 λx_1 H1=>[x].length<=sizeLine/\∀ p_1,H1 p_1=none->rQ K x_1 (V.ref p_1) (upd H1 p_1 (HO.tup [x])) λx_2 H1=>w6 K (V.ref pr) (some lo) none H1 λy H2=>rQ K x_2 y H2 Q:=by
 have cz:∀ lo hi,(eQ us lo hi).length<=1000:=λlo hi=>Nat.le_trans (cp _ _ _) ul
 have sz:3000<=sizeLine:=by decide
 have c1:=cz none (some at')
 have c2:=cz (some lo) none
 refine⟨pr,us,rfl,hS8,λp1 H1 s1 h1=>⟨by show 1<=sizeLine;decide,λp2 hp2=>?_⟩⟩
 have s2:=ak (o:=.tup [x]) hp2
 refine⟨p1,p2,_,_,rfl,rfl,h1.same s2,aQ.of ah,by rw [List.length_singleton];omega,λp3 H3 s3 h3=>⟨pr,us,rfl,hS8.same (s1.trans (s2.trans s3)),λp4 H4 s4 h4=>⟨p3,p4,_,_,rfl,rfl,h3.same s4,h4,by rw [List.length_append,List.length_singleton];omega,λp5 H5 s5 h5=>?_⟩⟩⟩
 have S:=s1.trans (s2.trans (s3.trans (s4.trans s5)))
 exact q _ _ S (GV.tup h5 (.app (.app ((g8.same S).cut _ _) (.cons (gx8.same S) .nil)) ((g8.same S).cut _ _)))
def Ad (K:PySem.W.Frag) (H:Hp) (p pr:Addr) (n:Nat) (at':Int) (x:V) (p8:Addr) (σ':L2.St) (H':Hp):Prop:=∃ po ys,σ'=[some (.ref p),some (.ref pr),some (.int at'),some x,some (.ref p8),some (.ref po)]/\H' po=some (.lst ys)/\bG K H' ys/\ys.length=5/\GV K H' x/\cj p H H'/\Tp p (n+4) H'
theorem dY:ay ["_law_tape_here","_law_row","_law_at","_law_odd_here","_law_other","_law_some"] ["_law_tape_here","_law_row"] (aj (top 57)):=c5
theorem ny (D:av K mg "_law_bent_row" (top 57)) (c__law_draw:Callee P w K mg base aM 1 "_law_draw" ["_law_tape_here","_law_many"] eJ) (c__law_odd:Callee P w K mg base aM 2 "_law_odd" ["_law_tape_here"] (vI K)) (n_len:mg "len"=none) (n_isinstance:mg "isinstance"=none) (n_list:mg "list"=none):Callee P w K mg base aM 3 "_law_bent_row" ["_law_tape_here","_law_row"] (eh K):=by
 refine cO D dY (λf cdv A outer s H vs Q E hr h=>?_)
 obtain⟨p,pr,n,us,rfl,t,n9,hS,g,ul,q⟩:=h
 have nd:=dY.nd
 refine⟨_,(@ag _ _ _ _ _ (@cT _ _ 2 _ _ _ _ nd rfl (Or.inl rfl) (@aA _ _ _ _ _ _ _ _ _ _ _ _ c__law_draw (hr.mono (by decide)) rfl aw (@aa _ _ _ _ _ (pv 0) (@aa _ _ _ _ _ (@ao _ _ _ _ _ _ _ _ aX (@aC _ _ _ _ _ _ _ _ _ bj rfl n_len PySem.boot_len (@aa _ _ _ _ _ (pv 1) ae (by rfl)) (by decide) (by decide) (by rfl) (by rfl)) af) ae (by rfl)) (by rfl)) (by decide) (by rfl) (by rfl)) (by rfl) (by first | exact .inl rfl | exact .inr rfl | assumption)) (@ag _ _ _ _ _ (@cT _ _ 3 _ _ _ _ nd rfl (Or.inl rfl) (@aH _ _ _ _ _ _ _ cw (@bW _ _ _ _ (@aa _ _ _ _ _ (@aA _ _ _ _ _ _ _ _ _ _ _ _ c__law_odd (hr.mono (by decide)) rfl aw (@aa _ _ _ _ _ (pv 0) ae (by rfl)) (by decide) (by rfl) (by rfl)) (@aa _ _ _ _ _ (@aA _ _ _ _ _ _ _ _ _ _ _ _ c__law_draw (hr.mono (by decide)) rfl aw (@aa _ _ _ _ _ (pv 0) (@aa _ _ _ _ _ af ae (by rfl)) (by rfl)) (by decide) (by rfl) (by rfl)) (@aa _ _ _ _ _ cH ae (by rfl)) (by rfl)) (by rfl))) (@aA _ _ _ _ _ _ _ _ _ _ _ _ c__law_draw (hr.mono (by decide)) rfl aw (@aa _ _ _ _ _ (pv 0) (@aa _ _ _ _ _ af ae (by rfl)) (by rfl)) (by decide) (by rfl) (by rfl)) (λ_ _=>rfl)) (by rfl) (by first | exact .inl rfl | exact .inr rfl | assumption)) (@ag _ _ _ _ _ (@cT _ _ 4 _ _ _ _ nd rfl (Or.inl rfl) (@ao _ _ _ _ _ _ _ _ cZ (bZ c6 (pv 1) cM (cF (pv 2))) (bZ c6 (pv 1) (cF (@ao _ _ _ _ _ _ _ _ aX (pv 2) af)) cM)) (by rfl) (by first | exact .inl rfl | exact .inr rfl | assumption)) (@ag _ _ _ _ _ (bT (@aL _ _ _ _ _ _ _ _ (aP (@aC _ _ _ _ _ _ _ _ _ aO rfl n_isinstance PyProof.Rows.boot_isinstance (@aa _ _ _ _ _ (pv 1) (@aa _ _ _ _ _ (bz (v:=.ty "list") rfl n_list L2.boot_list rfl) ae (by rfl)) (by rfl)) (by decide) (by decide) (by rfl) (by rfl)) (λ_=>rfl)) rP (@ai _ _ _ (@cT _ _ 5 _ _ _ _ nd rfl (Or.inl rfl) (@bW _ _ _ _ (@aa _ _ _ _ _ (@ao _ _ _ _ _ _ _ _ cZ (@ao _ _ _ _ _ _ _ _ cZ (bZ c6 (pv 1) cM (cF (pv 2))) (@aF _ _ _ _ _ (@aa _ _ _ _ _ (pv 3) ae (by rfl)))) (bZ c6 (pv 1) (cF (pv 2)) cM)) (@aa _ _ _ _ _ (@ao _ _ _ _ _ _ _ _ cZ (@ao _ _ _ _ _ _ _ _ cZ (bZ c6 (pv 1) cM (cF (pv 2))) (@aF _ _ _ _ _ (@aa _ _ _ _ _ (pv 3) ae (by rfl)))) (bZ c6 (pv 1) (cF (@ao _ _ _ _ _ _ _ _ aX (pv 2) af)) cM)) (@aa _ _ _ _ _ (pv 4) (@aa _ _ _ _ _ (ux (pv 1) (cF (jX gT af))) (@aa _ _ _ _ _ (@cJ _ _ _ _ _ _ _ _ _ fP rfl n_list L2.boot_list (@aa _ _ _ _ _ (pv 1) ae (by rfl)) (by decide) (by decide) (by rfl) (by rfl)) ae (by rfl)) (by rfl)) (by rfl)) (by rfl)) (by rfl))) (by rfl) (by first | exact .inl rfl | exact .inr rfl | assumption))))) (@ai _ _ _ (@ax _ _ _ _ (@aH _ _ _ _ _ _ _ cw (@ao _ _ _ _ _ _ _ _ wJ (pv 5) (@bW _ _ _ _ (@aa _ _ _ _ _ (pv 3) ae (by rfl)))) (@aA _ _ _ _ _ _ _ _ _ _ _ _ c__law_draw (hr.mono (by decide)) rfl aw (@aa _ _ _ _ _ (pv 0) (@aa _ _ _ _ _ af ae (by rfl)) (by rfl)) (by decide) (by rfl) (by rfl)) (λ_ _=>rfl)))))))),?_⟩
 show bL _ _ _ [some (.ref p),some (.ref pr),none,none,none,none] H
 have cz:∀ lo hi,(eQ us lo hi).length<=1000:=λlo hi=>Nat.le_trans (cp _ _ _) ul
 have sz:3000<=sizeLine:=by decide
 k_data
 refine fk hS ⟨_,rfl,?_⟩
 refine⟨p,_,n,rfl,t,by omega,by omega,by omega,λat' H1 a0 a1 o1 t1=>?_⟩
 have O1:=o1.bY
 refine⟨p,n+1,rfl,t1,by omega,λxo H2 O2' t2 go=>?_⟩
 have O2:=O1.trans O2'
 refine⟨p,99,n+2,rfl,t2,by omega,by decide,by decide,λr3 H3 r30 r31 o3 t3=>?_⟩
 have O3:=O2.trans o3.bY
 have go3:=GV.bY go o3.bY t2
 refine⟨by show 3<=sizeLine;decide,λp4 hp4=>?_⟩
 have s4:=ak (o:=.lst [xo,V.int r3,V.bl true]) hp4
 have e4:upd H3 p4 (.lst [xo,V.int r3,V.bl true]) p4=some (.lst [xo,V.int r3,V.bl true]):=ah
 have gl:bG K (upd H3 p4 (.lst [xo,V.int r3,V.bl true])) [xo,V.int r3,V.bl true]:=.cons (go3.same s4) (.cons (.int (by omega) (by omega)) (.cons .bl .nil))
 generalize upd H3 p4 _=H4 at *
 have O4:=O3.trans (cj.of s4)
 have t4:=t3.same s4
 refine⟨p,3,n+3,rfl,t4,by omega,by decide,by decide,λr5 H5 r50 r51 o5 t5=>?_⟩
 have O5:=O4.trans o5.bY
 have e5:H5 p4=_:=(o5 p4 (t4.ne e4 (by intro kvs c;cases c))).trans e4
 refine cD (aT.of e5) r50 (by show r5<(3:Int);exact r51) λx hx=>?_
 have gx:GV K H5 x:=(bG.bY gl o5.bY t4).all x hx
 have hS5:=O5.kt t pr us hS
 have g5:=bG.bY g O5 t
 refine⟨_,rfl,pr,us,rfl,hS5,λp6 H6 s6 h6=>⟨_,rfl,pr,us,rfl,hS5.same s6,λp7 H7 s7 h7=>?_⟩⟩
 have S7:=s6.trans s7
 refine⟨p6,p7,_,_,rfl,rfl,h6.same s7,h7,by have:=cz none (some at');have:=cz (some (at'+1)) none;omega,λp8 H8 s8 h8=>?_⟩
 have S8:=S7.trans s8
 have g8:=g5.same S8
 have go8:GV K H8 (.ref p8):=GV.tup h8 (.app (g8.cut _ _) (g8.cut _ _))
 have hS8:=hS5.same S8
 have gx8:=gx.same S8
 refine⟨λσ' H'=>Ad K H p pr n at' x p8 σ' H',?_,?_⟩
 ·k_data
  refine bN (d:=.tuple _) ⟨pr,us,rfl,hS8,(g8.choose_spec).1⟩ ⟨false,aG.mpr rfl,?_⟩
  rw [if_neg (by decide)]
  refine qF hS8 g8 gx8 ul λy1 Ha sa ga=>?_
  refine qF (hS8.same sa) (g8.same sa) (gx8.same sa) ul λy2 Hb sb gb=>?_
  have Sb:=sa.trans sb
  unfold vS
  k_data
  refine⟨us,hS8.same Sb,λpc hpc=>?_⟩
  have sc:=ak (o:=.tup us.reverse) hpc
  have gc:GV K (upd Hb pc (.tup us.reverse)) (.ref pc):=GV.tup (aQ.of ah) ((g8.same (Sb.trans sc)).rev)
  generalize upd Hb pc _=Hc at *
  have Sc:=Sb.trans sc
  refine⟨us,.inr (hS8.same Sc),λpd hpd=>?_⟩
  have sd:=ak (o:=.lst us) hpd
  have gd':GV K (upd Hc pd (.lst us)) (.ref pd):=GV.lst (aT.of ah) (g8.same (Sc.trans sd))
  generalize upd Hc pd _=Hd at *
  have Sd:=Sc.trans sd
  refine⟨by show 5<=sizeLine;decide,λpe hpe=>?_⟩
  have se:=ak (o:=.lst [y1,y2,V.ref p8,V.ref pc,V.ref pd]) hpe
  have Se:=Sd.trans se
  refine⟨pe,_,rfl,ah,?_,rfl,gx8.same Se,?_,?_⟩
  ·exact .cons (ga.same (sb.trans (sc.trans (sd.trans se)))) (.cons (gb.same (sc.trans (sd.trans se))) (.cons (go8.same Se) (.cons (gc.same (sd.trans se)) (.cons (gd'.same se) .nil))))
  ·exact O5.trans (cj.of (S8.trans Se))
  ·exact t5.same (S8.trans Se)
 ·rintro σ' H9 ⟨po,ys,rfl,e9,g9,l9,gx9,O9,t9⟩
  k_data
  refine⟨by show 1<=sizeLine;decide,λpb hpb=>?_⟩
  have sb:=ak (o:=.lst [x]) hpb
  refine⟨po,pb,_,_,rfl,rfl,sb _ _ e9,ah,Nat.le_trans (show ys.length+1<=6 by omega) (by decide),λpd hpd=>?_⟩
  have sd:=ak (o:=.lst (ys++[x])) hpd
  have ed:upd (upd H9 pb (.lst [x])) pd (.lst (ys++[x])) pd=some (.lst (ys++[x])):=ah
  generalize upd (upd H9 pb (.lst [x])) pd _=Hd at *
  have Sd:=sb.trans sd
  have td:=t9.same Sd
  have gd':bG K Hd (ys++[x]):=.app (g9.same Sd) (.cons (gx9.same Sd) .nil)
  refine⟨p,6,n+4,rfl,td,by omega,by decide,by decide,λr6 He r60 r61 oe te=>?_⟩
  have ee:He pd=_:=(oe pd (td.ne ed (by intro kvs c;cases c))).trans ed
  exact cD (aT.of ee) r60 (by rw [List.length_append,List.length_singleton,l9];exact r61) λv hv=>q v He ((O9.trans (cj.of Sd)).trans oe.bY) te ((bG.bY gd' oe.bY td).all v hv)
theorem lK {H:Hp}:∀{ns:List Int} {ds:List V},aY K H (ns.map PyData.int) ds->ds=ns.map V.int
 | [],_,h=>h
 | n::ns,_,⟨x,r,e,h,t⟩=>by
  subst e
  rw [lK t,show x=V.int n from h]
  rfl
theorem Tp.mono {p:Addr} {n m:Nat} {H:Hp} (h:Tp p n H) (l:n<=m):Tp p m H:=by
 obtain⟨a,i,j,ns,h1,h2,h3,h4,h5⟩:=h
 exact⟨a,i,j,ns,h1,h2,h3,h4,by omega⟩
theorem dv.bY {p:Addr} {n:Nat} {H H':Hp} {d:PyData} {x:V} (h:dv K H d x) (o:cj p H H') (t:Tp p n H):dv K H' d x:=dv.gX (o.kt t) (o.kl t) d h
theorem oj {x q n k:Nat} (q1:1<=q) (h:k∈Num.eA x q n):k<q:=by
 unfold Num.eA at h
 obtain⟨i,_,rfl⟩:=List.mem_map.mp h
 exact Nat.mod_lt _ q1
theorem tK {x:Nat} {y:Int × Int} (y0:1<=y.1) (y1:y.1<=10^9):gd (dQ x y):=by
 unfold dQ
 simp only [gd,iy,and_true]
 refine⟨⟨by omega,by omega⟩,cY.mpr λd hd=>?_⟩
 obtain⟨i,hi,rfl⟩:=List.mem_map.mp hd
 obtain⟨k,hk,rfl⟩:=List.mem_map.mp hi
 have:=oj (show 1<=y.1.toNat by omega) hk
 simp only [gd]
 omega
theorem fU {x e:Nat} {pl:List (Int × Int)} (h:Num.Part e pl) (e1:1<=e) (e9:e<=10^9):iy (pl.map (dQ x)):=cY.mpr λd hd=>by
 obtain⟨y,hy,rfl⟩:=List.mem_map.mp hd
 have h2:=(h.ok y hy).1.two
 have h3:=Num.bP hy (h.ok y hy).2.1
 rw [h.prod] at h3
 have:=Int.le_of_dvd (by omega) h3
 exact tK (by omega) (by omega)
def ik (K:PySem.W.Frag):Sp:=λvs H Q _=>∃(p:Addr) (v:V) (n x e:Nat) (pl:List (Int × Int)),vs=[.ref p,v]/\Tp p n H/\n<=10^48/\dv K H (.tuple (pl.map (dQ x))) v/\Num.Part e pl/\pl.length<=12/\e<=10^9/\1<=e/\∀ y H',cj p H H'->Tp p (n+20) H'->GV K H' y->Q y H'
def zP (K:PySem.W.Frag) (H:Hp) (p pv pd:Addr) (at' q:Int) (n:Nat) (σ':L2.St) (H':Hp):Prop:=∃ one,σ'=[some (.ref p),some (.ref pv),some (.int at'),some (.int q),some (.ref pd),some one]/\GV K H' one/\cj p H H'/\Tp p n H'
theorem df:ay ["_law_tape_here","_law_parts","_law_at","_law_q","_law_digits_here","_law_one"] ["_law_tape_here","_law_parts"] (aj (top 58)):=c5
theorem kF (D:av K mg "_law_bent_parts" (top 58)) (c__law_draw:Callee P w K mg base aM 1 "_law_draw" ["_law_tape_here","_law_many"] eJ) (c__law_bent_row:Callee P w K mg base aM 3 "_law_bent_row" ["_law_tape_here","_law_row"] (eh K)) (n_len:mg "len"=none):Callee P w K mg base aM 4 "_law_bent_parts" ["_law_tape_here","_law_parts"] (ik K):=by
 refine cO D df (λf cdv A outer s H vs Q E hr h=>?_)
 obtain⟨p,v,n,x,e,pl,rfl,t,n9,hv,hpl,l12,e9,e1,q⟩:=h
 have nd:=df.nd
 refine⟨_,(ag (aL (PW.pt (iZ (aq (nI hr.units) (pv 1) (aF ae) (ar _)) (gO (aq aU (bF c__law_draw hr aw (aa (pv 0) (aa af ae))) af (ar _))))) (ai (ax (bF c__law_bent_row hr aw (aa (pv 0) (aa (pv 1) ae))))) az) (ag (bV (i:=2) nd (bF c__law_draw hr aw (aa (pv 0) (aa (aC bj rfl n_len PySem.boot_len (aa (pv 1) ae)) ae)))) (ag (eT (aH aI (pv 1) (pv 2) (λ_ _=>rfl)) (eF (n:=2) rfl (aJ (aE (i:=3) nd rfl (Or.inl rfl) (.inr rfl)) (aJ (aE (i:=4) nd rfl (Or.inl rfl) (.inr rfl)) cE)))) (ag (bV (i:=5) nd (bF c__law_bent_row hr aw (aa (pv 0) (aa (aH aI (pv 1) (pv 2) (λ_ _=>rfl)) ae)))) (ag (bT (aL (aq aU (bF c__law_draw hr aw (aa (pv 0) (aa af ae))) af (ar _)) (ai (bV (i:=5) nd (aF (aa (pv 3) (aa (bF c__law_bent_row hr aw (aa (pv 0) (aa (pv 4) ae))) ae))))) az)) (ag (bT (aL (PW.pt (cn (aq (rB hr.units) (pv 4) (aF ae) (ar _)) (cf (aq aU (bF c__law_draw hr aw (aa (pv 0) (aa af ae))) af (ar _))))) (ai (bV (i:=5) nd (aF (aa (pv 3) (aa (ao cZ (bZ c6 (pv 4) cM (cF (jX gT af))) (aF (aa (ao aK (ao aX (aH aI (pv 4) (jX gT af) (λ_ _=>rfl)) af) (pv 3)) ae))) ae))))) az)) (ai (ax (ao cZ (ao cZ (bZ c6 (pv 1) cM (cF (pv 2))) (aF (aa (pv 5) ae))) (bZ c6 (pv 1) (cF (ao aX (pv 2) af)) cM)))))))))),?_⟩
 show bL _ _ _ [some (.ref p),some v,none,none,none,none] H
 have hv':=hv
 obtain⟨pv,us,rfl,hS,hd⟩:=hv
 have ul:us.length=pl.length:=by rw [hd.length,List.length_map]
 have gu:bG K H us:=⟨_,hd,fU hpl e1 e9⟩
 have at_:∀{k:Nat},k<us.length->∃(pr pd:Addr) (q:Int) (ds:List Int),us[k]?=some (.ref pr)/\aQ K H pr [.int q,.ref pd]/\aQ K H pd (ds.map V.int)/\ds≠[]/\ds.length<=30/\2<=q/\q<=10^9/\(∀ i∈ds,0<=i/\i<q):=by
  intro k hk
  have hx:=List.getElem?_eq_getElem hk
  obtain⟨d,ed,hv⟩:=hd.get hx
  rw [List.getElem?_map] at ed
  obtain⟨y,hy,rfl⟩:=Option.map_eq_some_iff.mp ed
  obtain⟨pm,t1,t30⟩:=hpl.ok y (List.mem_of_getElem? hy)
  have h2:=pm.two
  have h3:=Num.bP (List.mem_of_getElem? hy) t1
  rw [hpl.prod] at h3
  have h4:=Int.le_of_dvd (by omega) h3
  obtain⟨pr,x1,x2,er,tr,d1,d2⟩:=wa hv
  cases d1
  obtain⟨pd,xs,rfl,td,dx⟩:=d2
  refine⟨pr,pd,y.1,(Num.eA x y.1.toNat y.2.toNat).map λd:Nat=>(d:Int),by rw [hx,er],tr,?_,?_,?_,h2,by omega,λi hi=>?_⟩
  ·rw [<- lK dx];exact td
  ·intro z
   have:=congrArg List.length z
   rw [List.length_map,Num.dS,List.length_nil] at this
   omega
  ·rw [List.length_map,Num.dS];omega
  ·obtain⟨j,hj,rfl⟩:=List.mem_map.mp hi
   have:=oj (show 1<=y.1.toNat by omega) hj
   omega
 have row:∀{H2:Hp} {n2:Nat} {E':XK} {pr:Addr} {xs:List V} {Q':VK},Tp p n2 H2->n2<=10^49->aQ K H2 pr xs->bG K H2 xs->xs.length<=1000->(∀ y H',cj p H2 H'->Tp p (n2+5) H'->GV K H' y->Q' y H')->eh K [.ref p,.ref pr] H2 Q' E':=λh1 h2 h3 h4 h5 h6=>⟨p,_,_,_,rfl,h1,h2,h3,h4,h5,h6⟩
 k_data
 refine⟨by show 0<=sizeLine;decide,λp1 hp1=>?_⟩
 have s1:=ak (o:=.tup []) hp1
 have O1:cj p H (upd H p1 (.tup [])):=cj.of s1
 have t1:=t.same s1
 refine⟨_,_,dv.same s1 _ hv',dv.tup (ds:=[]) ah rfl,iy.lay _ (fU hpl e1 e9),rfl,Nat.le_trans (Nat.min_le_right _ _) (by decide),_,rfl,?_⟩
 generalize upd H p1 _=H1 at *
 have fin:∀{H2:Hp} {n2:Nat} {E':XK},cj p H H2->Tp p n2 H2->n2<=n+1->eh K [.ref p,.ref pv] H2 Q E':=λO2 t2 hn=>row t2 (by omega) (O2.kt t _ _ hS) (bG.bY gu O2 t) (by omega) λy H' O' t' g'=>q y H' (O2.trans O') (t'.mono (by omega)) g'
 refine aD (λ_=>fin O1 t1 (by omega)) (λne=>?_)
 refine⟨p,3,n,rfl,t1,by omega,by decide,by decide,λr2 H2 r20 r21 o2 t2=>⟨rfl,?_⟩⟩
 have O2:=O1.trans o2.bY
 refine aD (λ_=>fin O2 t2 (by omega)) (λ_=>?_)
 have ul0:0<us.length:=by
  rcases Nat.eq_zero_or_pos us.length with z | z
  ·refine absurd ?_ ne
   have:pl=[]:=List.length_eq_zero_iff.mp (by omega)
   rw [this]
   rfl
  ·exact z
 refine fk (O2.kt t _ _ hS) ⟨p,_,n+1,rfl,t2,by omega,by omega,by omega,λat' H3 a0 a1 o3 t3=>?_⟩
 have O3:=O2.trans o3.bY
 obtain⟨an,rfl⟩:∃ k:Nat,at'=k:=⟨at'.toNat,by omega⟩
 obtain⟨pr,pd,qq,ds,hx,tr,td,dne,d30,q2,q9,hds⟩:=at_ (show an<us.length by omega)
 refine⟨pv,us,_,_,rfl,rfl,O3.kt t _ _ hS,kj hx,⟨pr,_,rfl,O3.kt t _ _ tr,rfl,?_⟩⟩
 have gI:∀{H':Hp} {ns:List Int},(∀ i∈ns,0<=i/\i<qq)->bG K H' (ns.map V.int):=λh=>bG.of λz hz=>by
  obtain⟨i,hi,rfl⟩:=List.mem_map.mp hz
  exact .int (by have:=h i hi;omega) (by have:=h i hi;omega)
 k_data
 refine⟨pv,us,_,_,rfl,rfl,O3.kt t _ _ hS,kj hx,row t3 (by omega) (O3.kt t _ _ tr) ((bG.bY gu O3 t).all _ (List.mem_of_getElem? hx) |> λ_=>.cons (.int (by omega) (by omega)) (.cons (GV.tup (O3.kt t _ _ td) (gI hds)) .nil)) (by show 2<=1000;decide) λone H4 O4' t4 g4=>?_⟩
 have O4:=O3.trans O4'
 refine⟨λσ' H'=>zP K H p pv pd (an:Int) qq (n+13) σ' H',?_,?_⟩
 ·k_data
  refine⟨p,2,n+7,rfl,t4.mono (by omega),by omega,by decide,by decide,λr5 H5 r50 r51 o5 t5=>⟨rfl,?_⟩⟩
  have O5:=O4.trans o5.bY
  refine aD (λ_=>?_) (λ_=>?_)
  ·refine row t5 (by omega) (O5.kt t _ _ td) (gI hds) (by rw [List.length_map];omega) λy H6 O6' t6 g6=>⟨by show 2<=sizeLine;decide,λp7 hp7=>?_⟩
   have s7:=ak (o:=.tup [V.int qq,y]) hp7
   exact⟨_,rfl,GV.tup (aQ.of ah) (.cons (.int (by omega) (by omega)) (.cons (g6.same s7) .nil)),(O5.trans O6').trans (cj.of s7),(t6.same s7).mono (by omega)⟩
  ·exact⟨_,rfl,GV.bY g4 o5.bY t4,O5,t5.mono (by omega)⟩
 rintro σ' H7 ⟨one7,rfl,g7,O7,t7⟩
 k_data
 refine⟨λσ' H'=>zP K H p pv pd (an:Int) qq (n+14) σ' H',?_,?_⟩
 ·k_data
  refine⟨by show 0<=sizeLine;decide,λpb hpb=>?_⟩
  have sb:=ak (o:=.tup []) hpb
  have Ob:=O7.trans (cj.of sb)
  have tb:=t7.same sb
  have tdb:aQ K (upd H7 pb (.tup [])) pd (ds.map V.int):=Ob.kt t _ _ td
  refine⟨.tuple (ds.map PyData.int),_,⟨pd,_,rfl,tdb,aY.ints _⟩,dv.tup (ds:=[]) ah rfl,iy.lay _ (cY.mpr λd hd=>by obtain⟨i,hi,rfl⟩:=List.mem_map.mp hd;simp only [gd];have:=hds i hi;omega),rfl,Nat.le_trans (Nat.min_le_right _ _) (by decide),_,rfl,?_⟩
  have g7b:=g7.same sb
  generalize upd H7 pb _=Hb at *
  refine aD (λ_=>?_) (λ_=>⟨_,rfl,g7b,Ob,tb.mono (by omega)⟩)
  refine⟨p,2,n+13,rfl,tb,by omega,by decide,by decide,λr9 Hc r90 r91 oc tc=>⟨rfl,?_⟩⟩
  have Oc:=Ob.trans oc.bY
  have tdc:=Oc.kt t _ _ td
  refine aD (λ_=>?_) (λ_=>⟨_,rfl,GV.bY g7b oc.bY tb,Oc,tc⟩)
  have cl:(eQ (ds.map V.int) none (some (-1))).length<=30:=Nat.le_trans (cp _ _ _) (by rw [List.length_map];exact d30)
  have ne':ds.map V.int≠[]:=λz=>dne (List.map_eq_nil_iff.mp z)
  obtain⟨i,hi,hl⟩:=List.mem_map.mp (List.getLast_mem ne')
  refine⟨pd,_,rfl,tdc,λpe He se he=>⟨pd,_,_,_,rfl,rfl,tdc.same se,tw (by rw [List.getLast?_eq_some_getLast ne',<- hl]),i,rfl,by omega,by show 1<=sizeLine;decide,λpf hpf=>?_⟩⟩
  have sf:=ak (o:=.tup [V.int ((i+1)%qq)]) hpf
  refine⟨pe,pf,_,_,rfl,rfl,he.same sf,aQ.of ah,by rw [List.length_singleton];exact Nat.le_trans (show _<=31 by omega) (by decide),λpg Hg sg hg=>⟨by show 2<=sizeLine;decide,λph hph=>?_⟩⟩
  have sh:=ak (o:=.tup [V.int qq,V.ref pg]) hph
  have Sh:=se.trans (sf.trans (sg.trans sh))
  have m0:=Int.emod_nonneg (i+1) (show qq≠0 by omega)
  have m1:=Int.emod_lt_of_pos (i+1) (show 0<qq by omega)
  exact⟨_,rfl,GV.tup (aQ.of ah) (.cons (.int (by omega) (by omega)) (.cons (GV.tup (hg.same sh) (.app ((gI hds).cut _ _) (.cons (.int (by omega) (by omega)) .nil))) .nil)),Oc.trans (cj.of Sh),tc.same Sh⟩
 rintro σ' H8 ⟨one8,rfl,g8,O8,t8⟩
 k_data
 exact qF (O8.kt t _ _ hS) (bG.bY gu O8 t) g8 (by omega) λy H9 s9 g9=>q y H9 (O8.trans (cj.of s9)) ((t8.same s9).mono (by omega)) g9
end
end K
namespace K
open PySem PySem.Spec PyProof.Rows L2
section
variable {P:Program} {w:World} {K:PySem.W.Frag} {mg:Str->Option Value} {base:Heap}
def vG (K:PySem.W.Frag):Sp:=λvs H Q _=>∃ x q e t:Nat,vs=[.int x,.int q,.int e]/\2<=q/\q<=10^60/\1<=e/\q^t∣e/\¬q^(t+1)∣e/\t<=1000/\∀ p H',aB H H'->aQ K H' p ((Num.eA x q t).map λd=>V.int (d:Nat))->Q (.ref p) H'
theorem eX:ay ["_law_x","_law_q","_law_e","_law_digits_here"] ["_law_x","_law_q","_law_e"] (aj (top 54)):=c5
theorem wD (D:av K mg "_law_digits" (top 54)):Callee P w K mg base aM 1 "_law_digits" ["_law_x","_law_q","_law_e"] (vG K):=by
 refine cO D eX (λf cdv A outer s H vs Q E hr h=>?_)
 obtain⟨x,q',e,t,rfl,q2,q9,e1,dt,nt,t9,q⟩:=h
 have nd:=eX.nd
 refine⟨_,(ag (bV (i:=3) nd (aF ae)) (ag (ba PassesOwn.never (aq aU (ao aK (pv 2) (pv 1)) af (ar _)) (ag (bV (i:=3) nd (ao cZ (pv 3) (aF (aa (ao aK (pv 0) (pv 1)) ae)))) (ag (bV (i:=0) nd (ao bJ (pv 0) (pv 1))) (ai (bV (i:=2) nd (ao bJ (pv 2) (pv 1))))))) (ai (ax (pv 3))))),?_⟩
 show bL _ _ _ [some (.int (x:Int)),some (.int (q':Int)),some (.int (e:Int)),none] H
 k_data
 refine⟨by decide,λp0 hp0=>?_⟩
 refine bc (α:=Nat × Addr) (λz=>[some (.int ((x/q'^z.1:Nat):Int)),some (.int (q':Int)),some (.int ((e/q'^z.1:Nat):Int)),some (.ref z.2)]) (λz H1=>aB H H1/\z.1<=t/\aQ K H1 z.2 ((Num.eA x q' z.1).map λd:Nat=>V.int (d:Int))) (λz=>t+1-z.1) (0,p0) (by rw [Nat.pow_zero,Nat.div_one,Nat.div_one]) ⟨ak hp0,Nat.zero_le _,aQ.of ah⟩ ?_
 rintro⟨i,a⟩ H1 ⟨s1,it,ha⟩
 replace it:i<=t:=it
 replace ha:aQ K H1 a ((Num.eA x q' i).map λd:Nat=>V.int (d:Int)):=ha
 k_data
 have di:q'^i∣e:=Nat.dvd_trans (Nat.pow_dvd_pow q' it) dt
 obtain⟨f0,hf⟩:=di
 have qi:0<q'^i:=Nat.pow_pos (by omega)
 have ef:e/q'^i=f0:=by rw [hf];exact Nat.mul_div_cancel_left f0 qi
 have key:(((e/q'^i:Nat):Int)%(q':Int)=0)↔i<t:=by
  rw [<- Int.natCast_emod,ef]
  constructor
  ·intro z
   have z':f0%q'=0:=by omega
   rcases (by omega:i<t∨i=t) with h | h
   ·exact h
   ·subst h
    obtain⟨c,hc⟩:=Nat.dvd_of_mod_eq_zero z'
    exact absurd ⟨c,by rw [Nat.pow_succ,hf,hc,Nat.mul_assoc]⟩ nt
  ·intro h
   obtain⟨c,hc⟩:=Nat.dvd_trans (Nat.pow_dvd_pow q' h) dt
   have:f0=q'*c:=by
    rw [hf,Nat.pow_succ,Nat.mul_assoc] at hc
    exact Nat.eq_of_mul_eq_mul_left qi hc
   rw [this,Nat.mul_mod_right]
   rfl
 refine⟨by omega,aD (λc=>?_) (λc=>?_)⟩
 ·have lt:=key.mp c
  have dl:=Num.dS (x:=x) (q:=q') (n:=i)
  refine⟨_,λ_ _ z=>z,by omega,by show 1<=sizeLine;decide,λp1 hp1=>?_⟩
  have s2:=ak (o:=.tup [V.int (((x/q'^i:Nat):Int)%(q':Int))]) hp1
  refine⟨a,p1,_,_,rfl,rfl,ha.same s2,aQ.of ah,by rw [List.length_map,dl];exact Nat.le_of_lt (qu (by show i+1<=1000;omega)),λp2 H2 s3 h2=>⟨by omega,Bd.of (by omega) (by omega),by omega,Bd.of (by omega) (by omega),(i+1,p2),?_,(s1.trans s2).trans s3,lt,?_,by show t+1-(i+1)<t+1-i;omega⟩⟩
  ·show _=[some (V.int ((x/q'^(i+1):Nat):Int)),_,some (V.int ((e/q'^(i+1):Nat):Int)),_]
   rw [Nat.pow_succ,<- Nat.div_div_eq_div_mul,<- Nat.div_div_eq_div_mul,Int.natCast_ediv (x/q'^i),Int.natCast_ediv (e/q'^i)]
  ·show aQ K H2 p2 ((Num.eA x q' (i+1)).map λd:Nat=>V.int (d:Int))
   rw [Num.jJ,List.map_append]
   rw [<- Int.natCast_emod] at h2
   exact h2
 ·have:i=t:=by have:=mt key.mpr c;omega
  subst this
  exact q a H1 s1 ha
end
end K
namespace K
open PySem PySem.Spec PyProof.Rows L2
section
variable {P:Program} {w:World} {K:PySem.W.Frag} {mg:Str->Option Value} {base:Heap} {C:Addr}
def uO (K:PySem.W.Frag):Sp:=λvs H Q _=>∃(v:V) (p g:Int) (ps:List (Int × Int)) (ds:Nat->PyData) (x e:Nat),vs=[v,.int x,.int e]/\dv K H (.tuple [.int p,.int g,.tuple (Num.rowsOf ps ds)]) v/\Num.Part (p-1) ps/\ps.length<=29/\(∀ i q k,ps[i]?=some (q,k)->Num.fN q (ds i))/\p<=10^9/\1<=e/\(e:Int)∣p-1/\2<=p/\∀ pl u H',Num.Part e pl->aB H H'->dv K H' (qj x e pl) u->Q u H'
theorem i7:ay ["_law_paper","_law_x","_law_e"] ["_law_paper","_law_x","_law_e"] (aj (top 59)):=c5
theorem yb (D:av K mg "_law_is" (top 59)) (c__law_primes_by:Callee P w K mg base aM 1 "_law_primes_by" ["_law_paper","_law_e"] (fL K)) (c__law_digits:Callee P w K mg base aM 1 "_law_digits" ["_law_x","_law_q","_law_e"] (vG K)) (n_tuple:mg "tuple"=none):Callee P w K mg base aM 2 "_law_is" ["_law_paper","_law_x","_law_e"] (uO K):=by
 refine cO D i7 (λf cdv A outer s H vs Q E hr h=>?_)
 obtain⟨v,p,g,ps,ds,x,e,rfl,hd,hP,l29,hds,p9,e1,ed,p2,q⟩:=h
 have e9:e<=10^9:=by have:=Int.le_of_dvd (by omega) ed;omega
 obtain⟨pl,hpl⟩:=Num.oF (n:=(e:Int)) (by omega) (by omega)
 have nd:=i7.nd
 refine⟨_,(ai (ax (aF (aa (pv 1) (aa (aF (aa a9 (aa (pv 2) (aa (cJ cL rfl n_tuple L2.boot_tuple (aa (fC rfl (sQ (N':=["_law_q","_law_x","_law_e"]) (js:=[none,some 1,some 2]) rfl rfl) (gi (bF c__law_primes_by hr aw (aa (pv 0) (aa (pv 2) ae)))) (λ_ _ _ _=>(aE (i:=0) (show List.Nodup [("_law_q":Str),("_law_x":Str),("_law_e":Str)] from by decide +kernel) rfl (Or.inl rfl) (.inr rfl))) (λ_ _ _ _=>dc) (λ_ _ _ _=>(aF (aa (pv 0) (aa (bF c__law_digits hr aw (aa (pv 1) (aa (pv 0) (aa (pv 2) ae)))) ae))))) ae)) ae)))) ae))))),?_⟩
 show fy _ _ [some v,some (.int (x:Int)),some (.int (e:Int))] H
 k_data
 refine⟨v,p,g,ps,ds,e,rfl,hd,hP,l29,hds,λql H2 s2 fql eql=>⟨ql,rfl,⟨_,aT.of eql⟩,?_⟩⟩
 rw [j4 hP hpl ed] at eql
 have few:=fZ hpl (by omega)
 have eE:Num.eN pl=e:=by
  have:=Num.fS pl λy hy=>(hpl.ok y hy).1
  rw [hpl.prod] at this
  omega
 refine c7 (xs:=(pl.map (·.1)).map V.int) (λi zs H5=>aB H2 H5/\aY K H5 ((pl.take i).map (dQ x)) zs) ⟨aB.refl _,rfl⟩ (by rw [List.length_map,List.length_map];exact Nat.le_trans few (by decide)) (λi zs H5 hi ⟨z1,z2⟩=>⟨aT.of (z1 _ _ eql),by rw [z2.length,List.length_map,List.length_take];omega⟩) ?_ ?_
 ·rintro i w' zs H5 hx ⟨s5,hz⟩
  rw [List.getElem?_map,List.getElem?_map] at hx
  obtain⟨q',hx1,rfl⟩:=Option.map_eq_some_iff.mp hx
  obtain⟨⟨q'',t'⟩,hy,rfl⟩:=Option.map_eq_some_iff.mp hx1
  obtain⟨pq,t1,t9⟩:=hpl.ok _ (List.mem_of_getElem? hy)
  have dE:=mX (List.mem_of_getElem? hy)
  have nE:=iR (λz hz=>(hpl.ok z hz).1) hpl.rise (List.mem_of_getElem? hy)
  rw [eE] at dE nE
  replace pq:Num.Pm q'':=pq
  replace t1:1<=t':=t1
  replace t9:t'<=30:=t9
  have q2:=pq.two
  have qe:q''∣(e:Int):=by
   rw [<- hpl.prod]
   exact Num.bP (List.mem_of_getElem? hy) t1
  have qe':=Int.le_of_dvd (by omega) qe
  obtain⟨qn',rfl⟩:∃ n:Nat,q''=n:=⟨q''.toNat,by omega⟩
  obtain⟨tn,rfl⟩:∃ n:Nat,t'=n:=⟨t'.toNat,by omega⟩
  replace dE:qn'^tn∣e:=dE
  replace nE:¬qn'^(tn+1)∣e:=nE
  show dU 0 _ [none,some (.int (x:Int)),some (.int (e:Int))] _ _
  k_data
  refine⟨⟨rfl,rfl,True.intro⟩,x,qn',e,tn,rfl,by omega,by omega,by omega,dE,nE,by omega,λpd H6 s6 hSd=>⟨by show 2<=sizeLine;decide,λp7 hp7=>?_⟩⟩
  have s7:=ak (o:=.tup [V.int (qn':Int),V.ref pd]) hp7
  refine⟨(s5.trans s6).trans s7,?_⟩
  rw [List.take_add_one,hy,List.map_append]
  refine aY.append (aY.same (s6.trans s7) _ hz) (.one (dv.tup ah ⟨_,_,rfl,rfl,.one ⟨pd,_,rfl,hSd.same s7,?_⟩⟩))
  have:=aY.ints (K:=K) (H:=upd H6 p7 (.tup [V.int (qn':Int),V.ref pd])) ((Num.eA x qn' tn).map λd:Nat=>(d:Int))
  rw [List.map_map (f:=λd:Nat=>(d:Int)) (g:=V.int)] at this
  exact this
 ·rintro zs H5 p5 ⟨s5,hz⟩ hp5
  rw [List.length_map,List.length_map,List.take_length] at hz
  have s6:=ak (o:=.lst zs) hp5
  refine⟨p5,rfl,zs,.inl ⟨aT.of ah,λpt hpt=>⟨by show 3<=sizeLine;decide,λp6 hp6=>⟨by show 2<=sizeLine;decide,λp7 hp7=>?_⟩⟩⟩⟩
  have s7:=ak (o:=.tup zs) hpt
  have s8:=ak (o:=.tup [V.str "is",V.int (e:Int),V.ref pt]) hp6
  have s9:=ak (o:=.tup [V.int (x:Int),V.ref p6]) hp7
  exact q pl _ _ hpl (s2.trans (s5.trans (s6.trans (s7.trans (s8.trans s9))))) (dv.tup ah ⟨_,_,rfl,rfl,.one (dv.tup (s9 _ _ ah) ⟨_,_,rfl,rfl,_,_,rfl,rfl,.one (dv.tup (s9 _ _ (s8 _ _ ah)) (aY.same (s6.trans (s7.trans (s8.trans s9))) _ hz))⟩)⟩)
def sR (e:Nat) (dx d2:PyData):Prop:=(dx=.none/\∃ r:Int,d2=.int r/\0<=r/\r<=10^9)∨∃(x:Nat) (pl:List (Int × Int)),dx=.int x/\d2=.tuple (pl.map (dQ x))/\x<e/\Num.Part e pl
def rY (K:PySem.W.Frag):Sp:=λvs H Q _=>∃(t:Addr) (v vp:V) (n e:Nat) (dx d2:PyData) (s0:Str) (p g:Int) (ps:List (Int × Int)) (ds:Nat->PyData),vs=[.ref t,v,vp]/\Tp t n H/\n<=10^47/\dv K H (.tuple [dx,.tuple [.str s0,.int e,d2]]) v/\PyData.canLay0 (.str s0)=true/\sR e dx d2/\dv K H (.tuple [.int p,.int g,.tuple (Num.rowsOf ps ds)]) vp/\Num.Part (p-1) ps/\ps.length<=29/\(∀ i q k,ps[i]?=some (q,k)->Num.fN q (ds i))/\p<=10^9/\1<=e/\(e:Int)∣p-1/\2<=p/\∀ y H',cj t H H'->Tp t (n+40) H'->GV K H' y->Q y H'
def uZ (K:PySem.W.Frag) (H:Hp) (t pv pp pw:Addr) (vx:V) (p:Int) (e:Nat) (way:Int) (n:Nat) (σ':L2.St) (H':Hp):Prop:=∃ o8 o9,σ'=[some (.ref t),some (.ref pv),some (.ref pp),some vx,some (.ref pw),some (.int p),some (.int (e:Int)),some (.int way),o8,o9]/\cj t H H'/\Tp t n H'
theorem gj:ay ["_law_tape_here","_law_due","_law_paper","_law_x","_law_shown","_law_p","_law_e","_law_way","_law_some","_law_q"] ["_law_tape_here","_law_due","_law_paper"] (aj (top 60)):=c5
theorem uc (D:av K mg "_law_bent" (top 60)) (c__law_draw:Callee P w K mg base aM 1 "_law_draw" ["_law_tape_here","_law_many"] eJ) (c__law_far:Callee P w K mg base aM 2 "_law_far" ["_law_tape_here","_law_many"] kX) (c__law_is:Callee P w K mg base aM 2 "_law_is" ["_law_paper","_law_x","_law_e"] (uO K)) (c__law_primes_by:Callee P w K mg base aM 1 "_law_primes_by" ["_law_paper","_law_e"] (fL K)) (c__law_bent_row:Callee P w K mg base aM 3 "_law_bent_row" ["_law_tape_here","_law_row"] (eh K)) (c__law_bent_parts:Callee P w K mg base aM 4 "_law_bent_parts" ["_law_tape_here","_law_parts"] (ik K)) (n_len:mg "len"=none):Callee P w K mg base aM 5 "_law_bent" ["_law_tape_here","_law_due","_law_paper"] (rY K):=by
 refine cO D gj (λf cdv A outer s H vs Q E hr h=>?_)
 obtain⟨t,v,vp,n,e,dx,d2,s0,p,g,ps,ds,rfl,tt,n9,hv,c0,hD,hd,hP,l29,hds,p9,e1,ed,p2,q⟩:=h
 have ep:=Int.le_of_dvd (by omega) ed
 have nd:=gj.nd
 refine⟨_,(@ag _ _ _ _ _ (eT (pv 1) (eF (n:=2) rfl (aJ (aE (i:=3) nd rfl (Or.inl rfl) (.inr rfl)) (aJ (aE (i:=4) nd rfl (Or.inl rfl) (.inr rfl)) cE)))) (@ag _ _ _ _ _ (iY (i:=5) (j:=6) rfl nd rfl rfl (by decide) rfl rfl (@aa _ _ _ _ _ (@aH _ _ _ _ _ _ _ aI (pv 2) af (λ_ _=>rfl)) (@aa _ _ _ _ _ (@aH _ _ _ _ _ _ _ aI (pv 4) af (λ_ _=>rfl)) ae (by rfl)) (by rfl)) rfl) (@ag _ _ _ _ _ (@cT _ _ 7 _ _ _ _ nd rfl (Or.inl rfl) (@aA _ _ _ _ _ _ _ _ _ _ _ _ c__law_draw (hr.mono (by decide)) rfl aw (@aa _ _ _ _ _ (pv 0) (@aa _ _ _ _ _ af ae (by rfl)) (by rfl)) (by decide) (by rfl) (by rfl)) (by rfl) (by first | exact .inl rfl | exact .inr rfl | assumption)) (@ag _ _ _ _ _ (bT (@aL _ _ _ _ _ _ _ _ (@aq _ _ _ _ _ _ _ _ aU (pv 7) af (ar _)) (@ai _ _ _ (@ax _ _ _ _ (@aA _ _ _ _ _ _ _ _ _ _ _ _ c__law_is (hr.mono (by decide)) rfl aw (@aa _ _ _ _ _ (pv 2) (@aa _ _ _ _ _ (@aA _ _ _ _ _ _ _ _ _ _ _ _ c__law_far (hr.mono (by decide)) rfl aw (@aa _ _ _ _ _ (pv 0) (@aa _ _ _ _ _ (pv 6) ae (by rfl)) (by rfl)) (by decide) (by rfl) (by rfl)) (@aa _ _ _ _ _ (pv 6) ae (by rfl)) (by rfl)) (by rfl)) (by decide) (by rfl) (by rfl)))) az)) (@ag _ _ _ _ _ (@cT _ _ 8 _ _ _ _ nd rfl (Or.inl rfl) (@aA _ _ _ _ _ _ _ _ _ _ _ _ c__law_primes_by (hr.mono (by decide)) rfl aw (@aa _ _ _ _ _ (pv 2) (@aa _ _ _ _ _ (@ao _ _ _ _ _ _ _ _ bJ (@ao _ _ _ _ _ _ _ _ bD (pv 5) af) (pv 6)) ae (by rfl)) (by rfl)) (by decide) (by rfl) (by rfl)) (by rfl) (by first | exact .inl rfl | exact .inr rfl | assumption)) (@ag _ _ _ _ _ (bT (@aL _ _ _ _ _ _ _ _ (PW.pt (cn (@aq _ _ _ _ _ _ _ _ c8 (pv 7) af (ar _)) (cn (@aq _ _ _ _ _ _ _ _ kI (pv 3) c9 (ar _)) (cf (@aq _ _ _ _ _ _ _ _ (rB hr.units) (pv 8) (@bW _ _ _ _ ae) (ar _)))))) (@ag _ _ _ _ _ (@cT _ _ 9 _ _ _ _ nd rfl (Or.inl rfl) (@aH _ _ _ _ _ _ _ cw (pv 8) (@aA _ _ _ _ _ _ _ _ _ _ _ _ c__law_draw (hr.mono (by decide)) rfl aw (@aa _ _ _ _ _ (pv 0) (@aa _ _ _ _ _ (@aC _ _ _ _ _ _ _ _ _ bj rfl n_len PySem.boot_len (@aa _ _ _ _ _ (pv 8) ae (by rfl)) (by decide) (by decide) (by rfl) (by rfl)) ae (by rfl)) (by rfl)) (by decide) (by rfl) (by rfl)) (λ_ _=>rfl)) (by rfl) (by first | exact .inl rfl | exact .inr rfl | assumption)) (@ai _ _ _ (@ax _ _ _ _ (@aA _ _ _ _ _ _ _ _ _ _ _ _ c__law_is (hr.mono (by decide)) rfl aw (@aa _ _ _ _ _ (pv 2) (@aa _ _ _ _ _ (@ao _ _ _ _ _ _ _ _ aX (pv 3) (@ao _ _ _ _ _ _ _ _ aW (pv 6) (@aA _ _ _ _ _ _ _ _ _ _ _ _ c__law_far (hr.mono (by decide)) rfl aw (@aa _ _ _ _ _ (pv 0) (@aa _ _ _ _ _ (pv 9) ae (by rfl)) (by rfl)) (by decide) (by rfl) (by rfl)))) (@aa _ _ _ _ _ (@ao _ _ _ _ _ _ _ _ aW (pv 9) (pv 6)) ae (by rfl)) (by rfl)) (by rfl)) (by decide) (by rfl) (by rfl))))) az)) (@ag _ _ _ _ _ (bT (@aL _ _ _ _ _ _ _ _ (PW.pt (cn (@aq _ _ _ _ _ _ _ _ rA (pv 3) c9 (ar _)) (cf (@aq _ _ _ _ _ _ _ _ cP (pv 7) af (ar _))))) (@ai _ _ _ (@ax _ _ _ _ (@aH _ _ _ _ _ _ _ cw (@bW _ _ _ _ (@aa _ _ _ _ _ (@aF _ _ _ _ _ (@aa _ _ _ _ _ af (@aa _ _ _ _ _ (@aF _ _ _ _ _ (@aa _ _ _ _ _ a9 (@aa _ _ _ _ _ (pv 6) (@aa _ _ _ _ _ (@aF _ _ _ _ _ ae) ae (by rfl)) (by rfl)) (by rfl))) ae (by rfl)) (by rfl))) (@aa _ _ _ _ _ (@aF _ _ _ _ _ (@aa _ _ _ _ _ c9 (@aa _ _ _ _ _ (@aF _ _ _ _ _ (@aa _ _ _ _ _ a9 (@aa _ _ _ _ _ (@ao _ _ _ _ _ _ _ _ bD (pv 5) af) (@aa _ _ _ _ _ (@aH _ _ _ _ _ _ _ aI (pv 4) af (λ_ _=>rfl)) ae (by rfl)) (by rfl)) (by rfl))) ae (by rfl)) (by rfl))) (@aa _ _ _ _ _ (@aF _ _ _ _ _ (@aa _ _ _ _ _ c9 (@aa _ _ _ _ _ (@aF _ _ _ _ _ (@aa _ _ _ _ _ a9 (@aa _ _ _ _ _ (pv 6) (@aa _ _ _ _ _ af ae (by rfl)) (by rfl)) (by rfl))) ae (by rfl)) (by rfl))) ae (by rfl)) (by rfl)) (by rfl))) (@ao _ _ _ _ _ _ _ _ aK (pv 7) af) (λ_ _=>rfl)))) az)) (@ag _ _ _ _ _ (bT (@aL _ _ _ _ _ _ _ _ (PW.pt (cn (@aq _ _ _ _ _ _ _ _ cP (pv 7) af (ar _)) (cf (@aq _ _ _ _ _ _ _ _ kI (pv 3) c9 (ar _))))) (@ai _ _ _ (@ax _ _ _ _ (@aF _ _ _ _ _ (@aa _ _ _ _ _ (@aH _ _ _ _ _ _ _ cw (@bW _ _ _ _ (@aa _ _ _ _ _ (@ao _ _ _ _ _ _ _ _ aX (pv 3) (pv 6)) (@aa _ _ _ _ _ (@ao _ _ _ _ _ _ _ _ bD (pv 3) (pv 6)) (@aa _ _ _ _ _ (@ao _ _ _ _ _ _ _ _ aX (pv 3) af) (@aa _ _ _ _ _ c9 (@aa _ _ _ _ _ (@ao _ _ _ _ _ _ _ _ bD (@ao _ _ _ _ _ _ _ _ aX (pv 3) (pv 5)) af) (@aa _ _ _ _ _ (@bA _ _ _ _ _ _ _ _ aU (pv 3) af (ar _)) ae (by rfl)) (by rfl)) (by rfl)) (by rfl)) (by rfl)) (by rfl))) (@aA _ _ _ _ _ _ _ _ _ _ _ _ c__law_draw (hr.mono (by decide)) rfl aw (@aa _ _ _ _ _ (pv 0) (@aa _ _ _ _ _ af ae (by rfl)) (by rfl)) (by decide) (by rfl) (by rfl)) (λ_ _=>rfl)) (@aa _ _ _ _ _ (pv 4) ae (by rfl)) (by rfl))))) az)) (@ag _ _ _ _ _ (bT (@aL _ _ _ _ _ _ _ _ (PW.pt (cn (@aq _ _ _ _ _ _ _ _ aU (pv 7) af (ar _)) (cf (@aq _ _ _ _ _ _ _ _ aU (@aA _ _ _ _ _ _ _ _ _ _ _ _ c__law_draw (hr.mono (by decide)) rfl aw (@aa _ _ _ _ _ (pv 0) (@aa _ _ _ _ _ af ae (by rfl)) (by rfl)) (by decide) (by rfl) (by rfl)) af (ar _))))) (@ai _ _ _ (@ax _ _ _ _ (@aF _ _ _ _ _ (@aa _ _ _ _ _ c9 (@aa _ _ _ _ _ (@aF _ _ _ _ _ (@aa _ _ _ _ _ a9 (@aa _ _ _ _ _ (@aH _ _ _ _ _ _ _ cw (@bW _ _ _ _ (@aa _ _ _ _ _ (pv 6) (@aa _ _ _ _ _ (pv 6) (@aa _ _ _ _ _ (@ao _ _ _ _ _ _ _ _ bD (pv 5) af) ae (by rfl)) (by rfl)) (by rfl))) (@aA _ _ _ _ _ _ _ _ _ _ _ _ c__law_draw (hr.mono (by decide)) rfl aw (@aa _ _ _ _ _ (pv 0) (@aa _ _ _ _ _ af ae (by rfl)) (by rfl)) (by decide) (by rfl) (by rfl)) (λ_ _=>rfl)) (@aa _ _ _ _ _ af ae (by rfl)) (by rfl)) (by rfl))) ae (by rfl)) (by rfl))))) az)) (@ag _ _ _ _ _ (bT (@aL _ _ _ _ _ _ _ _ (@aq _ _ _ _ _ _ _ _ aU (pv 7) af (ar _)) (@ai _ _ _ (@ax _ _ _ _ (@aF _ _ _ _ _ (@aa _ _ _ _ _ (pv 3) (@aa _ _ _ _ _ (@aA _ _ _ _ _ _ _ _ _ _ _ _ c__law_bent_row (hr.mono (by decide)) rfl aw (@aa _ _ _ _ _ (pv 0) (@aa _ _ _ _ _ (pv 4) ae (by rfl)) (by rfl)) (by decide) (by rfl) (by rfl)) ae (by rfl)) (by rfl))))) az)) (@ag _ _ _ _ _ (bT (@aL _ _ _ _ _ _ _ _ (@aq _ _ _ _ _ _ _ _ cP (pv 7) af (ar _)) (@ai _ _ _ (@ax _ _ _ _ (@aF _ _ _ _ _ (@aa _ _ _ _ _ (pv 3) (@aa _ _ _ _ _ (@aF _ _ _ _ _ (@aa _ _ _ _ _ (@aH _ _ _ _ _ _ _ aI (pv 4) af (λ_ _=>rfl)) (@aa _ _ _ _ _ (@aH _ _ _ _ _ _ _ cw (@bW _ _ _ _ (@aa _ _ _ _ _ (@ao _ _ _ _ _ _ _ _ aW af (pv 6)) (@aa _ _ _ _ _ (@ao _ _ _ _ _ _ _ _ aW af (pv 6)) (@aa _ _ _ _ _ (@ao _ _ _ _ _ _ _ _ bD (pv 5) af) (@aa _ _ _ _ _ (@ao _ _ _ _ _ _ _ _ bD (pv 6) af) (@aa _ _ _ _ _ (@ao _ _ _ _ _ _ _ _ bJ (pv 6) af) (@aa _ _ _ _ _ (@ao _ _ _ _ _ _ _ _ bD af (pv 6)) ae (by rfl)) (by rfl)) (by rfl)) (by rfl)) (by rfl)) (by rfl))) (@aA _ _ _ _ _ _ _ _ _ _ _ _ c__law_draw (hr.mono (by decide)) rfl aw (@aa _ _ _ _ _ (pv 0) (@aa _ _ _ _ _ af ae (by rfl)) (by rfl)) (by decide) (by rfl) (by rfl)) (λ_ _=>rfl)) (@aa _ _ _ _ _ (@aH _ _ _ _ _ _ _ aI (pv 4) af (λ_ _=>rfl)) ae (by rfl)) (by rfl)) (by rfl))) ae (by rfl)) (by rfl))))) az)) (@ag _ _ _ _ _ (bT (@aL _ _ _ _ _ _ _ _ (PW.pt (cn (@aq _ _ _ _ _ _ _ _ cP (pv 7) af (ar _)) (cf (@aq _ _ _ _ _ _ _ _ kI (pv 3) c9 (ar _))))) (@ai _ _ _ (@ax _ _ _ _ (@aF _ _ _ _ _ (@aa _ _ _ _ _ (pv 3) (@aa _ _ _ _ _ (@aF _ _ _ _ _ (@aa _ _ _ _ _ a9 (@aa _ _ _ _ _ (pv 6) (@aa _ _ _ _ _ (@aA _ _ _ _ _ _ _ _ _ _ _ _ c__law_bent_parts (hr.mono (by decide)) rfl aw (@aa _ _ _ _ _ (pv 0) (@aa _ _ _ _ _ (@aH _ _ _ _ _ _ _ aI (pv 4) af (λ_ _=>rfl)) ae (by rfl)) (by rfl)) (by decide) (by rfl) (by rfl)) ae (by rfl)) (by rfl)) (by rfl))) ae (by rfl)) (by rfl))))) az)) (@ai _ _ _ (@ax _ _ _ _ (pv 1))))))))))))))),?_⟩
 show bL _ _ _ [some (.ref t),some v,some vp,none,none,none,none,none,none,none] H
 have hv':=hv
 obtain⟨pv,vx,vs,rfl,hS,h1,h2⟩:=wa hv
 have h2':=h2
 obtain⟨pw,w1,w2,w3,rfl,tW,f0,f1,f2⟩:=iK h2
 cases f0
 cases f1
 obtain⟨pp,y1,y2,vr,rfl,tS,g0,gg,dr⟩:=iK hd
 cases g0
 cases gg
 have hx:vx=.bo∨∃(x:Nat) (pl:List (Int × Int)),vx=.int x/\dv K H (.tuple (pl.map (dQ x))) w3/\x<e/\Num.Part e pl:=by
  rcases hD with⟨rfl,r,rfl,r0,r1⟩|⟨x,pl,rfl,rfl,xe,hpl⟩
  ·cases h1;exact .inl rfl
  ·cases h1;exact .inr ⟨x,pl,rfl,f2,xe,hpl⟩
 have gx:∀{H':Hp},GV K H' vx:=λ{H'}=>by
  rcases hx with rfl | ⟨x,pl,rfl,_,xe,_⟩
  ·exact .bo
  ·exact .int (by omega) (by omega)
 have g3:GV K H w3:=by
  rcases hD with⟨rfl,r,rfl,r0,r1⟩|⟨x,pl,rfl,rfl,xe,hpl⟩
  ·cases f2;exact .int (by omega) (by omega)
  ·exact⟨_,f2,by simp only [gd];exact fU hpl (by omega) (by omega)⟩
 k_data
 refine⟨pv,_,rfl,hS,rfl,?_⟩
 k_data
 refine bC tS gH (bC tW tu ⟨t,11,n,rfl,tt,by omega,by decide,by decide,λway H1 wy0 wy1 o1 t1=>?_⟩)
 have O1:=o1.bY
 have S1:∀{H':Hp},cj t H H'->aQ K H' pp [.int p,.int g,vr]:=λO=>O.kt tt _ _ tS
 have W1:∀{H':Hp},cj t H H'->aQ K H' pw [.str s0,.int e,w3]:=λO=>O.kt tt _ _ tW
 have D1:∀{H':Hp},cj t H H'->dv K H' (.tuple [.int p,.int g,.tuple (Num.rowsOf ps ds)]) (.ref pp):=λO=>dv.bY hd O tt
 have G3:∀{H':Hp},cj t H H'->GV K H' w3:=λO=>GV.bY g3 O tt
 have is_:∀{H2:Hp} {E':XK} {x' e':Nat} {n2:Nat},cj t H H2->Tp t n2 H2->n2<=n+40->1<=e'->(e':Int)∣p-1->x'<10^80->uO K [.ref pp,.int (x':Nat),.int (e':Nat)] H2 Q E':=by
  intro H2 E' x' e' n2 O2 t2 hn h1' h2' h3'
  refine⟨_,p,g,ps,ds,x',e',rfl,D1 O2,hP,l29,hds,p9,h1',h2',p2,λpl u H' hpl s' hu=>q u H' (O2.trans (cj.of s')) ((t2.same s').mono hn) ⟨_,hu,?_⟩⟩
  have h4':=Int.le_of_dvd (by omega) h2'
  unfold qj
  simp only [gd,iy,and_true]
  exact⟨⟨by omega,by omega⟩,by decide +kernel,⟨by omega,by omega⟩,fU hpl h1' (by omega)⟩
 have done:∀{H2:Hp} {n2:Nat} {y:V},cj t H H2->Tp t n2 H2->n2<=n+40->GV K H2 y->Q y H2:=λO2 t2 hn gy=>q _ _ O2 (t2.mono hn) gy
 refine⟨λσ' H'=>uZ K H t pv pp pw vx p e way (n+1) σ' H',?_,?_⟩
 ·k_data
  refine aD (λ_=>?_) (λ_=>⟨_,_,rfl,O1,t1⟩)
  refine⟨t,_,n+1,rfl,t1,by omega,by omega,λr H' r0 r1 o' t'=>?_⟩
  obtain⟨rn,rfl⟩:∃ k:Nat,r=k:=⟨r.toNat,by omega⟩
  exact is_ (O1.trans o'.bY) t' (by omega) e1 ed (by omega)
 rintro σ' H2 ⟨o8,o9,rfl,O2,t2⟩
 k_data
 refine⟨by omega,Bd.of (by omega) (by omega),?_⟩
 obtain⟨m,hm⟩:=ed
 have m0:0<m:=by
  rcases (by omega:0<m∨m<=0) with z | z
  ·exact z
  ·have:(e:Int)*m<=0:=Int.mul_nonpos_of_nonneg_of_nonpos (by omega) z
   omega
 have em:(p-1)/(e:Int)=m:=by rw [hm];exact Int.mul_ediv_cancel_left _ (by omega)
 obtain⟨mn,rfl⟩:∃ k:Nat,m=k:=⟨m.toNat,by omega⟩
 rw [em]
 refine⟨_,p,g,ps,ds,mn,rfl,D1 O2,hP,l29,hds,λl H3 s3 f3 e3=>?_⟩
 have O3:=O2.trans (cj.of s3)
 have t3:=t2.same s3
 have hq:∀ q'∈dP ps mn,2<=q'/\q'∣(mn:Int):=λq' hq'=>by
  unfold dP at hq'
  obtain⟨h1',h2'⟩:=List.mem_filter.mp hq'
  obtain⟨y,hy,rfl⟩:=List.mem_map.mp h1'
  exact⟨(hP.ok y hy).1.two,Int.dvd_of_emod_eq_zero (of_decide_eq_true h2')⟩
 have lq:(dP ps mn).length<=29:=by
  unfold dP
  exact Nat.le_trans (List.length_filter_le _ _) (by rw [List.length_map];exact l29)
 generalize dP ps mn=qs at *
 refine⟨λσ' H'=>uZ K H t pv pp pw vx p e way (n+1) σ' H',?_,?_⟩
 ·k_data
  refine aD (λ_=>?_) (λ_=>⟨_,_,rfl,O3,t3⟩)
  refine aD (λnx=>?_) (λ_=>⟨_,_,rfl,O3,t3⟩)
  obtain⟨x,pl,rfl,hw,xe,hpl⟩:=hx.resolve_left nx
  refine⟨by show 0<=sizeLine;decide,λa1 ha1=>?_⟩
  have b1:=ak (o:=.lst []) ha1
  have e3b:=b1 _ _ e3
  refine⟨.list (qs.map PyData.int),.list [],⟨l,_,rfl,aT.of e3b,aY.ints _⟩,dv.lst (ds:=[]) ah rfl,iy.lay _ (cY.mpr λd hd'=>?_),rfl,Nat.le_trans (Nat.min_le_right _ _) (by decide),_,rfl,?_⟩
  ·obtain⟨i,hi,rfl⟩:=List.mem_map.mp hd'
   have h1':=hq i hi
   have:=Int.le_of_dvd (by omega) h1'.2
   have:=Int.le_of_dvd (by omega) (show (mn:Int)∣p-1 from ⟨e,by rw [hm,Int.mul_comm]⟩)
   simp only [gd]
   omega
  generalize upd H3 a1 _=J1 at *
  have O4:=O3.trans (cj.of b1)
  have t4:=t3.same b1
  refine aD (λc=>?_) (λ_=>⟨_,_,rfl,O4,t4⟩)
  have qp:0<qs.length:=by
   rcases Nat.eq_zero_or_pos qs.length with z | z
   ·rw [List.length_eq_zero_iff.mp z] at c
    exact absurd c (by decide)
   ·exact z
  refine dz (aT.of e3b) ⟨t,_,n+1,rfl,t4,by omega,by rw [List.length_map];omega,by rw [List.length_map];omega,λr5 H5 r50 r51 o5 t5=>?_⟩
  have O5:=O4.trans o5.bY
  have e5:H5 l=_:=(o5 l (t4.ne e3b (by intro kvs c;cases c))).trans e3b
  rw [List.length_map] at r51
  refine tX e5 r50 r51 λq' hq'=>?_
  obtain⟨q2',qd⟩:=hq q' hq'
  obtain⟨qn,rfl⟩:∃ k:Nat,q'=k:=⟨q'.toNat,by omega⟩
  have qm:=Int.le_of_dvd (by omega) qd
  have mp:=Int.le_of_dvd (by omega) (show (mn:Int)∣p-1 from ⟨e,by rw [hm,Int.mul_comm]⟩)
  refine⟨t,_,n+2,rfl,t5,by omega,by omega,λr6 H6 r60 r61 o6 t6=>?_⟩
  obtain⟨rn,rfl⟩:∃ k:Nat,r6=k:=⟨r6.toNat,by omega⟩
  have qe1:1<=qn*e:=Nat.mul_pos (by omega) (by omega)
  have er:e*rn<=10^9*10^9:=Nat.mul_le_mul (by omega) (by omega)
  refine⟨_,rfl,Bd.of (by omega) (by omega),Bd.of (by omega) (by omega),_,rfl,_,rfl,Bd.of (by omega) (by omega),Bd.of (by omega) (by omega),?_⟩
  rw [show (x:Int)+(e:Int)*(rn:Int)=((x+e*rn:Nat):Int) by rw [Int.natCast_add,Int.natCast_mul],show (qn:Int)*(e:Int)=((qn*e:Nat):Int) by rw [Int.natCast_mul]]
  refine is_ (O5.trans o6.bY) t6 (by omega) qe1 ?_ (by omega)
  obtain⟨c',hc'⟩:=qd
  exact⟨c',by rw [Int.natCast_mul,hm,hc'];grind⟩
 rintro σ' H4 ⟨o8,o9,rfl,O4,t4⟩
 k_data
 refine⟨λσ' H'=>uZ K H t pv pp pw vx p e way (n+1) σ' H',?_,?_⟩
 ·k_data
  refine aD (λnx=>?_) (λ_=>⟨_,_,rfl,O4,t4⟩)
  refine aD (λ_=>?_) (λ_=>⟨_,_,rfl,O4,t4⟩)
  refine⟨by show 0<=sizeLine;decide,λa1 ha1=>?_⟩
  have b1:=ak (o:=.tup []) ha1
  have l1:bG K (upd H4 a1 (.tup [])) []:=bG.nil
  have ga1:GV K (upd H4 a1 (.tup [])) (.ref a1):=GV.tup (aQ.of ah) l1
  have S:=b1
  generalize upd H4 a1 _=J1 at *
  refine⟨by show 3<=sizeLine;decide,λa2 ha2=>?_⟩
  have b2:=ak (o:=.tup [V.str "is",V.int (e:Int),V.ref a1]) ha2
  have l2:bG K (upd J1 a2 (.tup [V.str "is",V.int (e:Int),V.ref a1])) [V.str "is",V.int (e:Int),V.ref a1]:=(.cons (.str (by decide +kernel)) (.cons (.int (by omega) (by omega)) (.cons (ga1.same b2) .nil)))
  have ga2:GV K (upd J1 a2 (.tup [V.str "is",V.int (e:Int),V.ref a1])) (.ref a2):=GV.tup (aQ.of ah) l2
  replace ga1:=ga1.same b2
  replace S:=S.trans b2
  generalize upd J1 a2 _=J2 at *
  refine⟨by show 2<=sizeLine;decide,λa3 ha3=>?_⟩
  have b3:=ak (o:=.tup [V.int 0,V.ref a2]) ha3
  have l3:bG K (upd J2 a3 (.tup [V.int 0,V.ref a2])) [V.int 0,V.ref a2]:=(.cons (.int (by omega) (by omega)) (.cons (ga2.same b3) .nil))
  have ga3:GV K (upd J2 a3 (.tup [V.int 0,V.ref a2])) (.ref a3):=GV.tup (aQ.of ah) l3
  replace ga1:=ga1.same b3
  replace ga2:=ga2.same b3
  replace S:=S.trans b3
  generalize upd J2 a3 _=J3 at *
  refine bC ((W1 O4).same S) rfl ?_
  refine⟨by show 3<=sizeLine;decide,λa4 ha4=>?_⟩
  have b4:=ak (o:=.tup [V.str "none",V.int (p-1),w3]) ha4
  have l4:bG K (upd J3 a4 (.tup [V.str "none",V.int (p-1),w3])) [V.str "none",V.int (p-1),w3]:=(.cons (.str (by decide +kernel)) (.cons (.int (by omega) (by omega)) (.cons ((G3 O4).same (S.trans b4)) .nil)))
  have ga4:GV K (upd J3 a4 (.tup [V.str "none",V.int (p-1),w3])) (.ref a4):=GV.tup (aQ.of ah) l4
  replace ga1:=ga1.same b4
  replace ga2:=ga2.same b4
  replace ga3:=ga3.same b4
  replace S:=S.trans b4
  generalize upd J3 a4 _=J4 at *
  refine⟨by show 2<=sizeLine;decide,λa5 ha5=>?_⟩
  have b5:=ak (o:=.tup [V.bo,V.ref a4]) ha5
  have l5:bG K (upd J4 a5 (.tup [V.bo,V.ref a4])) [V.bo,V.ref a4]:=(.cons .bo (.cons (ga4.same b5) .nil))
  have ga5:GV K (upd J4 a5 (.tup [V.bo,V.ref a4])) (.ref a5):=GV.tup (aQ.of ah) l5
  replace ga1:=ga1.same b5
  replace ga2:=ga2.same b5
  replace ga3:=ga3.same b5
  replace ga4:=ga4.same b5
  replace S:=S.trans b5
  generalize upd J4 a5 _=J5 at *
  refine⟨by show 3<=sizeLine;decide,λa6 ha6=>?_⟩
  have b6:=ak (o:=.tup [V.str "none",V.int (e:Int),V.int 1]) ha6
  have l6:bG K (upd J5 a6 (.tup [V.str "none",V.int (e:Int),V.int 1])) [V.str "none",V.int (e:Int),V.int 1]:=(.cons (.str (by decide +kernel)) (.cons (.int (by omega) (by omega)) (.cons (.int (by omega) (by omega)) .nil)))
  have ga6:GV K (upd J5 a6 (.tup [V.str "none",V.int (e:Int),V.int 1])) (.ref a6):=GV.tup (aQ.of ah) l6
  replace ga1:=ga1.same b6
  replace ga2:=ga2.same b6
  replace ga3:=ga3.same b6
  replace ga4:=ga4.same b6
  replace ga5:=ga5.same b6
  replace S:=S.trans b6
  generalize upd J5 a6 _=J6 at *
  refine⟨by show 2<=sizeLine;decide,λa7 ha7=>?_⟩
  have b7:=ak (o:=.tup [V.bo,V.ref a6]) ha7
  have l7:bG K (upd J6 a7 (.tup [V.bo,V.ref a6])) [V.bo,V.ref a6]:=(.cons .bo (.cons (ga6.same b7) .nil))
  have ga7:GV K (upd J6 a7 (.tup [V.bo,V.ref a6])) (.ref a7):=GV.tup (aQ.of ah) l7
  replace ga1:=ga1.same b7
  replace ga2:=ga2.same b7
  replace ga3:=ga3.same b7
  replace ga4:=ga4.same b7
  replace ga5:=ga5.same b7
  replace ga6:=ga6.same b7
  replace S:=S.trans b7
  generalize upd J6 a7 _=J7 at *
  refine⟨by show 3<=sizeLine;decide,λa8 ha8=>?_⟩
  have b8:=ak (o:=.lst [V.ref a3,V.ref a5,V.ref a7]) ha8
  have l8:bG K (upd J7 a8 (.lst [V.ref a3,V.ref a5,V.ref a7])) [V.ref a3,V.ref a5,V.ref a7]:=(.cons (ga3.same b8) (.cons (ga5.same b8) (.cons (ga7.same b8) .nil)))
  have ga8:GV K (upd J7 a8 (.lst [V.ref a3,V.ref a5,V.ref a7])) (.ref a8):=GV.lst (aT.of ah) l8
  have e8:(upd J7 a8 (.lst [V.ref a3,V.ref a5,V.ref a7])) a8=some (.lst [V.ref a3,V.ref a5,V.ref a7]):=ah
  replace ga1:=ga1.same b8
  replace ga2:=ga2.same b8
  replace ga3:=ga3.same b8
  replace ga4:=ga4.same b8
  replace ga5:=ga5.same b8
  replace ga6:=ga6.same b8
  replace ga7:=ga7.same b8
  replace S:=S.trans b8
  generalize upd J7 a8 _=J8 at *
  exact cD (aT.of e8) (by omega) (by show way%3<(3:Int);omega) λv hv=>done (O4.trans (cj.of S)) (t4.same S) (by omega) (l8.all v hv)
 rintro σ' H5 ⟨o8,o9,rfl,O5,t5⟩
 k_data
 refine⟨λσ' H'=>uZ K H t pv pp pw vx p e way (n+1) σ' H',?_,?_⟩
 ·k_data
  refine aD (λ_=>?_) (λ_=>⟨_,_,rfl,O5,t5⟩)
  refine aD (λnx=>?_) (λ_=>⟨_,_,rfl,O5,t5⟩)
  obtain⟨x,pl,rfl,hw,xe,hpl⟩:=hx.resolve_left nx
  refine⟨_,rfl,_,rfl,_,rfl,_,rfl,rfl,?_⟩
  refine⟨by show 6<=sizeLine;decide,λa1 ha1=>?_⟩
  have b1:=ak (o:=.lst [V.int ((x:Int)+(e:Int)),V.int ((x:Int)-(e:Int)),V.int ((x:Int)+1),V.bo,V.int ((x:Int)+p-1),V.bl (decide (V.int (x:Int)=V.int 1))]) ha1
  have l1:bG K (upd H5 a1 (.lst [V.int ((x:Int)+(e:Int)),V.int ((x:Int)-(e:Int)),V.int ((x:Int)+1),V.bo,V.int ((x:Int)+p-1),V.bl (decide (V.int (x:Int)=V.int 1))])) [V.int ((x:Int)+(e:Int)),V.int ((x:Int)-(e:Int)),V.int ((x:Int)+1),V.bo,V.int ((x:Int)+p-1),V.bl (decide (V.int (x:Int)=V.int 1))]:=(.cons (.int (by omega) (by omega)) (.cons (.int (by omega) (by omega)) (.cons (.int (by omega) (by omega)) (.cons .bo (.cons (.int (by omega) (by omega)) (.cons .bl .nil))))))
  have ga1:GV K (upd H5 a1 (.lst [V.int ((x:Int)+(e:Int)),V.int ((x:Int)-(e:Int)),V.int ((x:Int)+1),V.bo,V.int ((x:Int)+p-1),V.bl (decide (V.int (x:Int)=V.int 1))])) (.ref a1):=GV.lst (aT.of ah) l1
  have e1':(upd H5 a1 (.lst [V.int ((x:Int)+(e:Int)),V.int ((x:Int)-(e:Int)),V.int ((x:Int)+1),V.bo,V.int ((x:Int)+p-1),V.bl (decide (V.int (x:Int)=V.int 1))])) a1=some (.lst [V.int ((x:Int)+(e:Int)),V.int ((x:Int)-(e:Int)),V.int ((x:Int)+1),V.bo,V.int ((x:Int)+p-1),V.bl (decide (V.int (x:Int)=V.int 1))]):=ah
  have S:=b1
  generalize upd H5 a1 _=J1 at *
  have tb:=t5.same S
  refine⟨t,6,n+1,rfl,tb,by omega,by decide,by decide,λr Hb r0 r1 ob tc=>?_⟩
  have Ob:=(O5.trans (cj.of S)).trans ob.bY
  have eb:Hb a1=_:=(ob a1 (tb.ne e1' (by intro kvs c;cases c))).trans e1'
  refine cD (aT.of eb) r0 (by show r<(6:Int);exact r1) λv hv=>⟨by show 2<=sizeLine;decide,λa2 ha2=>?_⟩
  have gv:=(bG.bY l1 ob.bY tb).all v hv
  have b2:=ak (o:=.tup [v,V.ref pw]) ha2
  exact done (Ob.trans (cj.of b2)) (tc.same b2) (by omega) (GV.tup (aQ.of ah) (.cons (gv.same b2) (.cons (GV.tup ((W1 Ob).same b2) (.cons (.str c0) (.cons (.int (by omega) (by omega)) (.cons ((G3 Ob).same b2) .nil)))) .nil)))
 rintro σ' H6 ⟨o8,o9,rfl,O6,t6⟩
 k_data
 refine⟨λσ' H'=>uZ K H t pv pp pw vx p e way (n+2) σ' H',?_,?_⟩
 ·k_data
  refine aD (λ_=>?_) (λ_=>⟨_,_,rfl,O6,t6.mono (by omega)⟩)
  refine⟨t,2,n+1,rfl,t6,by omega,by decide,by decide,λr Ha r0 r1 oa ta=>⟨rfl,?_⟩⟩
  have Oa:=O6.trans oa.bY
  refine aD (λ_=>?_) (λ_=>⟨_,_,rfl,Oa,ta⟩)
  refine⟨by show 3<=sizeLine;decide,λa1 ha1=>?_⟩
  have b1:=ak (o:=.lst [V.int (e:Int),V.int (e:Int),V.int (p-1)]) ha1
  have l1:bG K (upd Ha a1 (.lst [V.int (e:Int),V.int (e:Int),V.int (p-1)])) [V.int (e:Int),V.int (e:Int),V.int (p-1)]:=(.cons (.int (by omega) (by omega)) (.cons (.int (by omega) (by omega)) (.cons (.int (by omega) (by omega)) .nil)))
  have ga1:GV K (upd Ha a1 (.lst [V.int (e:Int),V.int (e:Int),V.int (p-1)])) (.ref a1):=GV.lst (aT.of ah) l1
  have e1':(upd Ha a1 (.lst [V.int (e:Int),V.int (e:Int),V.int (p-1)])) a1=some (.lst [V.int (e:Int),V.int (e:Int),V.int (p-1)]):=ah
  have S:=b1
  generalize upd Ha a1 _=J1 at *
  have tb:=ta.same S
  refine⟨t,3,n+2,rfl,tb,by omega,by decide,by decide,λr' Hb r0' r1' ob tc=>?_⟩
  have Ob:=(Oa.trans (cj.of S)).trans ob.bY
  have eb:Hb a1=_:=(ob a1 (tb.ne e1' (by intro kvs c;cases c))).trans e1'
  refine cD (aT.of eb) r0' (by show r'<(3:Int);exact r1') λv hv=>?_
  have gv:=(bG.bY l1 ob.bY tb).all v hv
  refine⟨by show 3<=sizeLine;decide,λa2 ha2=>⟨by show 2<=sizeLine;decide,λa3 ha3=>?_⟩⟩
  have b2:=ak (o:=.tup [V.str "none",v,V.int 1]) ha2
  have b3:=ak (o:=.tup [V.bo,V.ref a2]) ha3
  exact done (Ob.trans (cj.of (b2.trans b3))) (tc.same (b2.trans b3)) (by omega) (GV.tup (aQ.of ah) (.cons .bo (.cons (GV.tup (aQ.of (b3 _ _ ah)) (.cons (.str (by decide +kernel)) (.cons (gv.same (b2.trans b3)) (.cons (.int (by omega) (by omega)) .nil)))) .nil)))
 rintro σ' H7 ⟨o8,o9,rfl,O7,t7⟩
 k_data
 refine⟨λσ' H'=>uZ K H t pv pp pw vx p e way (n+2) σ' H',?_,?_⟩
 ·k_data
  refine aD (λ_=>?_) (λ_=>⟨_,_,rfl,O7,t7⟩)
  refine⟨t,pw,n+2,_,rfl,t7,by omega,W1 O7,.cons (.str c0) (.cons (.int (by omega) (by omega)) (.cons (G3 O7) .nil)),by show 3<=1000;decide,λy H8 O8 t8 g8=>⟨by show 2<=sizeLine;decide,λa1 ha1=>?_⟩⟩
  have b1:=ak (o:=.tup [vx,y]) ha1
  exact done ((O7.trans O8).trans (cj.of b1)) (t8.same b1) (by omega) (GV.tup (aQ.of ah) (.cons gx (.cons (g8.same b1) .nil)))
 rintro σ' H8 ⟨o8,o9,rfl,O8,t8⟩
 k_data
 refine⟨λσ' H'=>uZ K H t pv pp pw vx p e way (n+2) σ' H',?_,?_⟩
 ·k_data
  refine aD (λ_=>?_) (λ_=>⟨_,_,rfl,O8,t8⟩)
  refine bC (W1 O8) gH ⟨qA (by decide),Bd.of (by omega) (by omega),qA (by decide),Bd.of (by omega) (by omega),qA (by decide),?_⟩
  refine⟨by show 6<=sizeLine;decide,λa1 ha1=>?_⟩
  have b1:=ak (o:=.lst [V.int (2*(e:Int)),V.int (3*(e:Int)),V.int (p-1),V.int ((e:Int)-1),V.int ((e:Int)/2),V.int (0-(e:Int))]) ha1
  have l1:bG K (upd H8 a1 (.lst [V.int (2*(e:Int)),V.int (3*(e:Int)),V.int (p-1),V.int ((e:Int)-1),V.int ((e:Int)/2),V.int (0-(e:Int))])) [V.int (2*(e:Int)),V.int (3*(e:Int)),V.int (p-1),V.int ((e:Int)-1),V.int ((e:Int)/2),V.int (0-(e:Int))]:=(.cons (.int (by omega) (by omega)) (.cons (.int (by omega) (by omega)) (.cons (.int (by omega) (by omega)) (.cons (.int (by omega) (by omega)) (.cons (.int (by omega) (by omega)) (.cons (.int (by omega) (by omega)) .nil))))))
  have ga1:GV K (upd H8 a1 (.lst [V.int (2*(e:Int)),V.int (3*(e:Int)),V.int (p-1),V.int ((e:Int)-1),V.int ((e:Int)/2),V.int (0-(e:Int))])) (.ref a1):=GV.lst (aT.of ah) l1
  have e1':(upd H8 a1 (.lst [V.int (2*(e:Int)),V.int (3*(e:Int)),V.int (p-1),V.int ((e:Int)-1),V.int ((e:Int)/2),V.int (0-(e:Int))])) a1=some (.lst [V.int (2*(e:Int)),V.int (3*(e:Int)),V.int (p-1),V.int ((e:Int)-1),V.int ((e:Int)/2),V.int (0-(e:Int))]):=ah
  have S:=b1
  generalize upd H8 a1 _=J1 at *
  have tb:=t8.same S
  refine⟨t,6,n+2,rfl,tb,by omega,by decide,by decide,λr' Hb r0' r1' ob tc=>?_⟩
  have Ob:=(O8.trans (cj.of S)).trans ob.bY
  have eb:Hb a1=_:=(ob a1 (tb.ne e1' (by intro kvs c;cases c))).trans e1'
  refine cD (aT.of eb) r0' (by show r'<(6:Int);exact r1') λv hv=>bC (W1 Ob) rfl ?_
  have gv:=(bG.bY l1 ob.bY tb).all v hv
  refine⟨by show 3<=sizeLine;decide,λa2 ha2=>⟨by show 2<=sizeLine;decide,λa3 ha3=>?_⟩⟩
  have b2:=ak (o:=.tup [V.str s0,v,w3]) ha2
  have b3:=ak (o:=.tup [vx,V.ref a2]) ha3
  have B:=b2.trans b3
  exact done (Ob.trans (cj.of B)) (tc.same B) (by omega) (GV.tup (aQ.of ah) (.cons gx (.cons (GV.tup (aQ.of (b3 _ _ ah)) (.cons (.str c0) (.cons (gv.same B) (.cons ((G3 Ob).same B) .nil)))) .nil)))
 rintro σ' H9 ⟨o8,o9,rfl,O9,t9⟩
 k_data
 refine⟨λσ' H'=>uZ K H t pv pp pw vx p e way (n+2) σ' H',?_,?_⟩
 ·k_data
  refine aD (λ_=>?_) (λ_=>⟨_,_,rfl,O9,t9⟩)
  refine aD (λnx=>?_) (λ_=>⟨_,_,rfl,O9,t9⟩)
  obtain⟨x,pl,rfl,hw,xe,hpl⟩:=hx.resolve_left nx
  refine bC (W1 O9) rfl ⟨t,w3,n+2,x,e,pl,rfl,t9,by omega,dv.bY hw O9 tt,hpl,fZ hpl (by omega),by omega,by omega,λy Hb Ob' tb gb=>?_⟩
  refine⟨by show 3<=sizeLine;decide,λa2 ha2=>⟨by show 2<=sizeLine;decide,λa3 ha3=>?_⟩⟩
  have b2:=ak (o:=.tup [V.str "is",V.int (e:Int),y]) ha2
  have b3:=ak (o:=.tup [V.int (x:Int),V.ref a2]) ha3
  have B:=b2.trans b3
  exact done ((O9.trans Ob').trans (cj.of B)) (tb.same B) (by omega) (GV.tup (aQ.of ah) (.cons (.int (by omega) (by omega)) (.cons (GV.tup (aQ.of (b3 _ _ ah)) (.cons (.str (by decide +kernel)) (.cons (.int (by omega) (by omega)) (.cons (gb.same B) .nil)))) .nil)))
 rintro σ' HA ⟨o8,o9,rfl,OA,tA⟩
 k_data
 exact done OA tA (by omega) (GV.tup (OA.kt tt _ _ hS) (.cons gx (.cons (GV.tup (W1 OA) (.cons (.str c0) (.cons (.int (by omega) (by omega)) (.cons (G3 OA) .nil)))) .nil)))
theorem zx {v:V} (hv:v∈[V.int 2000303,V.int 4800437,V.int 10002731,V.int 10000223,V.int 36000109,V.int 18000439,V.int 240000829,V.int 900001111]):∃ q:Int,v=.int q/\Num.Pm q/\q<=10^9:=by
 simp only [List.mem_cons,List.not_mem_nil,or_false] at hv
 rcases hv with rfl | rfl | rfl | rfl | rfl | rfl | rfl | rfl
 ·exact⟨2000303,rfl,dN (n:=2000303) (by decide +kernel) (by decide) (by decide) (by decide),by decide⟩
 ·exact⟨4800437,rfl,dN (n:=4800437) (by decide +kernel) (by decide) (by decide) (by decide),by decide⟩
 ·exact⟨10002731,rfl,dN (n:=10002731) (by decide +kernel) (by decide) (by decide) (by decide),by decide⟩
 ·exact⟨10000223,rfl,dN (n:=10000223) (by decide +kernel) (by decide) (by decide) (by decide),by decide⟩
 ·exact⟨36000109,rfl,dN (n:=36000109) (by decide +kernel) (by decide) (by decide) (by decide),by decide⟩
 ·exact⟨18000439,rfl,dN (n:=18000439) (by decide +kernel) (by decide) (by decide) (by decide),by decide⟩
 ·exact⟨240000829,rfl,dN (n:=240000829) (by decide +kernel) (by decide) (by decide) (by decide),by decide⟩
 ·exact⟨900001111,rfl,dN (n:=900001111) (by decide +kernel) (by decide) (by decide) (by decide),by decide⟩
theorem uF {p g:Int} {ps:List (Int × Int)} {ds:Nat->PyData} (pap:Num.fN p (.tuple [.int p,.int g,.tuple (Num.rowsOf ps ds)])) (hg:Num.LF p g) (hP:Num.Part (p-1) ps) (l:ps.length<=29) (hds:∀ i q k,ps[i]?=some (q,k)->Num.fN q (ds i)):oW p g ps ds:=by
 obtain⟨pm,p9⟩:=vC pap
 exact⟨pm,p9,hP,l,hds,hg.one,hg.lt,hg.ord,wN pap,Nat.le_trans (qa pap) (by decide)⟩
def ip:Sp:=λvs H Q _=>∃(p:Addr) (n:Nat),vs=[.ref p]/\Tp p n H/\n<=10^39/\∀ r H',Num.Pm r->r<=10^9->cj p H H'->Tp p (n+4) H'->Q (.int r) H'
theorem dh:ay ["_law_tape_here","_law_some"] ["_law_tape_here"] (aj (top 61)):=c5
theorem kH (D:av K mg "_law_prime_here" (top 61)) (c__law_draw:Callee P w K mg base aM 1 "_law_draw" ["_law_tape_here","_law_many"] eJ) (c__law_any_prime:Callee P w K mg base aM 3 "_law_any_prime" ["_law_tape_here"] jf):Callee P w K mg base aM 4 "_law_prime_here" ["_law_tape_here"] ip:=by
 refine cO D dh (λf cdv A outer s H vs Q E hr h=>?_)
 obtain⟨p,n,rfl,t,n9,q⟩:=h
 have nd:=dh.nd
 refine⟨_,(@ag _ _ _ _ _ (@cT _ _ 1 _ _ _ _ nd rfl (Or.inl rfl) (@bW _ _ _ _ (@kL _ _ _ rfl)) (by rfl) (by first | exact .inl rfl | exact .inr rfl | assumption)) (@ag _ _ _ _ _ (@aL _ _ _ _ _ _ _ _ (@aq _ _ _ _ _ _ _ _ aU (@aA _ _ _ _ _ _ _ _ _ _ _ _ c__law_draw (hr.mono (by decide)) rfl aw (@aa _ _ _ _ _ (pv 0) (@aa _ _ _ _ _ af ae (by rfl)) (by rfl)) (by decide) (by rfl) (by rfl)) af (ar _)) (@ai _ _ _ (@ax _ _ _ _ (@aH _ _ _ _ _ _ _ cw (pv 1) (@aH _ _ _ _ _ _ _ cw (@bW _ _ _ _ (@kL _ _ _ rfl)) (@aA _ _ _ _ _ _ _ _ _ _ _ _ c__law_draw (hr.mono (by decide)) rfl aw (@aa _ _ _ _ _ (pv 0) (@aa _ _ _ _ _ af ae (by rfl)) (by rfl)) (by decide) (by rfl) (by rfl)) (λ_ _=>rfl)) (λ_ _=>rfl)))) az) (@ai _ _ _ (@ax _ _ _ _ (@aA _ _ _ _ _ _ _ _ _ _ _ _ c__law_any_prime (hr.mono (by decide)) rfl aw (@aa _ _ _ _ _ (pv 0) ae (by rfl)) (by decide) (by rfl) (by rfl)))))),?_⟩
 show bL _ _ _ [some (.ref p),none] H
 k_data
 refine⟨by show 8<=sizeLine;decide,λp1 hp1=>?_⟩
 have s1:=ak (o:=.lst [V.int 2000303,V.int 4800437,V.int 10002731,V.int 10000223,V.int 36000109,V.int 18000439,V.int 240000829,V.int 900001111]) hp1
 have e1:upd H p1 (.lst [V.int 2000303,V.int 4800437,V.int 10002731,V.int 10000223,V.int 36000109,V.int 18000439,V.int 240000829,V.int 900001111]) p1=some (.lst [V.int 2000303,V.int 4800437,V.int 10002731,V.int 10000223,V.int 36000109,V.int 18000439,V.int 240000829,V.int 900001111]):=ah
 generalize upd H p1 _=H1 at *
 have t1:=t.same s1
 have O1:cj p H H1:=cj.of s1
 k_data
 refine⟨p,2,n,rfl,t1,by omega,by decide,by decide,λr2 H2 r20 r21 o2 t2=>⟨rfl,?_⟩⟩
 have O2:=O1.trans o2.bY
 have e2:H2 p1=_:=(o2 p1 (t1.ne e1 (by intro kvs c;cases c))).trans e1
 refine aD (λ_=>?_) (λ_=>?_)
 ·refine⟨by show 16<=sizeLine;decide,λp3 hp3=>?_⟩
  have s3:=ak (o:=.lst [V.int 0,V.int 1,V.int 2,V.int 3,V.int 4,V.int 5,V.int 0,V.int 1,V.int 2,V.int 3,V.int 4,V.int 5,V.int 2,V.int 3,V.int 6,V.int 7]) hp3
  have e3:upd H2 p3 (.lst [V.int 0,V.int 1,V.int 2,V.int 3,V.int 4,V.int 5,V.int 0,V.int 1,V.int 2,V.int 3,V.int 4,V.int 5,V.int 2,V.int 3,V.int 6,V.int 7]) p3=some (.lst [V.int 0,V.int 1,V.int 2,V.int 3,V.int 4,V.int 5,V.int 0,V.int 1,V.int 2,V.int 3,V.int 4,V.int 5,V.int 2,V.int 3,V.int 6,V.int 7]):=ah
  generalize upd H2 p3 _=H3 at *
  have t3:=t2.same s3
  have e23:=s3 _ _ e2
  refine⟨p,16,n+1,rfl,t3,by omega,by decide,by decide,λr4 H4 r40 r41 o4 t4=>?_⟩
  have O4:=(O2.trans (cj.of s3)).trans o4.bY
  have e4:H4 p3=_:=(o4 p3 (t3.ne e3 (by intro kvs c;cases c))).trans e3
  have e24:H4 p1=_:=(o4 p1 (t3.ne e23 (by intro kvs c;cases c))).trans e23
  refine cD (aT.of e4) r40 (by show r4<(16:Int);exact r41) λv hv=>?_
  obtain⟨k,rfl,k0,k8⟩:∃ k:Int,v=.int k/\0<=k/\k<8:=by
   simp only [List.mem_cons,List.not_mem_nil,or_false] at hv
   rcases hv with rfl | rfl | rfl | rfl | rfl | rfl | rfl | rfl | rfl | rfl | rfl | rfl | rfl | rfl | rfl | rfl<;>exact⟨_,rfl,by decide,by decide⟩
  refine cD (aT.of e24) k0 (by show k<(8:Int);exact k8) λv hv=>?_
  obtain⟨r,rfl,pm,r9⟩:=zx hv
  exact q r H4 pm r9 O4 (t4.mono (by omega))
 ·exact⟨p,n+1,rfl,t2,by omega,λr H3 pm r9 o3 t3=>q r H3 pm r9 (O2.trans o3.bY) (t3.mono (by omega))⟩
def oN (K:PySem.W.Frag):Sp:=λvs H Q _=>∃(v:V) (p g b a:Int) (ps:List (Int × Int)) (ds:Nat->PyData) (x e:Nat),vs=[v,.int b,.int a,.int x]/\dv K H (.tuple [.int p,.int g,.tuple (Num.rowsOf ps ds)]) v/\Num.fN p (.tuple [.int p,.int g,.tuple (Num.rowsOf ps ds)])/\oW p g ps ds/\¬p∣b /\ -(10^60)<=b/\b<=10^60 /\ -(10^60)<=a/\a<=10^60/\Num.Ord p b e/\x<e/\(Num.Al p (a^e) 1->Num.Al p a (b^x))/\∀ dx d2 s0 u H',sR e dx d2->PyData.canLay0 (.str s0)=true->jC p b a (.tuple [dx,.tuple [.str s0,.int e,d2]])->aB H H'->dv K H' (.tuple [dx,.tuple [.str s0,.int e,d2]]) u->Q u H'
theorem dD:ay ["_law_paper","_law_b","_law_a","_law_x","_law_e","_law_rest"] ["_law_paper","_law_b","_law_a","_law_x"] (aj (top 62)):=c5
theorem rh (D:av K mg "_law_due_great" (top 62)) (c__law_order_by:Callee P w K mg base aM 2 "_law_order_by" ["_law_paper","_law_b"] (gR K)) (c__law_power:Callee P w K mg base aM 1 "_law_power" ["_law_n","_law_a","_law_e"] kZ) (c__law_is:Callee P w K mg base aM 2 "_law_is" ["_law_paper","_law_x","_law_e"] (uO K)):Callee P w K mg base aM 3 "_law_due_great" ["_law_paper","_law_b","_law_a","_law_x"] (oN K):=by
 refine cO D dD (λf cdv A outer s H vs Q E hr h=>?_)
 obtain⟨v,p,g,b,a,ps,ds,x,e,rfl,hd,pap,R,nb,b0,b1,a0,a1,o,xe,hal,q⟩:=h
 have p2:=R.pm.two
 have p9:=R.p9
 obtain⟨ed,ep⟩:=rC R.pm o
 have e0:=o.pos
 have nd:=dD.nd
 refine⟨_,(@ag _ _ _ _ _ (@cT _ _ 4 _ _ _ _ nd rfl (Or.inl rfl) (@aA _ _ _ _ _ _ _ _ _ _ _ _ c__law_order_by (hr.mono (by decide)) rfl aw (@aa _ _ _ _ _ (pv 0) (@aa _ _ _ _ _ (pv 1) ae (by rfl)) (by rfl)) (by decide) (by rfl) (by rfl)) (by rfl) (by first | exact .inl rfl | exact .inr rfl | assumption)) (@ag _ _ _ _ _ (@cT _ _ 5 _ _ _ _ nd rfl (Or.inl rfl) (@aA _ _ _ _ _ _ _ _ _ _ _ _ c__law_power (hr.mono (by decide)) rfl aw (@aa _ _ _ _ _ (@aH _ _ _ _ _ _ _ aI (pv 0) af (λ_ _=>rfl)) (@aa _ _ _ _ _ (pv 2) (@aa _ _ _ _ _ (pv 4) ae (by rfl)) (by rfl)) (by rfl)) (by decide) (by rfl) (by rfl)) (by rfl) (by first | exact .inl rfl | exact .inr rfl | assumption)) (@ag _ _ _ _ _ (@aL _ _ _ _ _ _ _ _ (@aq _ _ _ _ _ _ _ _ iQ (pv 5) af (ar _)) (@ai _ _ _ (@ax _ _ _ _ (@aF _ _ _ _ _ (@aa _ _ _ _ _ c9 (@aa _ _ _ _ _ (@aF _ _ _ _ _ (@aa _ _ _ _ _ a9 (@aa _ _ _ _ _ (pv 4) (@aa _ _ _ _ _ (pv 5) ae (by rfl)) (by rfl)) (by rfl))) ae (by rfl)) (by rfl))))) az) (@ai _ _ _ (@ax _ _ _ _ (@aA _ _ _ _ _ _ _ _ _ _ _ _ c__law_is (hr.mono (by decide)) rfl aw (@aa _ _ _ _ _ (pv 0) (@aa _ _ _ _ _ (pv 3) (@aa _ _ _ _ _ (pv 4) ae (by rfl)) (by rfl)) (by rfl)) (by decide) (by rfl) (by rfl))))))),?_⟩
 show bL _ _ _ [some v,some (.int b),some (.int a),some (.int (x:Int)),none,none] H
 have hd':=hd
 obtain⟨pp,y1,y2,vr,rfl,tS,g0,gg,dr⟩:=iK hd
 cases g0
 cases gg
 k_data
 refine⟨_,p,b,g,_,rfl,hd',pap,b0,b1,nb,λe' o' ep'=>?_⟩
 obtain rfl:=o.gM o'
 refine bC tS gH ⟨p,a,_,rfl,by omega,by omega,by omega,by omega,by omega,?_⟩
 rw [Int.toNat_natCast]
 refine⟨rfl,aD (λc=>?_) (λc=>?_)⟩
 ·have n1:¬Num.Al p (a^e) 1:=λz=>c (congrArg V.int ((cq p2).mpr z))
  refine⟨by show 3<=sizeLine;decide,λp3 hp3=>⟨by show 2<=sizeLine;decide,λp4 hp4=>?_⟩⟩
  have s3:=ak (o:=.tup [V.str "none",V.int (e:Int),V.int (a^e%p)]) hp3
  have s4:=ak (o:=.tup [V.bo,V.ref p3]) hp4
  have m0:=Int.emod_nonneg (a^e) (show p≠0 by omega)
  have m1:=Int.emod_lt_of_pos (a^e) (show 0<p by omega)
  exact q .none (.int (a^e%p)) "none" _ _ (.inl ⟨rfl,_,rfl,m0,by omega⟩) (by decide +kernel) ⟨e,o,.inl ⟨n1,rfl⟩⟩ (s3.trans s4) (dv.tup ah ⟨_,_,rfl,rfl,.one (dv.tup (s4 _ _ ah) ⟨_,_,rfl,rfl,_,_,rfl,rfl,.one rfl⟩)⟩)
 ·have a1':Num.Al p (a^e) 1:=(cq p2).mp (V.int.inj (Classical.not_not.mp c))
  exact⟨_,p,g,ps,ds,x,e,rfl,hd',R.hP,R.l29,R.hds,p9,by omega,ed,p2,λpl u H' hpl s' hu=>q (.int x) _ "is" u H' (.inr ⟨x,pl,rfl,rfl,xe,hpl⟩) (by decide +kernel) ⟨e,o,.inr ⟨x,pl,xe,hal a1',hpl,rfl⟩⟩ s' hu⟩
end
end K
namespace K
open PySem PySem.Spec PyProof.Rows L2
section
variable {P:Program} {w:World} {K:PySem.W.Frag} {mg:Str->Option Value} {base:Heap}
theorem uA {a d L:Int} (hd:0<d) (h0:-L<=a) (h1:a<=L):-L<=a/d/\a/d<=L:=by
 have L0:0<=L:=by omega
 have h2:L*1<=L*d:=Int.mul_le_mul_of_nonneg_left (show 1<=d by omega) L0
 refine⟨Int.le_ediv_of_mul_le hd (by rw [Int.neg_mul];omega),Int.ediv_le_of_le_mul hd (by omega)⟩
def vH (K:PySem.W.Frag):Sp:=λvs H Q _=>∃(a:Addr) (ns:List Int),vs=[.ref a]/\aT K H a (ns.map V.int)/\ns.length<=63/\∀ H',Q (.bl true) H'
end
end K
namespace L2
open PySem PySem.Spec PyProof.Rows
theorem uq {X:Cx}:fz X (compareOp .IsNot) (λx y H Q=>∃ b c:Bool,x=.bl b/\y=.bl c/\Q (.bl (b != c)) H):=by
 intro pins s σ H x y v u Q I rx ry h
 obtain⟨b,c,rfl,rfl,q⟩:=h
 cases rx
 cases ry
 exact PyProof.Rows.isnot_bool (aN I q rfl)
end L2
namespace K
open PySem PySem.Spec PyProof.Rows L2
section
variable {P:Program} {w:World} {K:PySem.W.Frag} {mg:Str->Option Value} {base:Heap} {C:Addr}
theorem xi {x:Nat} {y:Int × Int} (h:y.2<=30):sT 6 (dQ x y):=by
 unfold dQ
 simp only [sT,qr,and_true,List.length_cons,List.length_nil,List.length_map,Num.dS,true_and]
 refine⟨by decide,by omega,kT λd hd=>?_⟩
 obtain⟨i,_,rfl⟩:=List.mem_map.mp hd
 simp only [sT]
theorem xh {e:Nat} {dx d2:PyData} {s0:Str} (e1:1<=e) (e9:e<=10^9) (h:sR e dx d2):sT 9 (.tuple [dx,.tuple [.str s0,.int e,d2]]):=by
 rcases h with⟨rfl,r,rfl,_⟩|⟨x,pl,rfl,rfl,_,hpl⟩
 ·simp only [sT,qr,and_true,true_and,List.length_cons,List.length_nil]
  decide
 ·have few:=fZ hpl e9
  simp only [sT,qr,and_true,true_and,List.length_cons,List.length_nil,List.length_map]
  refine⟨by decide,by decide,by omega,kT λd hd=>?_⟩
  obtain⟨y,hy,rfl⟩:=List.mem_map.mp hd
  exact xi (hpl.ok y hy).2.2
theorem we {e:Nat} {dx d2:PyData} {s0:Str} (c0:PyData.canLay0 (.str s0)=true) (e1:1<=e) (e9:e<=10^9) (h:sR e dx d2):gd (.tuple [dx,.tuple [.str s0,.int e,d2]]):=by
 rcases h with⟨rfl,r,rfl,r0,r1⟩|⟨x,pl,rfl,rfl,xe,hpl⟩
 ·simp only [gd,iy,and_true,true_and]
  exact⟨c0,by omega,by omega⟩
 ·simp only [gd,iy,and_true,true_and]
  exact⟨by omega,c0,by omega,fU hpl e1 e9⟩
theorem jC.one {p b a:Int} {d d':PyData} (h:jC p b a d) (h':jC p b a d'):d=d':=by
 obtain⟨e,o,h⟩:=h
 obtain⟨e',o',h'⟩:=h'
 obtain rfl:=o.gM o'
 have one:∀ x,Num.Al p a (b^x)->Num.Al p (a^e) 1:=λx al=>by
  refine (al.pow e).trans ?_
  rw [<- Int.pow_mul,Nat.mul_comm,Int.pow_mul]
  have h5:=o.one.pow x
  rwa [Int.one_pow] at h5
 rcases h with⟨n1,rfl⟩|⟨x,pl,xe,al,hpl,rfl⟩
 ·rcases h' with⟨_,rfl⟩|⟨x',pl',_,al',_,_⟩
  ·rfl
  ·exact absurd (one x' al') n1
 ·rcases h' with⟨n1,_⟩|⟨x',pl',xe',al',hpl',rfl⟩
  ·exact absurd (one x al) n1
  ·obtain rfl:=Num.jZ o xe xe' al al'
   obtain rfl:=hpl.one hpl'
   rfl
theorem u6 {dx de s0 s2:PyData} (h:gd (.tuple [dx,.tuple [s0,de,s2]])):bI dx/\bI de:=by
 simp only [gd,iy,and_true] at h
 refine⟨λi z=>?_,λi z=>?_⟩
 ·have h1:=h.1
  rw [z] at h1
  simp only [gd] at h1
  omega
 ·have h1:=h.2.2.1
  rw [z] at h1
  simp only [gd] at h1
  omega
theorem rO {p g:Int} (pm:Num.Pm p) (ng:¬p∣g) (k:Nat):¬p∣g^k%p:=λz=>by
 have h1:p∣g^k:=by
  have:=Int.emod_add_mul_ediv (g^k) p
  rw [<- this]
  exact Int.dvd_add z (Int.dvd_mul_right _ _)
 induction k with
 | zero =>
  rw [Int.pow_zero] at h1
  have:=Int.le_of_dvd (by decide) h1
  have:=pm.two
  omega
 | succ k ih =>
  rw [Int.pow_succ,Int.mul_comm] at h1
  have h2:=pm.or h1 ng
  exact ih (by rw [Int.emod_eq_zero_of_dvd h2];exact Int.dvd_zero p) h2
def Ab (H3:Hp) (sc t:Addr) (p:Int) (vp:V) (σ':L2.St) (H':Hp):Prop:=∃(b:Int) (o5:Option V),σ'=[some (.ref sc),some (.ref t),some (.int p),some vp,some (.int b),o5,none,none,none,none,none,none]/\cj t H3 H'/\Tp t 20 H'/\¬p∣b/\0<=b/\b<=10^9
def zO (H3:Hp) (sc t:Addr) (p b:Int) (vp:V) (e x:Nat) (o5:Option V) (σ':L2.St) (H':Hp):Prop:=∃(a:Int) (o8:Option V),σ'=[some (.ref sc),some (.ref t),some (.int p),some vp,some (.int b),o5,some (.int (x:Int)),some (.int a),o8,none,none,none]/\cj t H3 H'/\Tp t 40 H'/\¬p∣a/\0<=a/\a<=10^9/\(Num.Al p (a^e) 1->Num.Al p a (b^x))
def Ac (H3:Hp) (sc t:Addr) (p b a:Int) (vp u:V) (x:Nat) (o5 o8:Option V) (i:Nat) (σ':L2.St) (H':Hp):Prop:=∃(o10 o11:Option V),σ'=[some (.ref sc),some (.ref t),some (.int p),some vp,some (.int b),o5,some (.int (x:Int)),some (.int a),o8,some u,o10,o11]/\cj t H3 H'/\Tp t (40+40*i) H'
theorem rX:ay ["_law_script","_law_tape_here","_law_p","_law_paper","_law_b","_law_step","_law_x","_law_a","_law_other","_law_due","_law_turn","_law_thing"] ["_law_script"] (aj (top 63)):=c5
theorem wF {fl:Addr} {fdl:FuncData} (F:sP K "law" "law" (top 63) fl fdl) (c__law_tape:Callee P w K mg base aM 1 "_law_tape" ["_law_script"] (sj K)) (c__law_draw:Callee P w K mg base aM 1 "_law_draw" ["_law_tape_here","_law_many"] eJ) (c__law_prime_here:Callee P w K mg base aM 4 "_law_prime_here" ["_law_tape_here"] ip) (c_prime_paper:Callee P w K mg base (fu P w) 67 "prime_paper" ["n"] (mx K)) (c__law_far:Callee P w K mg base aM 2 "_law_far" ["_law_tape_here","_law_many"] kX) (c__law_common:Callee P w K mg base aM 1 "_law_common" ["_law_one","_law_other"] mw) (c__law_power:Callee P w K mg base aM 1 "_law_power" ["_law_n","_law_a","_law_e"] kZ) (c__law_order_by:Callee P w K mg base aM 2 "_law_order_by" ["_law_paper","_law_b"] (gR K)) (c__law_due_great:Callee P w K mg base aM 3 "_law_due_great" ["_law_paper","_law_b","_law_a","_law_x"] (oN K)) (c_shows_which:Callee P w K mg base aM 17 "shows_which" ["paper","b","a","thing"] (mC K)) (c__law_bent:Callee P w K mg base aM 5 "_law_bent" ["_law_tape_here","_law_due","_law_paper"] (rY K)) (c__law_same:Callee P w K mg base aM 10 "_law_same" ["_law_found","_law_due"] (ft K 9)) (n_range:mg "range"=none):cS P w K mg base aM 68 fl fdl ["_law_script"] (vH K):=by
 refine tH F rX (λvs H Q E h=>by obtain⟨a,b,rfl,_⟩:=h;rfl) (λcdv A outer s H vs Q E hr h=>?_)
 obtain⟨sc,ns,rfl,hS,h63,q⟩:=h
 have nd:=rX.nd
 refine⟨_,(ag (bV (i:=1) nd (bF c__law_tape hr aw (aa (pv 0) ae))) (ag (bV (i:=2) nd (bF c__law_prime_here hr aw (aa (pv 1) ae))) (ag (bV (i:=3) nd (bF c_prime_paper hr bS (aa (pv 2) ae))) (ag (bV (i:=4) nd (ao aX af (bF c__law_far hr aw (aa (pv 1) (aa (ao bD (pv 2) af) ae))))) (ag (bT (aL (aq aU (bF c__law_draw hr aw (aa (pv 1) (aa af ae))) af (ar _)) (ag (bV (i:=5) nd (ao bJ (ao bD (pv 2) af) (bF c__law_common hr aw (aa (ao aX af (bF c__law_draw hr aw (aa (pv 1) (aa af ae)))) (aa (ao bD (pv 2) af) ae))))) (ai (bV (i:=4) nd (bF c__law_power hr aw (aa (pv 2) (aa (aH aI (pv 3) af (λ_ _=>rfl)) (aa (ao aW (pv 5) (ao aX af (bF c__law_draw hr aw (aa (pv 1) (aa af ae))))) ae))))))) az)) (ag (bV (i:=6) nd (bF c__law_far hr aw (aa (pv 1) (aa (bF c__law_order_by hr aw (aa (pv 3) (aa (pv 4) ae))) ae)))) (ag (bV (i:=7) nd (bF c__law_power hr aw (aa (pv 2) (aa (pv 4) (aa (pv 6) ae))))) (ag (bT (aL (aq aU (bF c__law_draw hr aw (aa (pv 1) (aa af ae))) af (ar _)) (ag (bV (i:=8) nd (ao aX af (bF c__law_far hr aw (aa (pv 1) (aa (ao bD (pv 2) af) ae))))) (ai (aL (aq iQ (bF c__law_power hr aw (aa (pv 2) (aa (pv 8) (aa (bF c__law_order_by hr aw (aa (pv 3) (aa (pv 4) ae))) ae)))) af (ar _)) (ai (bV (i:=7) nd (pv 8))) az))) az)) (ag (bV (i:=9) nd (bF c__law_due_great hr aw (aa (pv 3) (aa (pv 4) (aa (pv 7) (aa (pv 6) ae)))))) (ag (aL (aq uq (bF c_shows_which hr aw (aa (pv 3) (aa (pv 4) (aa (pv 7) (aa (pv 9) ae))))) cH (ar _)) (ai (ax cH)) az) (ag (nO PassesOwn.never rfl (qf rfl n_range (aa af ae)) (aE (i:=10) nd rfl (Or.inl rfl) (.inr rfl)) (ag (bV (i:=11) nd (bF c__law_bent hr aw (aa (pv 1) (aa (pv 9) (aa (pv 3) ae))))) (ai (aL (dO (aP (bF c__law_same hr aw (aa (bF c_shows_which hr aw (aa (pv 3) (aa (pv 4) (aa (pv 7) (aa (pv 11) ae))))) (aa (bF c__law_same hr aw (aa (pv 11) (aa (pv 9) ae))) ae))) (λ_=>rfl))) (ai (ax cH)) az)))) (ai (ax cH))))))))))))),?_⟩
 show bL _ _ _ [some (.ref sc),none,none,none,none,none,none,none,none,none,none,none] H
 k_data
 refine⟨sc,ns,rfl,hS,h63,λt H1 s1 f1 t1=>⟨t,0,rfl,t1,by decide,λp H2 pm p9 O2 t2=>⟨p,rfl,pm,p9,λd vp H3 pap s3 hv=>?_⟩⟩⟩
 obtain⟨g,ps,ds,rfl,hg,hP,l29,hds⟩:=oE pap
 have R:=uF pap hg hP l29 hds
 have p2:=pm.two
 have t3:=t2.same s3
 have g1:=hg.one
 have gp:=hg.lt
 have ng:¬p∣g:=λz=>by have:=Int.le_of_dvd (by omega) z;omega
 refine⟨_,rfl,t,_,_,rfl,t3,by decide,by omega,λr4 H4 r40 r41 o4 t4=>⟨_,rfl,?_⟩⟩
 have r0:=λx:Int=>Int.emod_nonneg x (show p≠0 by omega)
 have r1:=λx:Int=>Int.emod_lt_of_pos x (show 0<p by omega)
 refine⟨λσ' H'=>Ab H3 sc t p vp σ' H',?_,?_⟩
 ·k_data
  refine⟨t,2,_,rfl,t4,by decide,by decide,by decide,λr5 H5 r50 r51 o5 t5=>⟨rfl,?_⟩⟩
  have O5:=o4.bY.trans o5.bY
  refine aD (λ_=>?_) (λ_=>⟨_,_,rfl,O5,t5.mono (by decide),λz=>by have:=Int.le_of_dvd (by omega) z;omega,by omega,by omega⟩)
  refine⟨t,5000,_,rfl,t5,by decide,by decide,by decide,λr6 H6 r60 r61 o6 t6=>⟨r6,rfl,?_⟩⟩
  have O6:=O5.trans o6.bY
  obtain⟨c,rfl⟩:∃ k:Nat,r6=k:=⟨r6.toNat,by omega⟩
  obtain⟨pn,hpn⟩:∃ k:Nat,p-1=k:=⟨(p-1).toNat,by omega⟩
  have gc0:0<Nat.gcd (1+c) pn:=Nat.gcd_pos_of_pos_left _ (by omega)
  have gc1:Nat.gcd (1+c) pn<=1+c:=Nat.gcd_le_left _ (by omega)
  refine⟨1+c,pn,by rw [hpn];rfl,⟨_,rfl,by omega,Bd.of (by omega) (by omega),?_⟩⟩
  have st0:=Int.ediv_nonneg (show 0<=p-1 by omega) (show (0:Int)<=(Nat.gcd (1+c) pn:Nat) by omega)
  have st1:=Int.ediv_le_self (a:=p-1) ((Nat.gcd (1+c) pn:Nat):Int) (by omega)
  generalize (p-1)/((Nat.gcd (1+c) pn:Nat):Int)=st at *
  have hv6:=dv.bY hv O6 t3
  obtain⟨pp,y1,y2,vr,rfl,tS,z0,zg,dr⟩:=iK hv6
  cases z0
  cases zg
  refine bC tS tu ⟨t,99,_,rfl,t6,by decide,by decide,by decide,λr7 H7 r70 r71 o7 t7=>⟨r7,rfl,Bd.of (by omega) (by omega),Bd.of (by omega) (by omega),p,g,_,rfl,by omega,by omega,by omega,by omega,Int.mul_nonneg st0 (by omega),?_⟩⟩
  have h0:=r0 (g^(st*(1+r7)).toNat)
  have h1:=r1 (g^(st*(1+r7)).toNat)
  exact⟨_,_,rfl,O6.trans o7.bY,t7.mono (by decide),rO pm ng _,h0,by omega⟩
 rintro σ' H5 ⟨b,o5,rfl,O5,t5,nb,b0,b1⟩
 k_data
 have hv5:=dv.bY hv O5 t3
 refine⟨vp,p,b,g,_,rfl,hv5,pap,by omega,by omega,nb,λe o ep=>?_⟩
 have e0:=o.pos
 obtain⟨ed,_⟩:=rC pm o
 refine⟨t,_,20,rfl,t5,by decide,by omega,λx' H6 x0 x1 o6 t6=>?_⟩
 obtain⟨x,rfl⟩:∃ k:Nat,x'=k:=⟨x'.toNat,by omega⟩
 have O6:=O5.trans o6.bY
 refine⟨p,b,_,rfl,by omega,by omega,by omega,by omega,by omega,?_⟩
 rw [Int.toNat_natCast]
 have h0:=r0 (b^x)
 have h1:=r1 (b^x)
 refine⟨λσ' H'=>zO H3 sc t p b vp e x o5 σ' H',?_,?_⟩
 ·k_data
  have base2:∀{H7:Hp} {n7:Nat} {o8:Option V},cj t H3 H7->Tp t n7 H7->n7<=40->zO H3 sc t p b vp e x o5 [some (.ref sc),some (.ref t),some (.int p),some vp,some (.int b),o5,some (.int (x:Int)),some (.int (b^x%p)),o8,none,none,none] H7:=λO7 t7 h7=>⟨_,_,rfl,O7,t7.mono h7,rO pm nb x,h0,by omega,λ_=>Num.Al.iff.mpr (Int.emod_emod _ _)⟩
  refine⟨t,4,_,rfl,t6,by decide,by decide,by decide,λr7 H7 r70 r71 o7 t7=>⟨rfl,?_⟩⟩
  have O7:=O6.trans o7.bY
  refine aD (λ_=>?_) (λ_=>base2 O7 t7 (by decide))
  refine⟨t,_,_,rfl,t7,by decide,by omega,λr8 H8 r80 r81 o8 t8=>⟨r8,rfl,?_⟩⟩
  have O8:=O7.trans o8.bY
  have hv8:=dv.bY hv O8 t3
  refine⟨vp,p,b,g,_,rfl,hv8,pap,by omega,by omega,nb,λe' o' ep'=>?_⟩
  obtain rfl:=o.gM o'
  refine⟨p,1+r8,_,rfl,by omega,by omega,by omega,by omega,by omega,rfl,?_⟩
  rw [Int.toNat_natCast]
  refine aD (λc=>?_) (λ_=>base2 O8 t8 (by decide))
  exact⟨_,_,rfl,O8,t8.mono (by decide),λz=>by have:=Int.le_of_dvd (by omega) z;omega,by omega,by omega,λz=>absurd (congrArg V.int ((cq p2).mpr z)) c⟩
 rintro σ' H7 ⟨a,o8,rfl,O7,t7,na,a0,a1,hal⟩
 k_data
 have hv7:=dv.bY hv O7 t3
 refine⟨vp,p,g,b,a,ps,ds,x,e,rfl,hv7,pap,R,nb,by omega,by omega,by omega,by omega,o,by omega,hal,λdx d2 s0 u H8 hD c0 hI s8 hu=>?_⟩
 have O8:=O7.trans (cj.of s8)
 have t8:=t7.same s8
 have gdu:=we c0 e0 (by omega) hD
 refine⟨vp,u,_,p,g,b,a,ps,ds,rfl,dv.bY hv O8 t3,R,na,hu,gd.lay _ gdu,λdx' s0' de' s2' z=>u6 (z▸gdu),λbb H9 hb s9=>⟨bb,rfl,?_⟩⟩
 have hbb:bb=true:=hb.mpr hI
 subst hbb
 rw [if_neg (by decide)]
 have t9:=t8.same s9
 have hu9:=dv.same s9 _ hu
 have hv9:=dv.bY hv (O8.trans (cj.of s9)) t3
 refine ni (λi σ' H'=>Ac H9 sc t p b a vp u x o5 o8 i σ' H') ⟨_,_,rfl,cj.of (aB.refl _),t9⟩ ?_ ?_
 ·rintro i σ' HA hi ⟨o10,o11,rfl,OA,tA⟩
  k_data
  refine⟨t,u,vp,_,e,dx,d2,s0,p,g,ps,ds,rfl,tA,by omega,dv.bY hu9 OA t9,c0,hD,dv.bY hv9 OA t9,hP,l29,hds,p9,e0,ed,p2,λy HB OB tB gy=>?_⟩
  obtain⟨dy,hy,gdy⟩:=gy
  have OB':=OA.trans OB
  have huB:=dv.bY hu9 OB' t9
  refine⟨vp,y,dy,p,g,b,a,ps,ds,rfl,dv.bY hv9 OB' t9,R,na,hy,gd.lay _ gdy,λ_ _ _ _ z=>u6 (z▸gdy),λbb HC hbb sC=>?_⟩
  refine⟨y,u,dy,_,rfl,dv.same sC _ hy,dv.same sC _ huB,gd.lay _ gdy,gd.lay _ gdu,xh e0 (by omega) hD,λb2 HD hb2 sD=>?_⟩
  refine⟨.bl bb,.bl b2,.bool bb,.bool b2,rfl,rfl,rfl,rfl,rfl,by simp only [sT],λb3 HE hb3 sE=>⟨b3,aG.mpr rfl,?_⟩⟩
  have e12:bb=b2:=by
   rw [Bool.eq_iff_iff,hbb,hb2]
   exact⟨λz=>z.one hI,λz=>z▸hI⟩
  have h3:b3=true:=hb3.mpr (by rw [e12])
  subst h3
  rw [if_neg (by decide)]
  have SE:=sC.trans (sD.trans sE)
  exact⟨_,_,rfl,OB'.trans (cj.of SE),(tB.same SE).mono (by omega)⟩
 ·rintro σ' HA ⟨o10,o11,rfl,OA,tA⟩
  k_data
  exact q _
end
end K
namespace PySem.W.Fast
def tw1888286615793506587:=0
def tw12454597537783108704:=0
def tw154339706263798944:=0
def tw9122127402878152864:=0
def tw16753061319901470944:=0
def tw3325766284387724832:=0
def tw8055546622961565248:=0
def tw17044627968513878720:=0
def tw2331129769935043456:=0
def tw1767136862243577857:=0
def tw18234551136691267745:=0
def tw15214205555437443393:=0
def tw2386307011183345057:=0
def tw10250531157746075425:=0
def tw15864260123585183521:=0
def tw5474430637968593825:=0
def tw13071204025876100033:=0
def tw3005323713524558785:=0
def tw15121882917477422242:=0
def tw17476541939478481186:=0
def tw3119673099561801058:=0
def tw17647910842832729442:=0
def tw11868722521331447170:=0
def tw4301668049731778018:=0
def tw14684363689171795522:=0
def tw10317931329253951138:=0
def tw3270725656945716994:=0
def tw4392466963524717378:=0
def tw5287718303305680770:=0
def tw1294058997186550658:=0
def tw7426477570321102754:=0
def tw240024777348297666:=0
def tw1510983717966073794:=0
def tw8721376396253287427:=0
def tw9489363301077188867:=0
def tw15644875585456565635:=0
def tw2982152964219306627:=0
def tw9421106250166738595:=0
def tw17330285689045842659:=0
def tw7415791270962542403:=0
def tw12885992294329116579:=0
def tw3091219545847866339:=0
def tw6290905108729926788:=0
def tw4280617819278021892:=0
def tw7345825688285100580:=0
def tw8624962248341590596:=0
def tw2971471270393317092:=0
def tw7584027463910181732:=0
def tw13881302593006271493:=0
def tw8803772156807823429:=0
def tw14996825246266184005:=0
def tw11000558833291256197:=0
def tw5281759857476866469:=0
def tw13541887479429873061:=0
def tw3038516335533472421:=0
def tw6120748629243426629:=0
def tw17728290584102777765:=0
def tw8344468405625869318:=0
def tw1667395444558183590:=0
def tw8105088030231843238:=0
def tw13259354342483514022:=0
def tw13318293964261703719:=0
def tw7748483683983561799:=0
def tw7141144848917146695:=0
def tw17253613676736455783:=0
def tw15988526709724248295:=0
def tw10791733208988713479:=0
def tw4996196019129603591:=0
def tw11898019971976551175:=0
def tw12207846521536843623:=0
def tw2436693211813247016:=0
def tw11574843414705590376:=0
def tw11362747717670536424:=0
def tw10281313798963533032:=0
def tw9484946224549284168:=0
def tw3575983381849273704:=0
def tw478013201292327368:=0
def tw5432842080343701224:=0
def tw17519242573150506153:=0
def tw6565874720768194761:=0
def tw5532285318549416617:=0
def tw170256881554075369:=0
def tw2896078865636109129:=0
def tw14695176838620293065:=0
def tw2579003176520326218:=0
def tw3109489475026033226:=0
def tw5184119137919808106:=0
def tw2753166638565070506:=0
def tw8146983289505603242:=0
def tw1226972773285575370:=0
def tw4261326572849470186:=0
def tw10763108159442551626:=0
def tw14642155679635975082:=0
def tw8237380012495047787:=0
def tw3108354339632165227:=0
def tw8123795386982490475:=0
def tw1732477317460920715:=0
def tw5889913136622536107:=0
def tw1299264295062807051:=0
def tw9975978565328286251:=0
def tw6559891250272076363:=0
def tw160427663240737515:=0
def tw11509784004825891595:=0
def tw15319099972497891083:=0
def tw11201411568662588267:=0
def tw5278980336080378795:=0
def tw15811983619983379660:=0
def tw10502164086325153036:=0
def tw4933813874210786668:=0
def tw8050232832397845964:=0
def tw12730446759942064716:=0
def tw2080633929519087372:=0
def tw13068862273814652844:=0
def tw7050922281304145965:=0
def tw3430935420911093965:=0
def tw587337884217213229:=0
def tw9386748126064999789:=0
def tw18179123615013862349:=0
def tw14246912099041750030:=0
def tw16228199491583274062:=0
def tw7096814913512715822:=0
def tw385052689243611726:=0
def tw13310083944850564974:=0
def tw9129280097545666446:=0
def tw6290321272673148303:=0
def tw600755303976735151:=0
def tw8563732224281877071:=0
def tw16124981574607858479:=0
def tw7690119651371877199:=0
def tw7829145441965850800:=0
def tw982687390337424688:=0
def tw17510476090038287824:=0
def tw16481362236016703152:=0
def tw5507984856047559376:=0
def tw15361702673007056945:=0
def tw9572983856545111409:=0
def tw17163937814898973073:=0
def tw1276967280466335441:=0
def tw4190406066659019858:=0
def tw16149937952145912050:=0
def tw12108021381469781266:=0
def tw1097611279210613234:=0
def tw8347952536731553266:=0
def tw10841541233405207058:=0
def tw5640810869905107251:=0
def tw8671535379221267891:=0
def tw7808155117494521523:=0
def tw3461406091684994835:=0
def tw16871068959590084435:=0
def tw9381311119206227891:=0
def tw3248525239016395731:=0
def tw17088171153691586708:=0
def tw4629194257545882804:=0
def tw6162144529901480148:=0
def tw12862972516756365012:=0
def tw7648975875661999828:=0
def tw12569186402874793972:=0
def tw12335279153876271157:=0
def tw17002598826540114005:=0
def tw15976179287645937973:=0
def tw7265473785410724213:=0
def tw6428799078572729717:=0
def tw3688812979470251445:=0
def tw5219682101761037781:=0
def tw4781445819335016085:=0
def tw13203232505845193397:=0
def tw15860174874206124917:=0
def tw16380181439245329462:=0
def tw10152392981234233398:=0
def tw15623980958563751990:=0
def tw15408159592132820214:=0
def tw16157141374411456822:=0
def tw12534129045667236246:=0
def tw9046928515450241462:=0
def tw7583910187114227254:=0
def tw7992972301337801526:=0
def tw18425401685914214294:=0
def tw11243977649562589142:=0
def tw11083189671736658071:=0
def tw12385327668614645943:=0
def tw6939180739986628919:=0
def tw8547841120185096695:=0
def tw5922610647331113591:=0
def tw9949559464528706327:=0
def tw14409930345550774071:=0
def tw1092172129057726295:=0
def tw12570520974906222455:=0
def tw6784699659871120279:=0
def tw7378704914688502872:=0
def tw14065806103180383480:=0
def tw17084424727849508152:=0
def tw9726724021689639320:=0
def tw14757944962940222264:=0
def tw7354764248728801112:=0
def tw7729904995629575000:=0
def tw13873309422329140152:=0
def tw6992766872628887577:=0
def tw16676593018000669849:=0
def tw7877381441582289145:=0
def tw5746409365611101657:=0
def tw3853974594536012249:=0
def tw3202302076236441273:=0
def tw4454067117168877401:=0
def tw14567797930424051705:=0
def tw14961440811340651674:=0
def tw4702435260847713498:=0
def tw1758916160628883802:=0
def tw4699607666228333914:=0
def tw9233524740884011354:=0
def tw1313896610379243994:=0
def tw955077221648898746:=0
def tw4806128106740268922:=0
def tw17793707751830856795:=0
def tw3664466842811966651:=0
def tw16225416708823743867:=0
def tw13747847109187746363:=0
def tw9486857265821893243:=0
def tw2988847030974593723:=0
def tw8714061940960128763:=0
def tw1558918576366607163:=0
def tw1502236707282014107:=0
def tw3382759103455979451:=0
def tw12383507864539165756:=0
def tw16489412104425929852:=0
def tw7591180225539116380:=0
def tw11552711996082220476:=0
def tw4938733673067768444:=0
def tw11340283767438058172:=0
def tw18417094292196794076:=0
def tw15064360834518465276:=0
def tw368498568385062716:=0
def tw9562422753563100028:=0
def tw456033647103991676:=0
def tw16854581865045366813:=0
def tw3220668995100919837:=0
def tw3970900402470009053:=0
def tw361210355151452477:=0
def tw16598776667757066717:=0
def tw4932116493004767741:=0
def tw11323257910160802301:=0
def tw15670406187743926109:=0
def tw2585795478249204926:=0
def tw47224237012883742:=0
def tw3259252763078589726:=0
def tw10927314917001162142:=0
def tw1092606982096414270:=0
def tw5504255764245222174:=0
def tw5328810803081494655:=0
def tw1107166878193277183:=0
def tw14260328216063549983:=0
def tw9824044504913909343:=0
def tw15961055910230658655:=0
def tw11183737778827167583:=0
def tw4589506555110347711:=0
def tw7940659742970136575:=0
end PySem.W.Fast
namespace K
open PySem PySem.Spec PyProof.Rows L2
theorem pJ:ki "TooFar.__init__" "part" "part" (inClass (top 3) 0):=⟨⟨rfl,rfl,rfl,by decide +kernel,rfl,by decide +kernel,by decide +kernel⟩,⟨_,_,_,_,rfl,λ_=>rfl,λ_=>rfl⟩,rfl,rfl,by decide,by decide,λ_ _ _ _ _ _ us hl=>match us,hl with | [_,_],_=>rfl⟩
theorem m8:ki "NoPrime.__init__" "divisor" "divisor" (inClass (top 4) 0):=⟨⟨rfl,rfl,rfl,by decide +kernel,rfl,by decide +kernel,by decide +kernel⟩,⟨_,_,_,_,rfl,λ_=>rfl,λ_=>rfl⟩,rfl,rfl,by decide,by decide,λ_ _ _ _ _ _ us hl=>match us,hl with | [_,_],_=>rfl⟩
theorem kA:ki "NoInverse.__init__" "divisor" "divisor" (inClass (top 5) 0):=⟨⟨rfl,rfl,rfl,by decide +kernel,rfl,by decide +kernel,by decide +kernel⟩,⟨_,_,_,_,rfl,λ_=>rfl,λ_=>rfl⟩,rfl,rfl,by decide,by decide,λ_ _ _ _ _ _ us hl=>match us,hl with | [_,_],_=>rfl⟩
end K
open PySem PySem.W PyProof.Rows L2
set_option maxHeartbeats 0 in
theorem PySem.Challenge.cw_rootprime_k85_whole_wrong_powers_by_grea_holds : PySem.Challenge.rw_rootprime_k85_whole_wrong_powers_by_grea.Holds := by
 w_on;o_law;k_head;(case hw=>w_witness2)
 k_fill
 refine L2.sM (l:=PySem.Challenge.rw_rootprime_k85_whole_wrong_powers_by_grea) (n:=63) (k:=68) (x := "_law_script") (CX:=L2.aM) (sp:=K.vH) rfl (by decide) rfl ⟨rfl,by decide,by decide⟩ (λw h Y=>PySem.W.kIn_of Y) ?F ?S ?C
 case F =>
  intro w mg fa h KX G hmg
  have d_divisor:L2.av (L2.cR KX) mg "divisor" (K.top 7):=K.cW KX G
  have d_inverse:L2.av (L2.cR KX) mg "inverse" (K.top 8):=K.cW KX G
  have d_is_whole:L2.av (L2.cR KX) mg "is_whole" (K.top 10):=K.cW KX G
  have d_is_tuple_of:L2.av (L2.cR KX) mg "is_tuple_of" (K.top 11):=K.cW KX G
  have d_is_pair:L2.av (L2.cR KX) mg "is_pair" (K.top 12):=K.cW KX G
  have d_is_just:L2.av (L2.cR KX) mg "is_just" (K.top 13):=K.cW KX G
  have d_are_just:L2.av (L2.cR KX) mg "are_just" (K.top 14):=K.cW KX G
  have d_primes_in:L2.av (L2.cR KX) mg "primes_in" (K.top 15):=K.cW KX G
  have d_power:L2.av (L2.cR KX) mg "power" (K.top 17):=K.cW KX G
  have d_is_least:L2.av (L2.cR KX) mg "is_least" (K.top 18):=K.cW KX G
  have d_is_prime_paper:L2.av (L2.cR KX) mg "is_prime_paper" (K.top 20):=K.cW KX G
  have d_is_order:L2.av (L2.cR KX) mg "is_order" (K.top 21):=K.cW KX G
  have d_are_prime_papers:L2.av (L2.cR KX) mg "are_prime_papers" (K.top 22):=K.cW KX G
  have d_is_right_above:L2.av (L2.cR KX) mg "is_right_above" (K.top 23):=K.cW KX G
  have d_is_paper_form:L2.av (L2.cR KX) mg "is_paper_form" (K.top 24):=K.cW KX G
  have d_come_to:L2.av (L2.cR KX) mg "come_to" (K.top 25):=K.cW KX G
  have d_is_row_form:L2.av (L2.cR KX) mg "is_row_form" (K.top 26):=K.cW KX G
  have d_without:L2.av (L2.cR KX) mg "without" (K.top 27):=K.cW KX G
  have d_shows_which:L2.av (L2.cR KX) mg "shows_which" (K.top 29):=K.cW KX G
  have d_shows_no_power:L2.av (L2.cR KX) mg "shows_no_power" (K.top 30):=K.cW KX G
  have d_is_which:L2.av (L2.cR KX) mg "is_which" (K.top 31):=K.cW KX G
  have d_digit_rows:L2.av (L2.cR KX) mg "digit_rows" (K.top 32):=K.cW KX G
  have d_digits_by:L2.av (L2.cR KX) mg "digits_by" (K.top 33):=K.cW KX G
  have d_least_divisor:L2.av (L2.cR KX) mg "least_divisor" (K.top 36):=K.cW KX G
  have d_least_divisor_from:L2.av (L2.cR KX) mg "least_divisor_from" (K.top 37):=K.cW KX G
  have d_parted:L2.av (L2.cR KX) mg "parted" (K.top 38):=K.cW KX G
  have d_prime_paper:L2.av (L2.cR KX) mg "prime_paper" (K.top 40):=K.cW KX G
  have d_parting_paper:L2.av (L2.cR KX) mg "parting_paper" (K.top 41):=K.cW KX G
  have d_least_full:L2.av (L2.cR KX) mg "least_full" (K.top 42):=K.cW KX G
  have d__law_tape:L2.av (L2.cR KX) mg "_law_tape" (K.top 44):=K.cW KX G
  have d__law_draw:L2.av (L2.cR KX) mg "_law_draw" (K.top 45):=K.cW KX G
  have d__law_far:L2.av (L2.cR KX) mg "_law_far" (K.top 46):=K.cW KX G
  have d__law_is_prime:L2.av (L2.cR KX) mg "_law_is_prime" (K.top 47):=K.cW KX G
  have d__law_prime:L2.av (L2.cR KX) mg "_law_prime" (K.top 48):=K.cW KX G
  have d__law_any_prime:L2.av (L2.cR KX) mg "_law_any_prime" (K.top 49):=K.cW KX G
  have d__law_common:L2.av (L2.cR KX) mg "_law_common" (K.top 50):=K.cW KX G
  have d__law_power:L2.av (L2.cR KX) mg "_law_power" (K.top 51):=K.cW KX G
  have d__law_order_by:L2.av (L2.cR KX) mg "_law_order_by" (K.top 52):=K.cW KX G
  have d__law_primes_by:L2.av (L2.cR KX) mg "_law_primes_by" (K.top 53):=K.cW KX G
  have d__law_digits:L2.av (L2.cR KX) mg "_law_digits" (K.top 54):=K.cW KX G
  have d__law_same:L2.av (L2.cR KX) mg "_law_same" (K.top 55):=K.cW KX G
  have d__law_odd:L2.av (L2.cR KX) mg "_law_odd" (K.top 56):=K.cW KX G
  have d__law_bent_row:L2.av (L2.cR KX) mg "_law_bent_row" (K.top 57):=K.cW KX G
  have d__law_bent_parts:L2.av (L2.cR KX) mg "_law_bent_parts" (K.top 58):=K.cW KX G
  have d__law_is:L2.av (L2.cR KX) mg "_law_is" (K.top 59):=K.cW KX G
  have d__law_bent:L2.av (L2.cR KX) mg "_law_bent" (K.top 60):=K.cW KX G
  have d__law_prime_here:L2.av (L2.cR KX) mg "_law_prime_here" (K.top 61):=K.cW KX G
  have d__law_due_great:L2.av (L2.cR KX) mg "_law_due_great" (K.top 62):=K.cW KX G
  have d_law:L2.av (L2.cR KX) mg "law" (K.top 63):=K.cW KX G
  have n_abs:mg "abs"=none:=PySem.W.mg_none_of KX G (by k_is)
  have n_int:mg "int"=none:=PySem.W.mg_none_of KX G (by k_is)
  have n_bool:mg "bool"=none:=PySem.W.mg_none_of KX G (by k_is)
  have n_isinstance:mg "isinstance"=none:=PySem.W.mg_none_of KX G (by k_is)
  have n_range:mg "range"=none:=PySem.W.mg_none_of KX G (by k_is)
  have n_tuple:mg "tuple"=none:=PySem.W.mg_none_of KX G (by k_is)
  have n_all:mg "all"=none:=PySem.W.mg_none_of KX G (by k_is)
  have n_list:mg "list"=none:=PySem.W.mg_none_of KX G (by k_is)
  have n_len:mg "len"=none:=PySem.W.mg_none_of KX G (by k_is)
  have n_zip:mg "zip"=none:=PySem.W.mg_none_of KX G (by k_is)
  refine' L2.fw (PySem.W.mg_of (n := "PrimeError") KX G ?xa) (λa_PrimeError=>?g1)
  (case xa=>k_is)
  refine' L2.fw (L2.gF KX a_PrimeError ?l ?c2 ?c3 ?e1 ?e2 ?e3 ?e4 ?e5 ?e6 ?ob ?kp) (λc_PrimeError=>?g2)
  (case l=>k_is);(case c2=>rfl);(case c3=>rfl);(case e1=>k_is);(case e2=>k_is);(case e3=>k_is);(case e4=>k_is);(case e5=>k_is);(case e6=>k_is);(case ob=>exact⟨_,_,_,_,_,_,_,_,_,_,_,_,_,_,_,_,rfl,rfl,rfl,rfl⟩);(case kp=>k_is)
  refine' L2.fw (L2.oV a_PrimeError c_PrimeError.2 c_PrimeError.1 ?i) (λx_PrimeError=>?g3)
  (case i=>k_is)
  refine' L2.fw (PySem.W.mg_of (n := "NoNumber") KX G ?xa) (λa_NoNumber=>?g4)
  (case xa=>k_is)
  refine' L2.fw (L2.gF KX a_NoNumber ?l ?c2 ?c3 ?e1 ?e2 ?e3 ?e4 ?e5 ?e6 ?ob ?kp) (λc_NoNumber=>?g5)
  (case l=>k_is);(case c2=>rfl);(case c3=>rfl);(case e1=>k_is);(case e2=>k_is);(case e3=>k_is);(case e4=>k_is);(case e5=>k_is);(case e6=>k_is);(case ob=>exact⟨_,_,_,_,_,_,_,_,_,_,_,_,_,_,_,_,rfl,rfl,rfl,rfl⟩);(case kp=>k_is)
  refine' L2.fw (L2.oV a_NoNumber c_NoNumber.2 c_NoNumber.1 ?i) (λx_NoNumber=>?g6)
  (case i=>k_is)
  refine' L2.fw (PySem.W.mg_of (n := "TooFar") KX G ?xa) (λa_TooFar=>?g7)
  (case xa=>k_is)
  refine' L2.fw (L2.gF KX a_TooFar ?l ?c2 ?c3 ?e1 ?e2 ?e3 ?e4 ?e5 ?e6 ?ob ?kp) (λc_TooFar=>?g8)
  (case l=>k_is);(case c2=>rfl);(case c3=>rfl);(case e1=>k_is);(case e2=>k_is);(case e3=>k_is);(case e4=>k_is);(case e5=>k_is);(case e6=>k_is);(case ob=>exact⟨_,_,_,_,_,_,_,_,_,_,_,_,_,_,_,_,rfl,rfl,rfl,rfl⟩);(case kp=>k_is)
  refine' L2.fw (L2.lh K.pJ a_TooFar c_TooFar.2 c_TooFar.1 ?nf ?i ?fn ?l ?cc ?kk) (λx_TooFar=>?g9)
  (case nf=>k_is);(case i=>k_is);(case fn=>k_is);(case l=>k_is);(case cc=>k_is);(case kk=>k_is)
  refine' L2.fw (PySem.W.mg_of (n := "NoPrime") KX G ?xa) (λa_NoPrime=>?g10)
  (case xa=>k_is)
  refine' L2.fw (L2.gF KX a_NoPrime ?l ?c2 ?c3 ?e1 ?e2 ?e3 ?e4 ?e5 ?e6 ?ob ?kp) (λc_NoPrime=>?g11)
  (case l=>k_is);(case c2=>rfl);(case c3=>rfl);(case e1=>k_is);(case e2=>k_is);(case e3=>k_is);(case e4=>k_is);(case e5=>k_is);(case e6=>k_is);(case ob=>exact⟨_,_,_,_,_,_,_,_,_,_,_,_,_,_,_,_,rfl,rfl,rfl,rfl⟩);(case kp=>k_is)
  refine' L2.fw (L2.lh K.m8 a_NoPrime c_NoPrime.2 c_NoPrime.1 ?nf ?i ?fn ?l ?cc ?kk) (λx_NoPrime=>?g12)
  (case nf=>k_is);(case i=>k_is);(case fn=>k_is);(case l=>k_is);(case cc=>k_is);(case kk=>k_is)
  refine' L2.fw (PySem.W.mg_of (n := "NoInverse") KX G ?xa) (λa_NoInverse=>?g13)
  (case xa=>k_is)
  refine' L2.fw (L2.gF KX a_NoInverse ?l ?c2 ?c3 ?e1 ?e2 ?e3 ?e4 ?e5 ?e6 ?ob ?kp) (λc_NoInverse=>?g14)
  (case l=>k_is);(case c2=>rfl);(case c3=>rfl);(case e1=>k_is);(case e2=>k_is);(case e3=>k_is);(case e4=>k_is);(case e5=>k_is);(case e6=>k_is);(case ob=>exact⟨_,_,_,_,_,_,_,_,_,_,_,_,_,_,_,_,rfl,rfl,rfl,rfl⟩);(case kp=>k_is)
  refine' L2.fw (L2.lh K.kA a_NoInverse c_NoInverse.2 c_NoInverse.1 ?nf ?i ?fn ?l ?cc ?kk) (λx_NoInverse=>?g15)
  (case nf=>k_is);(case i=>k_is);(case fn=>k_is);(case l=>k_is);(case cc=>k_is);(case kk=>k_is)
  refine' L2.fw (PySem.W.mg_of (n := "GREATEST") KX G ?xa) (λg_GREATEST=>?g16)
  (case xa=>k_is)
  refine L2.tY hmg d_law (λ_ _ _ _ _ _ _=>rfl) λbase f fd kb F=>?_
  have dvr:=λP w=>K.nA (P:=P) (w:=w) (base:=base) d_divisor n_abs
  have inv:=λP w=>K.nB (P:=P) (w:=w) (base:=base) d_inverse (dvr P w) (x_NoInverse _ _ _)
  have pw:=λP w=>K.rz (P:=P) (w:=w) (base:=base) d_power (inv P w) n_abs
  have lt:=λP w=>K.nF (P:=P) (w:=w) (base:=base) d_is_least (pw P w) n_all
  have fr:=λP w=>K.uh (P:=P) (w:=w) (base:=base) d_least_divisor_from
  have ls:=λP w=>K.ro (P:=P) (w:=w) (base:=base) d_least_divisor (fr P w) x_NoNumber (x_TooFar _ _ _) ⟨_,g_GREATEST⟩
  have pd:=λP w=>K.pV (P:=P) (w:=w) (base:=base) d_parted (fr P w) x_NoNumber (x_TooFar _ _ _) ⟨_,g_GREATEST⟩
  have pi:=λP w=>K.lX (P:=P) (w:=w) (base:=base) d_primes_in
  have pp:=λP w=>K.wQ (K.jW (P:=P) (w:=w) (base:=base) d_prime_paper d_parting_paper (ls P w) (pd P w) (K.kG d_least_full (lt P w)) (pi P w) (x_NoPrime _ _ _) n_tuple 30).1
  have dw:=λP w=>K.uf (P:=P) (w:=w) (base:=base) d__law_draw n_len
  have lp:=λP w=>K.ui (P:=P) (w:=w) (base:=base) d__law_power
  have fa:=λP w=>K.ug (P:=P) (w:=w) (base:=base) d__law_far (dw P w)
  have wl:=λP w=>K.zu (P:=P) (w:=w) (base:=base) d_is_whole n_isinstance n_int n_bool
  have tf:=λP w=>K.wI (P:=P) (w:=w) (base:=base) d_is_tuple_of n_isinstance n_tuple n_len
  have pf:=λP w=>K.yc (P:=P) (w:=w) (base:=base) d_is_paper_form (wl P w) (tf P w) n_isinstance n_tuple
  have rf:=λP w=>K.yf (P:=P) (w:=w) (base:=base) d_is_row_form (wl P w) (tf P w) (pf P w)
  have ct:=λP w=>K.ya (P:=P) (w:=w) (base:=base) d_come_to (rf P w) (K.yg d_without)
  have rab:=λP w=>K.ye (P:=P) (w:=w) (base:=base) d_is_right_above (pf P w) (ct P w) (lt P w) (pi P w)
  have ppr:=λP w=>K.yd (P:=P) (w:=w) (base:=base) d_is_prime_paper (K.wH d_are_prime_papers (rab P w) n_list)
  have iord:=λP w=>K.nG (P:=P) (w:=w) (base:=base) d_is_order (lt P w) (pi P w)
  have jst:=λP w=>K.oC (P:=P) (w:=w) (base:=base) (fi:=0) d_is_just d_are_just (wl P w) n_isinstance n_list n_tuple n_len n_zip n_all 7
  have shw:=λP w=>K.pZ (P:=P) (w:=w) (base:=base) d_shows_which (ppr P w) (tf P w) (K.lZ d_shows_no_power (wl P w) (iord P w) (pw P w) (jst P w)) (K.lV d_is_which (K.rq d_is_pair (tf P w) (wl P w)) (iord P w) (pw P w)) (jst P w) (K.ue d_digit_rows (K.ud d_digits_by n_tuple) (pi P w) n_tuple)
  have ob:=λP w=>K.nH (P:=P) (w:=w) (base:=base) d__law_order_by (lp P w)
  have pb:=λP w=>K.lW (P:=P) (w:=w) (base:=base) d__law_primes_by
  have is_:=λP w=>K.yb (P:=P) (w:=w) (base:=base) d__law_is (pb P w) (K.wD d__law_digits) n_tuple
  have br:=λP w=>K.ny (P:=P) (w:=w) (base:=base) d__law_bent_row (dw P w) (K.wG d__law_odd (dw P w) n_len) n_len n_isinstance n_list
  exact K.wF F (K.uj d__law_tape) (dw _ _) (K.kH d__law_prime_here (dw _ _) (K.lU d__law_any_prime (dw _ _) (fa _ _) (K.pW d__law_prime (K.pT d__law_is_prime n_int)))) (pp _ _) (fa _ _) (K.pS d__law_common) (lp _ _) (ob _ _) (K.rh d__law_due_great (ob _ _) (lp _ _) (is_ _ _)) (shw _ _) (K.uc d__law_bent (dw _ _) (fa _ _) (is_ _ _) (pb _ _) (br _ _) (K.kF d__law_bent_parts (dw _ _) (br _ _) n_len) n_len) (K.lY d__law_same n_isinstance n_bool n_list n_tuple n_len n_zip n_all 9) n_range
 case S=>exact λK H a ns hl hO hS=>⟨a,ns,rfl,hS,hl,λ_=>rfl⟩
 case C=>exact λ_ _ _ _ z=>z
